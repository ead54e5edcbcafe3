import PyProof.Rows.All
import Wide.All
import OpenK.AllK
import Wide.FinOn
import Lean
import PyProof.EqAt
import PyProof.EqKinds
import PyProof.TupleCall
import PyProof.StrCalls2
import PyProof.StrCalls3
import PyProof.StrCalls
import PyProof.StrWalks
import PyProof.FString
import KE.KIntText
import PyProof.FitsReplace
import PyProof.StrLawsTight
import PyProof.StrLawsOcc
import PyProof.StrBlockI
import PyProof.SliceStr2
import PyProof.StrLawsChain
import PyProof.StrLaws
import PyProof.Rows.StrJoinMade
import PyProof.StrLawsIdx
import PyProof.StrLawsJoin
import PyProof.Rows.SortStr
import KE.KDictSum
import PyProof.DictKeyH
import PyProof.DictFindH
import KE.KDictList
import PyProof.DictWalks
import PySem.Challenge.RW_signsmooth_k67_steps_changed
set_option genSizeOf false
set_option compiler.extract_closed false
set_option bootstrap.genMatcherCode false
set_option Elab.async false
set_option linter.all false
set_option maxRecDepth 100000
set_option exponentiation.threshold 4000
open List renaming length_map→fw,mem_singleton→ib,range→ox,getElem?_eq_getElem→ph,mem_cons_of_mem→pq,mem_cons_self→rp,mem_append_right→tf,length_append→vp,mem_cons→xb,size_toArray→Gu,mem_append→Gv,getElem?_append_left→Gw,take_of_length_le→Gx,mem_map→Gy,replicate→GA,getElem?_eq_some_iff→GD,mem_append_left→GF,length_cons→GK,getElem?_map→GL,map_append→GN,map_map→GO,map_cons→GP,mem_range→GQ,getElem?_append_right→GU,getD_eq_getElem?_getD→GV,getElem?_set_ne→GW,map_congr_left→GY,length_take→GZ,getElem?_set_self→G1,append_nil→G3,lookup_cons→G6,length_set→G7,nodup_cons→Ha,all_eq_true→Hb,length_range→Hd,mem_of_getElem?→He,replicate_succ→Hk,not_mem_nil→Hl,foldl_append→Hm,cons_append→Hq,append_assoc→Ht,flatten_cons→HA,eraseIdx_eq_take_drop_succ→HB,range_succ→HD,filter_append→HF,getElem?_replicate→HI,nodup_append→HQ,find?_cons→HU,map_take→Ik,getElem_map→Il,drop_eq_nil_of_le→Io,getElem?_eq_none→Iy,mem_of_mem_take→ID,mem_of_find?_eq_some→IF,mem_filter→IQ,getElem?_cons_succ→IS,foldl_cons→IT,any_cons→IU,filter_congr→Jc,mem_flatMap→Jn,filter_cons→Jo,ext_getElem→Jp,not_lt→Ju,lookup→Jv,length_pos_iff→Jw,getElem_of_mem→Jx,length_eraseIdx_of_lt→JB,nodup_nil→JG,getD→JN,map_drop→JS,length_drop→J0,find?_cons_of_pos→J4,find?_cons_of_neg→J5,length_singleton→Kb,length_nil→Kc,filter_nil→Kd,flatMap_append→Ko,filterMap_cons→Kp,countP_eq_zero→Kq,countP_append→Kz,all_cons→KA,find?_append→KL,map_nil→KU,all_map→KW,take_length→K2,any_eq_true→K3,of_mem_zip→Lf,nil_append→Lg,take_succ→Lq,getElem?_take_of_lt→Lx,length_eq_zero_iff→LC,filter_cons_of_pos→LD,filter_cons_of_neg→LF,range_succ_eq_map→LN,drop_of_length_le→LO
open PySem.W renaming Frag→gV,keepIn→G9,findIn→Hj,fnOf→Hr,emptyDict→Hw,codeIn→HX,instObj→Ib,nsIn→Ig,kia_one→Ip,mg_of→Iu,plainGet→Jd,hasDictIn→JD,methodCall_KW→JV,isFn→JW,plainGet_of→Kf,plainOver→Ks,methodObj→Kt,makesIn→KQ,OpenLaw→KR,lookIn→K4,cellsFrom_some→Lm,callWith_K0→LL
open Nat renaming le_refl→ia,lt_of_lt_of_le→Gz,le_trans→GB,ne_of_lt→GR,lt_of_le_of_lt→GX,mul_le_mul_right→G2,zero_le→G5,pow_le_pow_right→Hg,lt_irrefl→Hs,two_pow_pos→Hv,le_succ→HH,lt_trans→HP,not_lt_zero→HV,add_le_add_left→HW,le_of_lt→Ia,testBit_two_pow_of_ne→Ic,succ_mul→Ij,eq_zero_or_pos→Iq,mul_succ→IA,add_assoc→IB,mul_le_mul_left→IL,testBit_two_pow_self→IM,min_eq_left→IY,testBit_or→Ji,min_eq_right→Jq,log2_lt→Jz,lt_or_ge→JF,lt_succ_of_lt→JR,exists_eq_add_of_le→JZ,pow_succ→Kj,le_total→Kk,gcd_comm→Kl,eq_of_testBit_eq→Kn,sub_self→K1,succ_ne_self→K8,succ_le_succ→K9,lt_succ_self→La,pow_add→Lk,mul_lt_mul_of_pos_left→Lp,mul_le_mul→Lw,le_mul_of_pos_right→LM
open PySem.Heap renaming get?_push_of_some→ip,get?_push_size→Et,lt_size→Gr,size_push→HC,SameBut→Jh,get?_update_other→J3,get?_update_self→J7
open Bool renaming false_ne_true→xa,and_eq_true→Hc,false_eq_true→HZ,eq_iff_iff→IV,or_false→JT,not_true→KC,not_eq_true'→KN,or_true→KY
open Int renaming toNat_natCast→GC,gcd→GG,fdiv_eq_ediv_of_nonneg→Hn,eq_ofNat_of_zero_le→HJ,gcd_dvd_right→HR,fmod_eq_emod_of_nonneg→HY,natCast_nonneg→Ir,gcd_dvd_left→IJ,natCast_pow→IZ,mul_pos→Jf,mul_le_mul→Jj,dvd_trans→Jt,toNat→JA,natAbs_natCast→JH,mul_assoc→J1,fmod_nonneg_of_pos→J6,mul_comm→Km,toNat_zero→Kr,toNat_of_nonneg→Kw,fmod_lt_of_pos→KJ,ofNat→Ll,natAbs_mul→Ly,natAbs_ediv_le_natAbs→Lz,mul_ediv_cancel_left→LG
open PySem.Builtin.Tuple renaming tupleHashOf→GH,tupleExact→Iw,tupleItemsOf→Je
open PySem.Value renaming ref→GI,none→Hz,bool→HE,builtin→JO,type→KH,str→K5,int→K6
open Rat renaming intCast_mul→GJ,add_zero→HM,one_mul→Iz,mul_zero→Jl,intCast_add→Jy,zero_mul→Ke,mul_assoc→KG,mul_one→Lh,natCast_eq_zero_iff→LH
open Option.some renaming inj→GS,injEq→Ki
open Or renaming inr→G0,inl→Hh
open PyProof.Rows renaming callWith_type1→G4,strOf→Ii,slot_tuple_getitem→Ka,strKind_oneLt→Kv,keyKind_strs→Ky
open Array renaming length_toList→G8,getElem?_eq_getElem→IE,getElem?_toList→Jg,forIn_toList→JC,toList→KO
open Ne renaming symm→Hi
open PySem.PyData renaming eqv→Ho,canLay0→IC,depth→Jb,eqvAll→JM,strOk→J2,canLayAll0→Kx,depthAll→K0
open PySem.NameKind renaming free→Hu,cell→HG
open True renaming intro→HL
open Option renaming map_some→HN,map_eq_some_iff→IX,getD_some→JQ,isSome_iff_exists→Lj
open PySem.F renaming slot_dict_keyiterator_next→HS,plainAttrs_list→Ih,slot_dict_get→Ja,args_tuple_add_2→JE,plainAttrs_dict→JJ,entry_tuple_add→JK,slot_tuple_add→JP,slot_tuple_hash→JX,slot_list_append→JY,args_dict_keyiterator_next_1→J8,entry_dict_keyiterator_next→Kg,type_list_append→Lc,slot_dict_values→Ld,slot_dict_iter→Ln,entry_dict_get→Lo,type_dict_get→Lv,slot_range_iterator_next→LA
open False renaming elim→Ie
open PySem.Calls renaming callWith_builtin→Im,spliced_cons→IP,spliced_nil→JL,evalArgs_plain→Kh,Name_function_global→Le
open PySem renaming mem_of_lookup→IG,Env→Js,Within→LK
open PySem.PassesOwn renaming never→IH
open ForInStep renaming yield→II
open Sum renaming inl→IW,inr→JU
open Function renaming comp→Jk
open PySem.Builtin.Slice renaming slicePlaces→Jm,sliceAdjust→Ku
open PySem.Builtin.List renaming listTooLong→Jr
open Sum.inr renaming inj→JI
open PySem.Builtin renaming bitNot→J9,bitAnd→K7,bitOr→Li
open PySem.Obj renaming mapFields→KI,mapSeq→KS
open Sum.inl renaming inj→KP
open PySem.Str renaming ofString→KZ
open PySem.Heap.SameBut renaming update→Lb
open PySem.SeqAt.EqAt renaming str_int→Lr,int_str→Lu
open PySem.Around renaming under→LB
namespace Hx
open PySem PySem.Spec PyProof.Rows
theorem mz:entryFor table "proto.unchain" = some Builtin.«proto.unchain»:=entryFor_of_tree (by kernel_rfl)
section
variable {prog:Program}{w:World}{A:Around}{E:Value->Shared->Prop}{s:Shared}
theorem pW {α:Type}{a h:Addr}{oa oh:Obj}{us vs:Array Value}{Q:α->Shared->Prop}(hh:A.handled=some (.ref h))(hne:h≠a)(ha:s.heap.get? a=some oa)(hda:oa.data=.fields us)(hsz:2<us.size)
   (ho:s.heap.get? h=some oh) (hd:oh.data=.fields vs) (h2:vs[2]?=some .none)
   (q:E (.ref a) { s with heap:=s.heap.update a (KI (·.setIfInBounds 2 (.ref h))) }):wpAny (model prog w) A (raiseNew (.ref a):Sem α) Q E s:=by
 unfold raiseNew; refine wpAny_bind (wpAny_handled ?_); rw[hh];dsimp only;rw[if_pos (show (GI h != GI a)=true by simp[hne])];refine wpAny_bind (wpAny_holding (wpAny_runValue (codeAny_builtin mz ?_)));unfold Builtin.«proto.unchain»;dsimp only;refine wpAny_bind (wpAny_field ho hd h2 ?_);rw[if_pos (show (Hz==Hz)=true by decide)];refine wpAny_pure ?_;show wpAny _ A (do let _ <- updateField a 2 (.ref h); throw (GI a)) _ _ _;unfold updateField;refine wpAny_bind (wpAny_bind (wpAny_load ha ?_));rw[hda];dsimp only;rw[if_pos hsz];exact wpAny_update ha (wpAny_throw q)
theorem sT {r h:Addr}{v left step:Int}{oh:Obj}{vs:Array Value}{Q:Option Value->Shared->Prop}(hh:A.handled=some (.ref h))(ho:s.heap.get? h=some oh)(hd:oh.data=.fields vs)(h2:vs[2]?=some .none)
   (hr:IsRangeIter s.heap r v left step) (hl:left<=0) (k:∀h',Heap.ExtBut r s.heap h'->Q none { s with heap:=h' }):wpAny (model prog w) A (pyNext (.ref r)) Q E s:=by
 have ty:s.TypeIs (.ref r) "range_iterator":=⟨_,hr,rfl⟩;have hlt:=Gr ho;have fl:∀{α:Type} {B:Around} {F:Value->Shared->Prop} {R:α->Shared->Prop} (i:Nat) (y:Int) {f:Value->Sem α},(#[rawInt v,rawInt left,rawInt step]:Array Value)[i]?=some (rawInt y)->wpAny (model prog w) B (f (rawInt y)) R F s->wpAny (model prog w) B (field (.ref r) i >>= f) R F s:=by intro α B F R i y f e q;exact wpAny_bind (wpAny_field hr rfl e q)
 unfold pyNext;refine wpAny_bind (wpAny_attempt (wpAny_callSpecial?_slot (name:=KZ "__next__") ty LA (wpAny_call_entry LA ty F.entry_range_iterator_next (fl 0 v rfl (fl 1 left rfl (fl 2 step rfl ?_))) (F.args_range_iterator_next_1 _))));show wpAny (model prog w) A.in1 (if left<=0 then _ else _) _ _ s;rw[if_pos hl];refine wpAny_bind (wpAny_rule (wpAny_bind ?_));show wpAny _ _ (do let e <- newExc (.type "StopIteration") []; _) _ _ _;refine wpAny_bind ?_;simp only[newExc,newTuple];refine wpAny_bind (wpAny_newObj_type (wpAny_bind (m:=firstArgMember _ _) (wpAny_of_eq (a:=.none) (by first | rfl | (simp only[firstArgMember]; rfl)) (wpAny_newObj_type ?_ (by size_fits)))) (by size_fits))
 have hg:((s.heap.push { cls:=.type "tuple",data:=.seq ([]:List Value).toArray }).push { cls:=.type "StopIteration",data:=.fields (#[GI s.heap.objs.size,.none,.none,.none,.bool false,.none]++ownMembersOf (.type "StopIteration") []) }).get? (s.heap.push { cls:=.type "tuple",data:=.seq ([]:List Value).toArray }).objs.size
     = some { cls:=.type "StopIteration",data:=.fields (#[GI s.heap.objs.size,.none,.none,.none,.bool false,.none]++ownMembersOf (.type "StopIteration") []) }:=Et _ rfl
 refine pW (h:=h) (A:=A.in1) hh ?_ hg rfl (by rw[Array.size_append]; exact Gz (by decide:2<6) (Nat.le_add_right _ _)) (ip _ (ip _ ho)) hd h2 ?_
 . intro z;rw[HC]at z;exact absurd hlt (by rw[z]; exact Nat.not_lt.mpr (HH _))
 have hu:=J7 (KI (·.setIfInBounds 2 (.ref h))) hg rfl;refine wpAny_bind (wpAny_isInstance (T:="StopIteration") (b:=true) ⟨_,hu,rfl⟩ isSubtype_stop ?_);refine wpAny_pure (k _ λb o hb e=>?_);have bl:=Gr e;rw[J3 _ _ (by intro z; rw[HC]at z; exact absurd bl (by rw[<- z]; exact Nat.not_lt.mpr (HH _)))];exact ip _ (ip _ e)
end
end Hx
set_option linter.all false
set_option maxRecDepth 100000
namespace L2
open PySem PySem.Spec PyProof.Rows
noncomputable abbrev Key:=Sum Int Str
noncomputable def lC:Key->Value->Bool
 | .inl k,v=>Value.isInt k v
 | .inr x,v=>Value.isStrOf x v
noncomputable def FP (w:World):Key->Int
 | .inl k=>hashInt k
 | .inr x=>hashStr w x
theorem bc:∀{k:Key} {v:Value},lC k v=true->(∃i t,k=IW i/\v=K6 i t)\/(∃x t,k=JU x/\v=K5 x t)
 | .inl i,v,h=>by obtain⟨t,e⟩:=Value.isInt_shape (k:=i) (v:=v) h;exact .inl ⟨i,t,rfl,e⟩
 | .inr x,v,h=>by obtain⟨t,e⟩:=Value.isStrOf_shape (x:=x) (v:=v) h;exact .inr ⟨x,t,rfl,e⟩
theorem wL (i:Int)(t:Tok):lC (.inl i) (.int i t)=true:=by simp[lC,Value.isInt]
theorem v8 (x:Str)(t:Tok):lC (.inr x) (.str x t)=true:=by simp[lC,Value.isStrOf]
theorem CG (a b:Int):decide ((IW a:Key)=IW b)=(a==b):=by
 by_cases e:a=b
 . subst e; simp
 . have h:¬(IW a:Key)=IW b:=λq=>e (KP q);rw[decide_eq_false h];exact(beq_eq_false_iff_ne.mpr e).symm
theorem C1 (a b:Str):decide ((JU a:Key)=JU b)=decide (a=b):=by
 by_cases e:a=b
 . subst e; simp
 . have h:¬(JU a:Key)=JU b:=λq=>e (JI q);rw[decide_eq_false h,decide_eq_false e]
theorem CP (a:Int)(b:Str):decide ((IW a:Key)=JU b)=false:=decide_eq_false (λq=>nomatch q)
theorem DT (a:Str)(b:Int):decide ((JU a:Key)=IW b)=false:=decide_eq_false (λq=>nomatch q)
noncomputable def bb (prog:Program)(w:World):PySem.KeyKind prog w Key where
 is:=lC
 hash:=FP w
 inj:=λv a b ha hb=>by
   rcases bc ha with ⟨i,t,rfl,rfl⟩ | ⟨x,t,rfl,rfl⟩
   . rcases bc hb with ⟨j,u,rfl,e⟩ | ⟨y,u,rfl,e⟩
     . injection e with e1 _; rw[e1]
     . exact nomatch e
   . rcases bc hb with ⟨j,u,rfl,e⟩ | ⟨y,u,rfl,e⟩
     . exact nomatch e
     . injection e with e1 _; rw[e1]
 byValue:=λk v h=>by rcases bc h with ⟨i,t,rfl,rfl⟩ | ⟨x,t,rfl,rfl⟩ <;> rfl
 pyHash:=λhv h=>by
   rcases bc hv with ⟨i,t,rfl,rfl⟩ | ⟨x,t,rfl,rfl⟩
   . exact wpAny_pyHash_int h
   . exact wpAny_pyHash_str h
 eqBool:=λhu hv h=>by
   rcases bc hu with ⟨i,t,rfl,rfl⟩ | ⟨x,t,rfl,rfl⟩
   . rcases bc hv with ⟨j,u,rfl,rfl⟩ | ⟨y,u,rfl,rfl⟩
     . rw[CG]at h; exact wpAny_eqBool_int h
     . rw[CP]at h; exact Lu i t y u _ _ _ _ h
   . rcases bc hv with ⟨j,u,rfl,rfl⟩ | ⟨y,u,rfl,rfl⟩
     . rw[DT]at h; exact Lr x t j u _ _ _ _ h
     . rw[C1]at h; exact wpAny_eqBool_str h
 «strs»:=λk x t v h=>by
   rcases bc h with ⟨i,u,rfl,e⟩ | ⟨y,u,rfl,e⟩
   . exact nomatch e
   . injection e with e1 _;subst e1;cases v <;> rfl
theorem qX (prog:Program)(w:World)(i:Int)(t:Tok):(bb prog w).is (.inl i) (.int i t)=true:=wL i t
theorem qT (prog:Program)(w:World)(x:Str)(t:Tok):(bb prog w).is (.inr x) (.str x t)=true:=v8 x t
inductive V where
 | non | bl (b:Bool) | int (i:Int) | str (x:Str) | byt (b:Array UInt8) | flt (b:UInt64) | ref (a:Addr) | ty (n:String)
 deriving DecidableEq
noncomputable def RelV:V->Value->Prop
 | .non,u=>u=Hz
 | .bl b,u=>u=HE b
 | .int i,u=>∃t,u=K6 i t
 | .str x,u=>∃t,u=K5 x t
 | .byt b,u=>∃t,u=Value.bytes b t
 | .flt b,u=>∃t,u=Value.float b t
 | .ref a,u=>u=GI a
 | .ty n,u=>u=KH n
noncomputable abbrev Vals:List V->List Value->Prop:=Paired RelV
theorem Vals.length {xs:List V}{us:List Value}(r:Vals xs us):xs.length=us.length:=Paired.length r
theorem Vals.get:∀{xs:List V} {us:List Value} {i:Nat} {x:V},Vals xs us->xs[i]?=some x->∃u,us[i]?=some u/\RelV x u
 | _,_,_,_,.nil,e=>by simp at e
 | _,_,0,_,.cons r _,e=>by simp at e; subst e; exact⟨_,rfl,r⟩
 | _,_,i+1,x,.cons _ t,e=>by obtain⟨u,h1,h2⟩:=Vals.get (i:=i) (x:=x) t (by simpa using e);exact⟨u,by simpa using h1,h2⟩
theorem Vals.set {x:V}{u:Value}(r:RelV x u):∀{xs:List V} {us:List Value} (i:Nat),Vals xs us->Vals (xs.set i x) (us.set i u)
 | _,_,_,.nil=>.nil
 | _,_,0,.cons _ t=>.cons r t
 | _,_,i+1,.cons q t=>.cons q (Vals.set r i t)
theorem Vals.append:∀{xs ys:List V} {us ws:List Value},Vals xs us->Vals ys ws->Vals (xs++ys) (us++ws)
 | _,_,_,_,.nil,s=>s
 | _,_,_,_,.cons r t,s=>.cons r (Vals.append t s)
theorem Vals.take:∀{xs:List V} {us:List Value} (n:Nat),Vals xs us->Vals (xs.take n) (us.take n)
 | _,_,0,_=>.nil
 | _,_,_+1,.nil=>.nil
 | _,_,n+1,.cons r t=>.cons r (Vals.take n t)
theorem Vals.drop:∀{xs:List V} {us:List Value} (n:Nat),Vals xs us->Vals (xs.drop n) (us.drop n)
 | _,_,0,r=>r
 | _,_,_+1,.nil=>.nil
 | _,_,n+1,.cons _ t=>Vals.drop n t
noncomputable def gS:Option V->Option Value->Prop
 | some v,some u=>RelV v u
 | none,none=>True
 | _,_=>False
noncomputable def KV {κ:Type}:List (κ×V)->List (κ×Value)->Prop:=Paired λ(p:κ×V) (q:κ×Value)=>p.1=q.1/\RelV p.2 q.2
noncomputable def kV:Key->V
 | .inl i=>.int i
 | .inr x=>.str x
inductive HO where
 | lst (xs:List V)
 | tup (xs:List V)
 | dK (kvs:List (Key×V)) | dT (kvs:List (List Key×V))
 | set (S:Int->Bool) (n:Nat)
 | ins (C dx:Addr) (fs:List (Str×V))
 | own (x:Addr)
 | xd (fs:List (Str×V))
 | met (f x:Addr)
 | rng (lo hi:Int)
 | frz (o:Obj) (u:HO)
 | tbl (ps:Array Value)
 | ext (φ:Heap->Prop)
noncomputable abbrev Hp:=Addr->Option HO
noncomputable def upd (H:Hp)(a:Addr)(o:HO):Hp:=λb=>if b=a then some o else H b
theorem au {H:Hp}{a:Addr}{o:HO}:upd H a o a=some o:=by unfold upd; rw[if_pos rfl]
theorem ar {H:Hp}{a b:Addr}{o:HO}(h:b≠a):upd H a o b=H b:=by unfold upd; rw[if_neg h]
theorem aR {H:Hp}{a b:Addr}{o:HO}(h:H a=some o)(h':H b=none):a≠b:=by intro e; subst e; rw[h]at h'; cases h'
section
variable (P:Program)(w:World)
noncomputable def bj (H:Hp)(h:Heap)(a:Addr):HO->Prop
 | .lst xs=>xs.length<=sizeLine/\∃(its:List Value) (n:Nat),Vals xs its/\h.get? a=some { cls:=.type "list",data:=.seq its.toArray n }
 | .tup xs=>xs.length<=sizeLine/\∃its:List Value,Vals xs its/\IsTup h a its.toArray
 | .dK kvs=>kvs.length<=sizeLine/\(a==sysModules)=false/\∃vs,KV kvs vs/\h.DictOf (bb P w) a vs
 | .dT kvs=>kvs.length<=sizeLine/\(a==sysModules)=false/\∃xs:List (List Key×Addr×Value),
     Paired (λ(p:List Key×V) (q:List Key×Addr×Value)=>p.1=q.1/\H q.2.1=some (.tup (p.1.map kV))/\RelV p.2 q.2.2) kvs xs /\
     ∃o es ep,h.get? a=some o/\o.ExactDict/\o.data=.dict es ep/\es.toList=xs.map (entryOfKey (tupleKind (bb P w)))/\(xs.map (·.1)).Nodup
 | .set S n=>h.SetOf (intKind P w) a S n
 | .ins C dx fs=>H dx=some (.own a)/\fs.length<=1000/\dx≠a/\h.get? a=some (Ib C dx) /\
     ∃mA,h.Ns1 dx mA/\(∀f,gS (fs.lookup f) (mA f))/\LK mA (fs.map (·.1))
 | .own _=>∃o,h.get? a=some o
 | .xd fs=>∃mA,h.Ns1 a mA/\∀f,gS (fs.lookup f) (mA f)
 | .rng lo hi=>∃t u v,h.get? a=some { cls:=.type "range",data:=.fields #[.int lo t,.int hi u,.int 1 v] }
 | .frz o u=>h.get? a=some o/\bj H h a u
 | .tbl ps=>h.get? a=some { cls:=.none,data:=.fields ps }
 | .met f x=>h.get? a=some (Kt (.ref f) (.ref x))
 | .ext φ=>φ h/\(∃o,h.get? a=some o)/\∀h1 h2:Heap,φ h1->(∀o,h1.get? a=some o->h2.get? a=some o)->φ h2
def HOk (H:Hp)(h:Heap):Prop:=∀a o,H a=some o->bj P w H h a o
end
section
variable {P:Program}{w:World}{H H':Hp}{h h':Heap}{a:Addr}{o:HO}
theorem bj.lt (x:bj P w H h a o):a<h.objs.size:=by
 cases o with
 | lst xs=>obtain⟨_,_,_,_,e⟩:=x; exact Gr e
 | tup xs=>obtain⟨_,_,_,p⟩:=x; exact p.lt
 | dK kvs=>obtain⟨_,_,_,_,o,_,_,e,_⟩:=x; exact Gr e
 | dT kvs=>obtain⟨_,_,_,_,o,_,_,e,_⟩:=x; exact Gr e
 | set S n=>obtain⟨o,_,_,_,e,_⟩:=x; exact Gr e
 | ins C dx fs=>obtain⟨_,_,_,e,_⟩:=x; exact Gr e
 | own y=>obtain⟨_,e⟩:=x; exact Gr e
 | xd fs=>obtain⟨_,⟨_,_,_,e,_⟩,_⟩:=x; exact Gr e
 | rng lo hi=>obtain⟨_,_,_,e⟩:=x; exact Gr e
 | frz ob u=>obtain⟨e,_⟩:=x; exact Gr e
 | tbl ps=>exact Gr (show h.get? a=some _ from x)
 | met f y=>exact Gr (show h.get? a=some _ from x)
 | ext φ=>obtain⟨_,⟨_,e⟩,_⟩:=x; exact Gr e
theorem Paired.D5 {α β:Type}{F G:α->β->Prop}:∀{l₁:List α} {l₂:List β},Paired F l₁ l₂->(∀a b,F a b->G a b)->Paired G l₁ l₂
 | _,_,.nil,_=>.nil
 | _,_,.cons r t,f=>.cons (f _ _ r) (Paired.D5 t f)
theorem bj.lA (x:bj P w H h a o)(k:∀b u,(b=a\/H b=some (.own a))->h.get? b=some u->h'.get? b=some u)
   (ho:∀b,H b=some (.own a)->H' b=some (.own a)) (ht:∀b xs,H b=some (.tup xs)->H' b=some (.tup xs)):bj P w H' h' a o:=by
 induction o with
 | lst xs=>obtain⟨z,its,n,r,e⟩:=x; exact⟨z,its,n,r,k _ _ (.inl rfl) e⟩
 | tup xs=>obtain⟨z,its,r,ob,e,c⟩:=x; exact⟨z,its,r,ob,k _ _ (.inl rfl) e,c⟩
 | dK kvs=>obtain⟨z,y,vs,r,ob,es,ep,e,c⟩:=x; exact⟨z,y,vs,r,ob,es,ep,k _ _ (.inl rfl) e,c⟩
 | dT kvs=>obtain⟨z,y,xs,r,ob,es,ep,e,c⟩:=x;exact⟨z,y,xs,Paired.D5 r λp q z=>⟨z.1,ht _ _ z.2.1,z.2.2⟩,ob,es,ep,k _ _ (.inl rfl) e,c⟩
 | set S n=>obtain⟨ob,es,ep,t,e,c⟩:=x; exact⟨ob,es,ep,t,k _ _ (.inl rfl) e,c⟩
 | ins C dx fs=>obtain⟨d,z,ne,e,mA,⟨od,es,ep,e2,c⟩,r⟩:=x;exact⟨ho _ d,z,ne,k _ _ (.inl rfl) e,mA,⟨od,es,ep,k _ _ (.inr d) e2,c⟩,r⟩
 | own y=>obtain⟨ob,e⟩:=x; exact⟨ob,k _ _ (.inl rfl) e⟩
 | xd fs=>obtain⟨mA,⟨od,es,ep,e,c⟩,r⟩:=x; exact⟨mA,⟨od,es,ep,k _ _ (.inl rfl) e,c⟩,r⟩
 | rng lo hi=>obtain⟨t,u,v,e⟩:=x; exact⟨t,u,v,k _ _ (.inl rfl) e⟩
 | frz ob u ih=>obtain⟨e,q⟩:=x; exact⟨k _ _ (.inl rfl) e,ih q⟩
 | tbl ps=>have e:h.get? a=some { cls:=.none,data:=.fields ps }:=x;show h'.get? a=some { cls:=.none,data:=.fields ps };exact k a _ (.inl rfl) e
 | met f y=>have e:h.get? a=some (Kt (.ref f) (.ref y)):=x;show h'.get? a=some (Kt (.ref f) (.ref y));exact k a _ (.inl rfl) e
 | ext φ=>obtain⟨p,⟨o,e⟩,st⟩:=x; exact⟨st _ _ p λo q=>k _ _ (.inl rfl) q,⟨o,k _ _ (.inl rfl) e⟩,st⟩
theorem HOk.lt (x:HOk P w H h)(e:H a=some o):a<h.objs.size:=(x a o e).lt
theorem HOk.fresh (x:HOk P w H h)(e:h.objs.size<=a):H a=none:=by
 cases q:H a with
 | none=>rfl
 | some u=>exact absurd (Gz (x.lt q) e) (Hs _)
theorem HOk.kept (x:HOk P w H h)(k:∀b u,h.get? b=some u->h'.get? b=some u):HOk P w H h':=λa o e=>(x a o e).lA (λb u _ q=>k b u q) (λ_ q=>q) λ_ _ q=>q
theorem HOk.laid (x:HOk P w H h)(k:∀b u,h.get? b=some u->h'.get? b=some u)(hp:h.objs.size<=a)(new:bj P w (upd H a o) h' a o):HOk P w (upd H a o) h':=λb u e=>by
 have hn:=x.fresh hp;by_cases hb:b=a
 . subst hb; rw[au]at e; cases e; exact new
 . rw[ar hb]at e;exact(x b u e).lA (λc v _ q=>k c v q) (λc q=>by rw[ar (aR q hn)]; exact q) λc xs q=>by rw[ar (aR q hn)]; exact q
end
def Rd (H:Hp)(a:Addr)(u:HO):Prop:=H a=some u\/∃o,H a=some (.frz o u)
theorem Rd.of {H:Hp}{a:Addr}{u:HO}(h:H a=some u):Rd H a u:=.inl h
theorem Rd.ok {P:Program}{w:World}{H:Hp}{h:Heap}{a:Addr}{u:HO}(r:Rd H a u)(x:HOk P w H h):bj P w H h a u:=by
 rcases r with r | ⟨o,r⟩
 . exact x a u r
 . obtain⟨_,q⟩:=x a _ r;exact q
noncomputable def Mut:Option HO->Prop
 | some (.lst _)=>True
 | some (.dK _)=>True
 | some (.dT _)=>True
 | some (.set _ _)=>True
 | some (.ins _ _ _)=>True
 | some (.ext _)=>True
 | _=>False
section
variable {P:Program}{w:World}{H:Hp}{h h':Heap}{x e:Addr}{o':HO}
theorem HOk.write (ok:HOk P w H h)(mu:Mut (H x))(he:e=x\/H e=some (.own x))(k:∀b u,b≠e->h.get? b=some u->h'.get? b=some u)(heo:∃u,h'.get? e=some u)
   (new:bj P w (upd H x o') h' x o'):HOk P w (upd H x o') h':=λb u q=>by
 have nown:∀c y,H c=some (.own y)->c≠x:=λc y r z=>by subst z; rw[r]at mu; exact mu
 have ntup:∀c xs,H c=some (.tup xs)->c≠x:=λc xs r z=>by subst z; rw[r]at mu; exact mu
 by_cases hb:b=x
 . subst hb; rw[au]at q; cases q; exact new
 . rw[ar hb]at q;by_cases hbe:b=e
   . have q':H b=some (.own x):=by
       rcases he with z | z
       . exact absurd (hbe.trans z) hb
       . rw[hbe]; exact z
     rw[q]at q'; cases q';obtain⟨v,hv⟩:=heo;exact⟨v,by rw[hbe]; exact hv⟩
   . refine(ok b u q).lA (λc v hc r=>k c v ?_ r) (λc r=>by rw[ar (nown c b r)]; exact r) λc xs r=>by rw[ar (ntup c xs r)]; exact r
     rcases hc with rfl | hc
     . exact hbe
     . rintro rfl;rcases he with z | z
       . exact nown c b hc z
       . rw[hc]at z; cases z; exact hb rfl
end
structure Un (fs ex:List Addr)(H H':Hp)(h h':Heap):Prop where
 keep:∀b o,h.get? b=some o->H b=none->b∉fs->b∉ex->h'.get? b=some o
 slot:∀b o,h.get? b=some o->H b=none->b∈fs->b∉ex->∃sl,h'.get? b=some { o with slots:=sl }
 free:∀b o,h.get? b=some o->H b=none->b∉ex->H' b=none
 there:∀b o,h.get? b=some o->b∉ex->∃o',h'.get? b=some o'
 tups:∀b xs,H b=some (.tup xs)->H' b=some (.tup xs)
 frzs:∀b o u,H b=some (.frz o u)->H' b=some (.frz o u)
 tbls:∀b ps,H b=some (.tbl ps)->∃more,H' b=some (.tbl (ps++more))
section
variable {fs ex:List Addr}{H H1:Hp}{h h1 h':Heap}{a x e:Addr}{o:HO}
theorem Un.any (u:Un fs ex H H1 h h1){b:Addr}{ob:Obj}(q:h.get? b=some ob)(n:H b=none)(hx:b∉ex):∃sl,h1.get? b=some { ob with slots:=sl }:=by
 by_cases hb:b∈fs
 . exact u.slot b ob q n hb hx
 . exact⟨ob.slots,u.keep b ob q n hb hx⟩
theorem Un.kept (k:∀b u,h.get? b=some u->h'.get? b=some u):Un fs ex H H h h':=⟨λb ob q _ _ _=>k b ob q,λb ob q _ _ _=>⟨ob.slots,k b ob q⟩,λ_ _ _ n _=>n,λb ob q _=>⟨ob,k b ob q⟩,λ_ _ q=>q,λ_ _ _ q=>q,λ_ ps q=>⟨#[],by rw[q]; simp⟩⟩
theorem Un.refl:Un fs ex H H h h:=Un.kept λ_ _ q=>q
theorem Un.laid (k:∀b u,h.get? b=some u->h'.get? b=some u)(hp:h.objs.size<=a)(hn:H a=none):Un fs ex H (upd H a o) h h' where
 keep:=λb u q _ _ _=>k b u q
 slot:=λb u q _ _ _=>⟨u.slots,k b u q⟩
 free:=λb u q n _=>by rw[ar (GR (Gz (Gr q) hp))]; exact n
 there:=λb u q _=>⟨u,k b u q⟩
 tups:=λb xs q=>by rw[ar (aR q hn)]; exact q
 frzs:=λb u xs q=>by rw[ar (aR q hn)]; exact q
 tbls:=λb ps q=>⟨#[],by rw[ar (aR q hn),q]; simp⟩
theorem Un.write (mu:Mut (H x))(he:e=x\/H e=some (.own x))(k:∀b u,b≠e->h.get? b=some u->h'.get? b=some u)(heo:∃u,h'.get? e=some u):Un fs ex H (upd H x o) h h':=by
 have hx:∀b,H b=none->b≠x:=λb n z=>by subst z; rw[n]at mu; exact mu
 have hb:∀b,H b=none->b≠e:=λb n z=>by
   subst z;rcases he with r | r
   . exact hx b n r
   . rw[n]at r; cases r
 have hm:∀b u,H b=some u->¬Mut (some u)->b≠x:=λb u q nm z=>by subst z; rw[q]at mu; exact nm mu
 refine⟨λb u q n _ _=>k b u (hb b n) q,λb u q n _ _=>⟨u.slots,k b u (hb b n) q⟩,λb u q n _=>by rw[ar (hx b n)]; exact n,λb u q _=>?_,
   λb xs q=>by rw[ar (hm b _ q λz=>z)]; exact q,λb u xs q=>by rw[ar (hm b _ q λz=>z)]; exact q,λb ps q=>⟨#[],by rw[ar (hm b _ q λz=>z),q]; simp⟩⟩
 by_cases hbe:b=e
 . subst hbe; exact heo
 . exact⟨u,k b u hbe q⟩
end
noncomputable def trk (h:Heap)(H:Hp):List Addr:=(ox h.objs.size).filter λa=>(H a).isSome
noncomputable def oq (h:Heap)(H:Hp):Heap:=PySem.W.hideAll h (trk h H)
theorem we (h:Heap)(H:Hp):(oq h H).objs.size=h.objs.size:=PySem.W.hideAll_size _ _
theorem yV {h:Heap}{H:Hp}{b:Addr}{o:Obj}(e:h.get? b=some o)(n:H b=none):(oq h H).get? b=some o:=PySem.W.hideAll_get _ e λhm=>by have q:(H b).isSome=true:=(IQ.mp hm).2;rw[n]at q; simp at q
theorem AN {h:Heap}{H:Hp}{b:Addr}{o:Obj}(e:(oq h H).get? b=some o):h.get? b=some o/\H b=none:=by
 have e':h.get? b=some o:=PySem.W.of_hideAll (trk h H) e;refine⟨e',?_⟩;cases q:H b with
 | none=>rfl
 | some x=>have hm:b∈trk h H:=IQ.mpr ⟨GQ.mpr (Gr e'),by simp[q]⟩;have z:(oq h H).get? b=none:=PySem.W.hideAll_none (trk h H) hm;rw[z]at e; cases e
noncomputable def AK (g h:Heap)(L:Addr):List (Addr×Obj):=(ox h.objs.size).filterMap λa=>if a=L\/(g.get? a).isSome=true then none else (h.get? a).map λo=>(a,o)
noncomputable def rest (g h:Heap)(L d:Addr):List (Addr×Obj):=(AK g h L).filter λp=>decide (p.1≠d)
structure Mod (K:gV)(mg:Str->Option Value)(base:Heap):Prop where
 kin:K.In base
 glob:base.Ns mainGlobals mg
 blt:∃mb,base.Ns builtinsNs mb/\∀x:Str,x ≠ "__name__" -> mb x=bootBuiltins x
 nolimit:base.NoLimit
structure Cx where
 prog:Program
 w:World
 K:gV
 mg:Str->Option Value
 base:Heap
 A:Around
 N:List Str
 s₀:Shared
 H₀:Hp
 env:Env
 outer:List Env
 stack:List Env
 ex:List Addr
 fn:Str->Bool
 calm:Bool
 pn:List (Addr×Obj)
 xe:Value->Shared->Prop
noncomputable def frs (l:List Env):List Addr:=l.filterMap (·.frame)
noncomputable abbrev Cx.fs (X:Cx):List Addr:=frs X.outer
def Vis (sc:Scope)(x:Str):Prop:=sc.names.lookup x=some .local\/sc.names.lookup x=some .cell\/sc.names.lookup x=some .free
def Loc (sc:Scope)(x:Str):Prop:=sc.names.lookup x=some .local\/sc.names.lookup x=some .cell
def Look (env:Env)(h:Heap)(m:Str->Option Value)(x:Str)(u:Value):Prop:=(env.kindOf x=some .local/\m x=some u)\/((env.kindOf x=some .cell\/env.kindOf x=some .free)/\∃c,env.cells.lookup x=some c/\h.IsCell c (some u))
structure Cx.Ok (X:Cx):Prop where
 mod:Mod X.K X.mg X.base
 kind:X.env.scope.kind=.function
 glob:X.env.globals=mainGlobals
 blt:X.env.builtins=builtinsNs
 above:X.s₀.heap.objs.size<=X.env.locals
 inj:∀x y c,X.env.cells.lookup x=some c->X.env.cells.lookup y=some c->x=y
 has:∀x,(X.env.kindOf x=some .cell\/X.env.kindOf x=some .free)->∃c,X.env.cells.lookup x=some c
 cab:∀x c,X.fn x=true->X.env.cells.lookup x=some c->X.s₀.heap.objs.size<=c
 hd:X.calm=true->X.A.handled=none
 frames:X.A.frames=some X.stack
 stk:X.stack=X.outer\/(X.stack=X.env::X.outer/\X.env.frame=some X.env.locals)
 exf:∀b∈X.ex,b≠X.env.locals/\∀x c,X.env.cells.lookup x=some c->c≠b
 bs:∀b o,X.base.get? b=some o->X.s₀.heap.get? b=some o/\X.H₀ b=none
 bsz:X.base.objs.size<=X.s₀.heap.objs.size
 noex:∀b o,X.base.get? b=some o->b∉X.ex
 exfs:∀b∈X.ex,b∉X.fs
 kg:X.s₀.heap.FunFrames X.base X.outer
 frf:∀b∈X.fs,X.H₀ b=none
structure Inv (X:Cx)(pins:List (Addr×Obj))(σ:List (Option V))(H:Hp)(s:Shared):Prop where
 ok:X.Ok
 os:s.os=X.s₀.os
 bare:AllBare s.gens
 base:Un X.fs X.ex X.H₀ H X.s₀.heap s.heap
 loc:∃m,s.heap.Ns X.env.locals m/\∀(i:Nat) (x:Str) (v:V),X.N[i]?=some x->σ[i]?=some (some v)->Vis X.env.scope x->∃u,RelV v u/\Look X.env s.heap m x u
 cell:∀x c,X.env.cells.lookup x=some c->∃v,s.heap.IsCell c v
 free:H X.env.locals=none
 freeC:∀x c,X.env.cells.lookup x=some c->H c=none
 pin:∀p∈X.pn++pins,s.heap.get? p.1=some p.2/\H p.1=none/\p.1≠X.env.locals/\p.1∉X.fs/\∀v,p.2.data≠.cell v
 hok:HOk X.prog X.w H s.heap
 len:σ.length=X.N.length
section
variable {X:Cx}{pins:List (Addr×Obj)}{σ:List (Option V)}{H H':Hp}{s:Shared}{h':Heap}
theorem Cx.Ok.Gm (ok:X.Ok){b:Addr}{o:Obj}(e:X.base.get? b=some o):b∉X.fs:=λhb=>by have:=(ok.kg.mem hb).1;rw[e]at this; cases this
theorem Inv.bs (I:Inv X pins σ H s):∀b o,X.base.get? b=some o->s.heap.get? b=some o/\H b=none:=λb o e=>⟨I.base.keep b o (I.ok.bs b o e).1 (I.ok.bs b o e).2 (I.ok.Gm e) (I.ok.noex b o e),I.base.free b o (I.ok.bs b o e).1 (I.ok.bs b o e).2 (I.ok.noex b o e)⟩
theorem Inv.bk (I:Inv X pins σ H s):∀b o,X.base.get? b=some o->s.heap.get? b=some o:=λb o e=>(I.bs b o e).1
theorem Inv.mod (I:Inv X pins σ H s):Mod X.K X.mg X.base:=I.ok.mod
theorem Inv.kIn (I:Inv X pins σ H s):X.K.In s.heap:=I.ok.mod.kin.keeps I.bk
theorem Inv.lt (I:Inv X pins σ H s):X.env.locals<s.heap.objs.size:=let ⟨_,hn,_⟩:=I.loc; hn.lt
theorem Inv.sz (I:Inv X pins σ H s):X.s₀.heap.objs.size<=s.heap.objs.size:=GB I.ok.above (Ia I.lt)
theorem Inv.F8 (I:Inv X pins σ H s){a:Addr}(h:s.heap.objs.size<=a):a∉X.fs:=λhb=>by obtain⟨_,o,ho,_⟩:=I.ok.kg.mem hb;exact absurd (Gz (Gr ho) (GB I.sz h)) (Hs _)
theorem Inv.cne (I:Inv X pins σ H s):∀x c,X.env.cells.lookup x=some c->c≠X.env.locals:=λx c e z=>by obtain⟨v,o,ho,hd⟩:=I.cell x c e;obtain⟨m,⟨o',es,ep,ho',hd',_⟩,_⟩:=I.loc;rw[z,ho']at ho; cases ho; rw[hd']at hd; cases hd
theorem Inv.kg (I:Inv X pins σ H s):s.heap.FunFrames X.base X.outer:=by
 have all:∀(l:List Env),(∀b∈frs l,b∈X.fs)->X.s₀.heap.FunFrames X.base l->s.heap.FunFrames X.base l:=by
   intro l;induction l with
   | nil=>intro _ _; trivial
   | cons env r ih=>intro hs hl;obtain⟨hk,⟨L,o,hf,hn,ho,hd⟩,hr⟩:=hl;have hL:L∈X.fs:=hs L (by unfold frs; rw[Kp,hf]; exact rp);obtain⟨sl,e⟩:=I.base.slot L o ho (I.ok.frf L hL) hL λz=>I.ok.exfs L z hL;exact⟨hk,⟨L,_,hf,hn,e,hd⟩,ih (λb hb=>hs b (by unfold frs; rw[Kp,hf]; exact pq _ hb)) hr⟩
 exact all X.outer (λ_ hb=>hb) I.ok.kg
theorem Inv.stack (I:Inv X pins σ H s):s.heap.FunFrames X.base X.stack:=by
 rcases I.ok.stk with e | ⟨e,hf⟩
 . rw[e]; exact I.kg
 . rw[e];obtain⟨m,hn,_⟩:=I.loc;refine .cons (by rw[I.ok.kind]; decide) hf hn ?_ I.kg;exact Heap.get?_none_of_le (GB I.ok.bsz I.ok.above)
theorem Inv.sX (I:Inv X pins σ H s):∀b∈frs X.stack,b∈X.env.locals::X.fs:=λb hb=>by
 rcases I.ok.stk with e | ⟨e,hf⟩
 . rw[e]at hb; exact pq _ hb
 . rw[e]at hb;unfold frs at hb;rw[Kp,hf]at hb;exact hb
theorem Inv.uY (I:Inv X pins σ H s):∀b∈frs X.stack,H b=none:=λb hb=>by
 rcases xb.mp (I.sX b hb) with e | hb
 . rw[e]; exact I.free
 . obtain⟨_,o,ho,_⟩:=I.ok.kg.mem hb;exact I.base.free b o ho (I.ok.frf b hb) λz=>I.ok.exfs b z hb
theorem Inv.step {g':Array GenState}{t':Nat}{d':Drawn}{ch:List Addr}(I:Inv X pins σ H s)
   (hch:∀b∈ch,(b∈X.ex\/X.s₀.heap.objs.size<=b)/\b≠X.env.locals/\(∀x c,X.env.cells.lookup x=some c->c≠b)/\∀p∈X.pn++pins,p.1≠b)
   (keep:∀b o,b≠X.env.locals->b∉X.fs->b∉ch->s.heap.get? b=some o->H b=none->h'.get? b=some o)
   (slot:∀b o,b≠X.env.locals->b∈X.fs->b∉ch->s.heap.get? b=some o->H b=none->∃sl,h'.get? b=some { o with slots:=sl }) (free:∀b o,b∉ch->s.heap.get? b=some o->H b=none->H' b=none)
   (there:∀b o,b∉ch->s.heap.get? b=some o->∃o',h'.get? b=some o')
   (tups:∀b xs,H b=some (.tup xs)->H' b=some (.tup xs)) (frzs:∀b o u,H b=some (.frz o u)->H' b=some (.frz o u)) (tbls:∀b ps,H b=some (.tbl ps)->∃more,H' b=some (.tbl (ps++more)))
   (ns:∀m,s.heap.Ns X.env.locals m->h'.Ns X.env.locals m) (hok:HOk X.prog X.w H' h') (hg:AllBare g') :
   Inv X pins σ H' { s with heap:=h',gens:=g',drawn:=d',toks:=t' }:=by
 have neL:∀b o,X.s₀.heap.get? b=some o->b≠X.env.locals:=λb o e=>GR (Gz (Gr e) I.ok.above)
 have neC:∀b o,X.s₀.heap.get? b=some o->b∉X.ex->b∉ch:=λb o e hx hb=>by
   rcases(hch b hb).1 with z | z
   . exact hx z
   . exact absurd (Gz (Gr e) z) (Hs _)
 have cellK:∀x c,X.env.cells.lookup x=some c->∀v,s.heap.IsCell c v->h'.IsCell c v:=λx c e v ⟨o,ho,hd⟩=>by
   have nch:c∉ch:=λz=>(hch c z).2.2.1 x c e rfl;by_cases hc:c∈X.fs
   . obtain⟨sl,q⟩:=slot c o (I.cne x c e) hc nch ho (I.freeC x c e);exact⟨_,q,hd⟩
   . exact⟨o,keep c o (I.cne x c e) hc nch ho (I.freeC x c e),hd⟩
 refine⟨I.ok,I.os,hg,⟨λb o e n hb hx=>?_,λb o e n hb hx=>?_,λb o e n hx=>?_,λb o e hx=>?_,λb xs e=>tups b xs (I.base.tups b xs e),λb o xs e=>frzs b o xs (I.base.frzs b o xs e),λb ps e=>?_⟩,?_,λx c e=>?_,?_,λx c e=>?_,λp hp=>?_,hok,I.len⟩
 . exact keep b o (neL b o e) hb (neC b o e hx) (I.base.keep b o e n hb hx) (I.base.free b o e n hx)
 . obtain⟨sl,e1⟩:=I.base.slot b o e n hb hx;obtain⟨sl',e2⟩:=slot b _ (neL b o e) hb (neC b o e hx) e1 (I.base.free b o e n hx);exact⟨sl',e2⟩
 . obtain⟨o',e1⟩:=I.base.there b o e hx;exact free b o' (neC b o e hx) e1 (I.base.free b o e n hx)
 . obtain⟨o',e1⟩:=I.base.there b o e hx;exact there b o' (neC b o e hx) e1
 . obtain⟨m1,e1⟩:=I.base.tbls b ps e;obtain⟨m2,e2⟩:=tbls b _ e1;exact⟨m1++m2,by rw[e2,Array.append_assoc]⟩
 . obtain⟨m,hn,hl⟩:=I.loc;refine⟨m,ns m hn,λi x v e1 e2 e3=>?_⟩;obtain⟨u,r,l⟩:=hl i x v e1 e2 e3;refine⟨u,r,?_⟩;rcases l with l | ⟨k,c,e,z⟩
   . exact .inl l
   . exact .inr ⟨k,c,e,cellK x c e _ z⟩
 . obtain⟨v,z⟩:=I.cell x c e;exact⟨v,cellK x c e v z⟩
 . obtain⟨m,⟨o,_,_,ho,_⟩,_⟩:=I.loc;exact free _ o (λz=>(hch _ z).2.1 rfl) ho I.free
 . obtain⟨v,o,ho,hd⟩:=I.cell x c e;exact free c o (λz=>(hch c z).2.2.1 x c e rfl) ho (I.freeC x c e)
 . obtain⟨e,n,ne,nf,d⟩:=I.pin p hp;have nch:p.1∉ch:=λz=>(hch p.1 z).2.2.2 p hp rfl;exact⟨keep p.1 p.2 ne nf nch e n,free p.1 p.2 nch e n,ne,nf,d⟩
theorem Inv.un {t':Nat}(I:Inv X pins σ H s)(u:Un X.fs [] H H' s.heap h')(hok:HOk X.prog X.w H' h'):Inv X pins σ H' { s with heap:=h',toks:=t' }:=by
 obtain⟨m,⟨o,es,ep,ho,r⟩,_⟩:=id I.loc;obtain⟨sl,hL⟩:=u.any ho I.free (by simp)
 exact I.step (g':=s.gens) (d':=s.drawn) (ch:=[]) (λ_ z=>nomatch z) (λb o _ hb _ e n=>u.keep b o e n hb (by simp)) (λb o _ hb _ e n=>u.slot b o e n hb (by simp)) (λb o _ e n=>u.free b o e n (by simp)) (λb o _ e=>u.there b o e (by simp)) u.tups u.frzs u.tbls (λm' hm=>by
   obtain⟨o',es',ep',ho',r'⟩:=hm;rw[ho]at ho'; cases ho';exact⟨_,es',ep',hL,r'⟩) hok I.bare
theorem Inv.call {g':Array GenState}{t':Nat}{d':Drawn}{ch:List Addr}(I:Inv X pins σ H s)(u:Un (frs X.stack) ch H H' s.heap h')(hok:HOk X.prog X.w H' h')(hg:AllBare g')
   (hch:∀b∈ch,(b∈X.ex\/X.s₀.heap.objs.size<=b)/\b≠X.env.locals/\(∀x c,X.env.cells.lookup x=some c->c≠b)/\∀p∈X.pn++pins,p.1≠b) :
   Inv X pins σ H' { s with heap:=h',gens:=g',drawn:=d',toks:=t' }:=by
 obtain⟨m,⟨o,es,ep,ho,r⟩,_⟩:=id I.loc;obtain⟨sl,hL⟩:=u.any ho I.free λz=>(hch _ z).2.1 rfl
 exact I.step (ch:=ch) hch (λb o hL hb hc e n=>u.keep b o e n (λz=>(xb.mp (I.sX b z)).elim hL hb) hc) (λb o _ _ hc e n=>u.any e n hc) (λb o hc e n=>u.free b o e n hc) (λb o hc e=>u.there b o e hc) u.tups u.frzs u.tbls (λm' hm=>by
   obtain⟨o',es',ep',ho',r'⟩:=hm;rw[ho]at ho'; cases ho';exact⟨_,es',ep',hL,r'⟩) hok hg
theorem Inv.turned {t':Nat}{it:Addr}(I:Inv X pins σ H s)(k:∀b o,b≠it->s.heap.get? b=some o->h'.get? b=some o)(hn:H it=none)(hL:it≠X.env.locals)
   (h1:it∈X.ex\/X.s₀.heap.objs.size<=it) (h2:∀x c,X.env.cells.lookup x=some c->c≠it) (h3:∀p∈X.pn++pins,p.1≠it):Inv X pins σ H { s with heap:=h',toks:=t' }:=by
 have nit:∀b u,H b=some u->b≠it:=λb u e z=>by rw[z,hn]at e; cases e
 refine I.step (g':=s.gens) (d':=s.drawn) (ch:=[it]) (λb hb=>?_) (λb o _ _ hc e _=>k b o (λz=>hc (by simp[z])) e) (λb o _ _ hc e _=>⟨o.slots,k b o (λz=>hc (by simp[z])) e⟩) (λ_ _ _ _ n=>n)
   (λb o hc e=>⟨o,k b o (λz=>hc (by simp[z])) e⟩) (λ_ _ e=>e) (λ_ _ _ e=>e) (λb ps e=>⟨#[],by rw[e]; simp⟩) (λm hm=>?_) (λb u e=>?_) I.bare
 . have e:b=it:=by simpa using hb
   subst e;exact⟨h1,hL,h2,h3⟩
 . obtain⟨o,es,ep,ho,r⟩:=hm;exact⟨o,es,ep,k _ o (Hi hL) ho,r⟩
 . refine(I.hok b u e).lA (λc v hc q=>k c v ?_ q) (λ_ q=>q) λ_ _ q=>q;rcases hc with z | z
   . rw[z]; exact nit b u e
   . exact nit c _ z
theorem Inv.tok (I:Inv X pins σ H s)(t:Nat):Inv X pins σ H { s with toks:=t }:=I.un (h':=s.heap) (t':=t) Un.refl I.hok
theorem Inv.kept {t':Nat}(I:Inv X pins σ H s)(k:∀b u,s.heap.get? b=some u->h'.get? b=some u):Inv X pins σ H { s with heap:=h',toks:=t' }:=I.un (Un.kept k) (I.hok.kept k)
theorem Inv.laid {a:Addr}{o:HO}{t':Nat}(I:Inv X pins σ H s)(k:∀b u,s.heap.get? b=some u->h'.get? b=some u)(hp:s.heap.objs.size<=a)(new:bj X.prog X.w (upd H a o) h' a o):
   Inv X pins σ (upd H a o) { s with heap:=h',toks:=t' }:=I.un (Un.laid k hp (I.hok.fresh hp)) (I.hok.laid k hp new)
theorem Inv.write {x e:Addr}{o:HO}{t':Nat}(I:Inv X pins σ H s)(mu:Mut (H x))(he:e=x\/H e=some (.own x))(k:∀b u,b≠e->s.heap.get? b=some u->h'.get? b=some u)(heo:∃u,h'.get? e=some u)
   (new:bj X.prog X.w (upd H x o) h' x o):Inv X pins σ (upd H x o) { s with heap:=h',toks:=t' }:=I.un (Un.write mu he k heo) (I.hok.write mu he k heo new)
theorem Inv.vt {pins':List (Addr×Obj)}(I:Inv X pins σ H s)(h:∀p∈pins',s.heap.get? p.1=some p.2/\H p.1=none/\p.1≠X.env.locals/\p.1∉X.fs/\∀v,p.2.data≠.cell v):Inv X pins' σ H s:=⟨I.ok,I.os,I.bare,I.base,I.loc,I.cell,I.free,I.freeC,λp hp=>(Gv.mp hp).elim (λz=>I.pin p (GF _ z)) (h p),I.hok,I.len⟩
theorem qF {N:List Str}(hN:N.Nodup){i j:Nat}{x:Str}(a:N[i]?=some x)(b:N[j]?=some x):i=j:=by obtain⟨h1,e1⟩:=GD.mp a;obtain⟨h2,e2⟩:=GD.mp b;exact(List.getElem_inj hN).mp (e1.trans e2.symm)
theorem wg {M:Model}{A:Around}{E:Value->Shared->Prop}{i:Nat}{x:Str}{v:V}{u:Value}{Q:Unit->Shared->Prop}(I:Inv X pins σ H s)(hN:X.N.Nodup)(hi:X.N[i]?=some x)(hx:Loc X.env.scope x)(r:RelV v u)
   (h:∀s',Inv X pins (σ.set i (some v)) H s'->(∃a,Jh a s.heap s'.heap/\(a=X.env.locals\/X.env.cells.lookup x=some a))->Q () s') (hf:X.fn x=true\/X.env.scope.names.lookup x=some .local:=by first | exact .inl rfl | exact .inr rfl | assumption):wpAny M A (storeName X.env x u) Q E s:=by
 obtain⟨m,hn,hl⟩:=id I.loc;have hcls:(X.env.scope.kind==.class||(X.env.scope.kind==.module&&X.env.locals != X.env.globals))=false:=by rw[I.ok.kind]; rfl
 have hiσ:i<σ.length:=by rw[I.len]; exact(GD.mp hi).1
 have cne:=I.cne
 have tracked:∀{a:Addr} {h':Heap},(∃o,s.heap.get? a=some o/\H a=none)->Jh a s.heap h'->HOk X.prog X.w H h':=λ{a h'} ha hs b ob e=>by
   obtain⟨_,_,hfree⟩:=ha;refine(I.hok b ob e).lA (λc w' hc q=>(hs.2 c ?_).trans q) (λ_ q=>q) λ_ _ q=>q;rintro rfl;rcases hc with rfl | hc
   . rw[hfree]at e; cases e
   . rw[hfree]at hc; cases hc
 rcases hx with hk | hk
 . refine wpAny_storeName_local hk hn (λh' hn' hs=>?_) hcls;obtain⟨oL,_,_,hoL,_⟩:=id hn;refine h _ ⟨I.ok,I.os,I.bare,⟨λb o e n hb hx=>?_,λb o e n hb hx=>?_,I.base.free,λb o e hx=>?_,I.base.tups,I.base.frzs,I.base.tbls⟩,⟨_,hn',λj y v' e1 e2 e3=>?_⟩,λy c e=>?_,I.free,I.freeC,λp hp=>?_,tracked ⟨oL,hoL,I.free⟩ hs,by simpa using I.len⟩ ⟨_,hs,.inl rfl⟩
   . exact(hs.2 b (GR (Gz (Gr e) I.ok.above))).trans (I.base.keep b o e n hb hx)
   . obtain⟨sl,e1⟩:=I.base.slot b o e n hb hx;exact⟨sl,(hs.2 b (GR (Gz (Gr e) I.ok.above))).trans e1⟩
   . obtain⟨o',e1⟩:=I.base.there b o e hx;exact⟨o',(hs.2 b (GR (Gz (Gr e) I.ok.above))).trans e1⟩
   . by_cases hj:j=i
     . subst hj;rw[hi]at e1; cases e1;rw[G1 hiσ]at e2;cases e2;exact⟨u,r,.inl ⟨hk,by simp⟩⟩
     . rw[GW (Hi hj)]at e2;obtain⟨u',r',q⟩:=hl j y v' e1 e2 e3;refine⟨u',r',?_⟩;rcases q with ⟨k,e⟩ | ⟨k,c,e,z⟩
       . refine .inl ⟨k,?_⟩;have:y≠x:=λe=>hj (qF hN e1 (e▸hi));simp[this,e]
       . exact .inr ⟨k,c,e,z.sameBut hs (cne y c e)⟩
   . obtain⟨w',z⟩:=I.cell y c e;exact⟨w',z.sameBut hs (cne y c e)⟩
   . obtain⟨e,n,ne,nf,d⟩:=I.pin p hp;exact⟨(hs.2 p.1 ne).trans e,n,ne,nf,d⟩
 . have hfn:X.fn x=true:=by
     rcases hf with z | z
     . exact z
     . rw[z]at hk; cases hk
   obtain⟨c,hc⟩:=I.ok.has x (.inl hk);obtain⟨w',z⟩:=I.cell x c hc;refine wpAny_storeName_cell I.ok.kind hk hc z (λh' hc' hs=>?_);obtain⟨oc,hoc,hocd⟩:=id z;refine h { s with heap:=h' } ⟨I.ok,I.os,I.bare,⟨λb o e n hb hx=>?_,λb o e n hb hx=>?_,I.base.free,λb o e hx=>?_,I.base.tups,I.base.frzs,I.base.tbls⟩,⟨m,hn.sameBut hs (Hi (cne x c hc)),λj y v' e1 e2 e3=>?_⟩,λy c' e=>?_,I.free,I.freeC,λp hp=>?_,tracked ⟨oc,hoc,I.freeC x c hc⟩ hs,by simpa using I.len⟩ ⟨c,hs,.inr hc⟩
   . exact(hs.2 b (GR (Gz (Gr e) (I.ok.cab x c hfn hc)))).trans (I.base.keep b o e n hb hx)
   . obtain⟨sl,e1⟩:=I.base.slot b o e n hb hx;exact⟨sl,(hs.2 b (GR (Gz (Gr e) (I.ok.cab x c hfn hc)))).trans e1⟩
   . obtain⟨o',e1⟩:=I.base.there b o e hx;exact⟨o',(hs.2 b (GR (Gz (Gr e) (I.ok.cab x c hfn hc)))).trans e1⟩
   . by_cases hj:j=i
     . subst hj;rw[hi]at e1; cases e1;rw[G1 hiσ]at e2;cases e2;exact⟨u,r,.inr ⟨.inl hk,c,hc,hc'⟩⟩
     . rw[GW (Hi hj)]at e2;obtain⟨u',r',q⟩:=hl j y v' e1 e2 e3;refine⟨u',r',?_⟩;rcases q with q | ⟨k,c',e,z'⟩
       . exact .inl q
       . refine .inr ⟨k,c',e,z'.sameBut hs ?_⟩;rintro rfl;exact hj (qF hN e1 (I.ok.inj _ _ _ e hc▸hi))
   . by_cases hcc:c'=c
     . subst hcc; exact⟨_,hc'⟩
     . obtain⟨w2,z2⟩:=I.cell y c' e;exact⟨w2,z2.sameBut hs hcc⟩
   . obtain⟨e,n,ne,nf,d⟩:=I.pin p hp;refine⟨(hs.2 p.1 ?_).trans e,n,ne,nf,d⟩;intro q;rw[q,hoc]at e;have q':oc=p.2:=GS e;exact d w' (by rw[<- q']; exact hocd)
theorem rW {M:Model}{A:Around}{E:Value->Shared->Prop}{i:Nat}{x:Str}{v:V}{u:Value}{Q:Unit->Shared->Prop}(I:Inv X pins σ H s)(hN:X.N.Nodup)(hi:X.N[i]?=some x)(hx:Loc X.env.scope x)(r:RelV v u)
   (h:∀s',Inv X pins (σ.set i (some v)) H s'->Q () s') (hf:X.fn x=true\/X.env.scope.names.lookup x=some .local:=by first | exact .inl rfl | exact .inr rfl | assumption):wpAny M A (storeName X.env x u) Q E s:=
 wg I hN hi hx r (λs' I' _=>h s' I') hf
theorem Inv.Bz {s':Shared}{ch:List Addr}(I:Inv X pins σ H s)(ho:s'.os=s.os)(u:Un (frs X.stack) ch H H' s.heap s'.heap)(hok:HOk X.prog X.w H' s'.heap)(hg:AllBare s'.gens)
   (hch:∀b∈ch,(b∈X.ex\/X.s₀.heap.objs.size<=b)/\b≠X.env.locals/\(∀x c,X.env.cells.lookup x=some c->c≠b)/\∀p∈X.pn++pins,p.1≠b):Inv X pins σ H' s':=by
 obtain⟨h',g',d',t',o'⟩:=s';have e:o'=s.os:=ho;subst e;exact I.call (g':=g') (t':=t') (d':=d') u hok hg hch
end
noncomputable abbrev XK:=Value->Option Addr->Hp->Prop
noncomputable abbrev St:=List (Option V)
noncomputable abbrev VK:=V->Hp->Prop
noncomputable abbrev TE:=St->Hp->VK->Prop
noncomputable abbrev TT:=St->Hp->(Bool->Hp->Prop)->Prop
noncomputable abbrev TA:=St->Hp->(List V->Hp->Prop)->Prop
structure Ends where
 nx:St->Hp->Prop
 rt:VK
 bk:St->Hp->Prop:=λ_ _=>False
 ct:St->Hp->Prop:=λ_ _=>False
noncomputable abbrev TS:=Ends->St->Hp->Prop
def EP (X:Cx)(pins:List (Addr×Obj))(σ:St)(Q:VK)(u:Value)(s':Shared):Prop:=∃v H',Inv X pins σ H' s'/\RelV v u/\Q v H'
def TP (X:Cx)(pins:List (Addr×Obj))(σ:St)(Q:Bool->Hp->Prop)(b:Bool)(s':Shared):Prop:=∃H',Inv X pins σ H' s'/\Q b H'
def AP (X:Cx)(pins:List (Addr×Obj))(σ:St)(Q:List V->Hp->Prop)(us:List Value)(s':Shared):Prop:=∃vs H',Inv X pins σ H' s'/\Vals vs us/\Q vs H'
def SP (X:Cx)(pins:List (Addr×Obj))(D:Ends)(f:Flow)(s':Shared):Prop:=
 match f with
 | .next=>∃σ' H',Inv X pins σ' H' s'/\D.nx σ' H'
 | .brk=>∃σ' H',Inv X pins σ' H' s'/\D.bk σ' H'
 | .cont=>∃σ' H',Inv X pins σ' H' s'/\D.ct σ' H'
 | .ret u=>∃v σ' H',Inv X pins σ' H' s'/\RelV v u/\D.rt v H'
def PE (X:Cx)(e:Expr)(t:TE):Prop:=∀(pins:List (Addr×Obj)) (s:Shared) (σ:St) (H:Hp) (Q:VK),Inv X pins σ H s->t σ H Q->wpAny (model X.prog X.w) X.A (eval e X.env) (EP X pins σ Q) X.xe s
def PT (X:Cx)(e:Expr)(t:TT):Prop:=∀(pins:List (Addr×Obj)) (s:Shared) (σ:St) (H:Hp) (Q:Bool->Hp->Prop),Inv X pins σ H s->t σ H Q->wpAny (model X.prog X.w) X.A (isTrue e X.env (eval e X.env)) (TP X pins σ Q) X.xe s
def PW (X:Cx)(e:Expr)(t:TT):Prop:=∀(whole:Sem Value) (pins:List (Addr×Obj)) (s:Shared) (σ:St) (H:Hp) (Q:Bool->Hp->Prop),Inv X pins σ H s->t σ H Q->wpAny (model X.prog X.w) X.A (isTrue e X.env whole) (TP X pins σ Q) X.xe s
theorem PW.pt {X:Cx}{e:Expr}{t:TT}(h:PW X e t):PT X e t:=h _
def PA (X:Cx)(es:List Expr)(t:TA):Prop:=∀(pos:Pos) (pins:List (Addr×Obj)) (s:Shared) (σ:St) (H:Hp) (Q:List V->Hp->Prop),Inv X pins σ H s->t σ H Q->wpAny (model X.prog X.w) X.A (spliced (backTo pos (starEach es X.env))) (AP X pins σ Q) X.xe s
def PS (X:Cx)(st:Stmt)(t:TS):Prop:=∀(pins:List (Addr×Obj)) (s:Shared) (σ:St) (H:Hp) (D:Ends),Inv X pins σ H s->t D σ H->wpAny (model X.prog X.w) X.A (exec st X.env) (SP X pins D) X.xe s
def PSs (X:Cx)(st:List Stmt)(t:TS):Prop:=∀(pins:List (Addr×Obj)) (s:Shared) (σ:St) (H:Hp) (D:Ends),Inv X pins σ H s->t D σ H->wpAny (model X.prog X.w) X.A (execs st X.env) (SP X pins D) X.xe s
theorem thn {α:Type}{t:Sem α}{Q Q':α->Shared->Prop}{M:Model}{A:Around}{E:Value->Shared->Prop}{s:Shared}(h:wpAny M A t Q E s)(hQ:∀a s,Q a s->Q' a s):wpAny M A t Q' E s:=wpAny_mono h hQ λ_ _ x=>x
section
variable {X:Cx}
theorem bin {a b:Expr}{ta tb:TE}(ha:PE X a ta)(hb:PE X b tb){pins:List (Addr×Obj)}{s:Shared}{σ:St}{H:Hp}{R:V->V->Hp->Prop}(I:Inv X pins σ H s)(h:ta σ H λx H1=>tb σ H1 λy H2=>R x y H2)
   {α:Type} {Q:α->Shared->Prop} {f:Value->Value->Sem α}
   (hf:∀v u s2 x y H2,Inv X pins σ H2 s2->RelV x v->RelV y u->R x y H2->wpAny (model X.prog X.w) X.A (f v u) Q X.xe s2) :
   wpAny (model X.prog X.w) X.A (eval a X.env) (λv s₁=>wpAny (model X.prog X.w) X.A (eval b X.env) (λu s₂=>wpAny (model X.prog X.w) X.A (f v u) Q X.xe s₂) X.xe s₁) X.xe s:=by
 refine thn (ha pins s σ H _ I h) λv s1 ⟨x,H1,I1,r1,q1⟩=>?_;refine thn (hb pins s1 σ H1 _ I1 q1) λu s2 ⟨y,H2,I2,r2,q2⟩=>?_;exact hf v u s2 x y H2 I2 r1 r2 q2
def Dp (i:Nat):TE:=λσ H Q=>∃v,σ[i]?=some (some v)/\Q v H
def tC (v:V):TE:=λ_ H Q=>Q v H
theorem a4 {i:Nat}{x:Str}{pos:Pos}(hN:X.N[i]?=some x)(hv:Vis X.env.scope x)(hd:(x==("__debug__" : Str))=false:=by decide)(hcd:(x==("__classdict__" : Str))=false:=by decide):PE X (.Name x pos) (Dp i):=by
 intro pins s σ H Q I h;obtain⟨v,e,h⟩:=h;obtain⟨m,hn,hl⟩:=I.loc;obtain⟨u,r,l⟩:=hl i x v hN e hv;have fin:EP X pins σ Q u s:=⟨v,H,I,r,h⟩;rcases l with ⟨hk,hm⟩ | ⟨hk,c,hc,hcell⟩
 . exact wpAny_Name (wpAny_loadName_local I.ok.kind hk hn hm fin) hd
 . rcases hk with hk | hk
   . exact wpAny_Name (wpAny_loadName_cell I.ok.kind hk hc hcell fin) hd
   . exact wpAny_Name (wpAny_loadName_free I.ok.kind hk hc hcell fin hcd) hd
theorem jr {i j pos}:PE X (.Constant (.int i) j pos) (tC (.int i)):=λ_ _ _ H _ I h=>wpAny_Constant_int ⟨.int i,H,I.tok _,⟨_,rfl⟩,h⟩
theorem D7 {b j pos}:PE X (.Constant (.bool b) j pos) (tC (.bl b)):=λ_ _ _ H _ I h=>Constant_bool ⟨.bl b,H,I,rfl,h⟩
theorem CO {j pos}:PE X (.Constant .none j pos) (tC .non):=λ_ _ _ H _ I h=>Constant_none ⟨.non,H,I,rfl,h⟩
theorem C8 {x j pos}:PE X (.Constant (.str x) j pos) (tC (.str x)):=λ_ _ _ H _ I h=>Calls.Constant_str ⟨.str x,H,I.tok _,⟨_,rfl⟩,h⟩
def Gl (X:Cx)(x:Str):Prop:=X.env.kindOf x=some .globalImplicit
theorem oQ {E:Value->Shared->Prop}{pins:List (Addr×Obj)}{s:Shared}{σ:St}{H:Hp}{x:Str}{u:Value}{pos:Pos}{Q:Value->Shared->Prop}(I:Inv X pins σ H s)(hg:Gl X x)(hm:X.mg x=some u)(h:Q u s)
   (hd:(x==("__debug__" : Str))=false:=by decide):wpAny (model X.prog X.w) X.A (eval (.Name x pos) X.env) Q E s:=
 Le I.ok.kind hg (Calls.loadGlobal_global (by rw[I.ok.glob]; exact I.mod.glob.keeps I.bk) hm h) hd
theorem dY {E:Value->Shared->Prop}{pins:List (Addr×Obj)}{s:Shared}{σ:St}{H:Hp}{x:Str}{u:Value}{pos:Pos}{Q:Value->Shared->Prop}(I:Inv X pins σ H s)(hg:Gl X x)(hm:X.mg x=none)(hv:bootBuiltins x=some u)(h:Q u s)
   (hn:x ≠ "__name__":=by decide) (hd:(x==("__debug__" : Str))=false:=by decide):wpAny (model X.prog X.w) X.A (eval (.Name x pos) X.env) Q E s:=by
 obtain⟨mb,h1,h2⟩:=I.mod.blt;exact Le I.ok.kind hg (Calls.loadGlobal_builtin (by rw[I.ok.glob]; exact I.mod.glob.keeps I.bk) hm (by rw[I.ok.blt]; exact h1.keeps I.bk) ((h2 x hn).trans hv) h) hd
theorem uS {x:Str}{v:V}{u:Value}{pos:Pos}(hg:Gl X x)(hm:X.mg x=some u)(r:RelV v u)(hd:(x==("__debug__" : Str))=false:=by decide):PE X (.Name x pos) (tC v):=λ_ _ _ H _ I h=>oQ I hg hm ⟨v,H,I,r,h⟩ hd
theorem A0 {x:Str}{v:V}{u:Value}{pos:Pos}(hg:Gl X x)(hm:X.mg x=none)(hv:bootBuiltins x=some u)(r:RelV v u)(hn:x ≠ "__name__":=by decide)(hd:(x==("__debug__" : Str))=false:=by decide):PE X (.Name x pos) (tC v):=λ_ _ _ H _ I h=>dY I hg hm hv ⟨v,H,I,r,h⟩ hn hd
variable {a b:Expr}{ta tb:TE}{pos:Pos}
def PC (X:Cx)(op:CmpOp)(a b:Expr)(t:TE):Prop:=
 ∀(pins:List (Addr×Obj)) (s:Shared) (σ:St) (H:Hp) (Q:VK),Inv X pins σ H s->t σ H Q ->
   wpAny (model X.prog X.w) X.A (eval a X.env) (λv s₁=>wpAny (model X.prog X.w) X.A (eval b X.env) (λu s₂=>wpAny (model X.prog X.w) X.A (compareOp op v u) (EP X pins σ Q) X.xe s₂) X.xe s₁) X.xe s
theorem lV (b:Expr){op:CmpOp}(h:op≠.In)(h2:op≠.NotIn):behindInMarks op b=false:=by
 have e1:(op==CmpOp.In)=false:=by cases op <;> first | rfl | exact absurd rfl h
 have e2:(op==CmpOp.NotIn)=false:=by cases op <;> first | rfl | exact absurd rfl h2
 cases b <;> simp[behindInMarks,e1,e2]
def Fe (ta:TE):TE:=λσ H Q=>ta σ H λx H1=>Q (.bl (!decide (x=.non))) H1
theorem RelV.yB {x:V}{v:Value}(r:RelV x v):(v==Hz)=decide (x=.non):=by
 cases x with
 | non=>cases r; rfl
 | bl _=>cases r; rfl
 | int _=>obtain⟨t,rfl⟩:=r; rfl
 | str _=>obtain⟨t,rfl⟩:=r; rfl
 | byt _=>obtain⟨t,rfl⟩:=r; rfl
 | flt _=>obtain⟨t,rfl⟩:=r; rfl
 | ref _=>cases r; rfl
 | ty _=>cases r; rfl
theorem AH {j pos'}(ha:PE X a ta):PC X .IsNot a (.Constant .none j pos') (Fe ta):=by intro pins s σ H Q I h;refine thn (ha pins s σ H _ I h) λv s1 ⟨x,H1,I1,r1,q1⟩=>?_;exact Constant_none (isnot_none_gen ⟨.bl _,H1,I1,by rw[r1.yB]; rfl,q1⟩)
def tB (t:TE):TT:=λσ H Q=>t σ H λx H1=>∃c,x=.bl c/\Q c H1
theorem tU {op:CmpOp}{t:TE}(h:PC X op a b t)(h1:behindInMarks op b=false:=by first | exact lV _ (by decide) (by decide) | rfl):PT X (.Compare a [op] [b] pos) (tB t):=by intro pins s σ H Q I hw;refine wpAny_isTrue_Compare1 (thn (h pins s σ H _ I hw) λv s1 h1=>thn h1 λu s2 h2=>thn h2 λc s3 ⟨x,H1,I1,r1,q1⟩=>?_) h1;obtain⟨d,rfl,q⟩:=q1;cases r1;exact wpAny_truthy_bool ⟨H1,I1,q⟩
theorem Ca {e:Expr}{t:TE}(h:PE X e t)(he:∀whole,isTrue e X.env whole=(do let v <- whole; standAt e.pos; holding [v] (truthy v)):=by intro _; rfl):PT X e (tB t):=by intro pins s σ H Q I hw;refine isTrue_plain (thn (h pins s σ H _ I hw) λv s1 ⟨x,H1,I1,r1,q1⟩=>?_) (he _);obtain⟨d,rfl,q⟩:=q1;cases r1;exact wpAny_truthy_bool ⟨H1,I1,q⟩
variable {tA tB':TT}{rest:List Expr}
def FQ (t u:TT):TT:=λσ H Q=>t σ H λc H1=>if c=true then u σ H1 Q else Q false H1
def tOr (t u:TT):TT:=λσ H Q=>t σ H λc H1=>if c=true then Q true H1 else u σ H1 Q
def FG (t:TT):TT:=λσ H Q=>t σ H λc H1=>Q (!c) H1
theorem pw_and1 (ha:PT X a tA):PW X (.BoolOp .And [a] pos) tA:=by
 intro wh pins s σ H Q I h;refine isTrue_and (thn (ha pins s σ H Q I h) λc s1 e=>?_);cases c with
 | true=>exact isTrue_and_nil e
 | false=>exact e
theorem pw_or1 (ha:PT X a tA):PW X (.BoolOp .Or [a] pos) tA:=by
 intro wh pins s σ H Q I h;refine isTrue_or (thn (ha pins s σ H Q I h) λc s1 e=>?_);cases c with
 | false=>exact isTrue_or_nil e
 | true=>exact e
theorem pw_and (ha:PT X a tA)(hb:PW X (.BoolOp .And (b::rest) pos) tB'):PW X (.BoolOp .And (a::b::rest) pos) (FQ tA tB'):=by
 intro wh pins s σ H Q I h;refine isTrue_and (thn (ha pins s σ H _ I h) λc s1 ⟨H1,I1,q1⟩=>?_);cases c with
 | true=>exact hb wh pins s1 σ H1 Q I1 q1
 | false=>exact⟨H1,I1,q1⟩
theorem pw_or (ha:PT X a tA)(hb:PW X (.BoolOp .Or (b::rest) pos) tB'):PW X (.BoolOp .Or (a::b::rest) pos) (tOr tA tB'):=by
 intro wh pins s σ H Q I h;refine isTrue_or (thn (ha pins s σ H _ I h) λc s1 ⟨H1,I1,q1⟩=>?_);cases c with
 | true=>exact⟨H1,I1,q1⟩
 | false=>exact hb wh pins s1 σ H1 Q I1 q1
theorem CK (ha:PT X a tA):PT X (.UnaryOp .Not a pos) (FG tA):=by intro pins s σ H Q I h;exact isTrue_not (ha pins s σ H (λc H1=>Q (!c) H1) I h)
def Fv (ta tb:TE):TE:=λσ H Q=>ta σ H λx H1=>∃c,x=.bl c/\if c=true then tb σ H1 Q else Q (.bl false) H1
def El (ta:TE):TE:=λσ H Q=>ta σ H λx H1=>∃c,x=.bl c/\Q (.bl (!c)) H1
theorem BR {op}{t:TE}(h:PE X a t):PE X (.BoolOp op [a] pos) t:=λpins s σ H Q I hw=>BoolOp_one (h pins s σ H Q I hw)
theorem yZ (ha:PE X a ta)(hb:PE X (.BoolOp .And (b::rest) pos) tb):PE X (.BoolOp .And (a::b::rest) pos) (Fv ta tb):=by
 intro pins s σ H Q I h;refine BoolOp_and (thn (ha pins s σ H _ I h) λv s1 ⟨x,H1,I1,r1,q1⟩=>?_);obtain⟨c,rfl,q1⟩:=q1;cases r1;refine wpAny_truthy_bool ?_;cases c with
 | true=>exact hb pins s1 σ H1 Q I1 q1
 | false=>exact⟨.bl false,H1,I1,rfl,q1⟩
theorem C5 (ha:PE X a ta):PE X (.UnaryOp .Not a pos) (El ta):=by intro pins s σ H Q I h;refine UnaryOp_ (thn (ha pins s σ H _ I h) λv s1 ⟨x,H1,I1,r1,q1⟩=>?_);obtain⟨c,rfl,q1⟩:=q1;cases r1;exact not_of (wpAny_truthy_bool ⟨.bl (!c),H1,I1,rfl,q1⟩)
def tIf (t:TT)(ta tb:TE):TE:=λσ H Q=>t σ H λc H1=>if c=true then ta σ H1 Q else tb σ H1 Q
theorem qS {c:Expr}(hc:PT X c tA)(ha:PE X a ta)(hb:PE X b tb):PE X (.IfExp c a b pos) (tIf tA ta tb):=by
 intro pins s σ H Q I h;refine wpAny_IfExp (thn (hc pins s σ H _ I h) λd s1 ⟨H1,I1,q1⟩=>?_);cases d with
 | true=>exact ha pins s1 σ H1 Q I1 q1
 | false=>exact hb pins s1 σ H1 Q I1 q1
end
def SqL (K:gV)(H:Hp)(a:Addr)(xs:List V):Prop:=
 Rd H a (.lst xs) \/
   ∃(o:Obj) (its:Array Value) (n:Nat),K.lookup a=some o/\o.cls=.type "list" /\ o.dict=none/\o.data=.seq its n/\its.size<=sizeLine/\Vals xs its.toList
def SqT (K:gV)(H:Hp)(a:Addr)(xs:List V):Prop:=
 Rd H a (.tup xs) \/
   ∃(o:Obj) (its:Array Value) (n:Nat),K.lookup a=some o/\o.cls=.type "tuple" /\ o.data=.seq its n/\its.size<=sizeLine/\Vals xs its.toList
noncomputable def FU:Value->Option V
 | .none=>some .non
 | .bool b=>some (.bl b)
 | .int i _=>some (.int i)
 | .str x _=>some (.str x)
 | .bytes b _=>some (.byt b)
 | .float b _=>some (.flt b)
 | .ref a=>some (.ref a)
 | .type n=>some (.ty n)
 | _=>none
theorem RelV.abs {x:V}{u:Value}(r:RelV x u):FU u=some x:=by
 cases x with
 | non=>cases r; rfl
 | bl _=>cases r; rfl
 | int _=>obtain⟨t,rfl⟩:=r; rfl
 | str _=>obtain⟨t,rfl⟩:=r; rfl
 | byt _=>obtain⟨t,rfl⟩:=r; rfl
 | flt _=>obtain⟨t,rfl⟩:=r; rfl
 | ref _=>cases r; rfl
 | ty _=>cases r; rfl
theorem RelV.inj {x y:V}{u:Value}(r:RelV x u)(q:RelV y u):x=y:=GS (r.abs.symm.trans q.abs)
theorem Vals.inj:∀{xs ys:List V} {us:List Value},Vals xs us->Vals ys us->xs=ys
 | _,_,_,.nil,.nil=>rfl
 | _,_,_,.cons r t,.cons r' t'=>by rw[r.inj r',Vals.inj t t']
section
variable {X:Cx}{pins:List (Addr×Obj)}{σ:St}{H:Hp}{s:Shared}{a:Addr}{xs ys:List V}
theorem SqL.of {K:gV}(h:H a=some (.lst xs)):SqL K H a xs:=.inl (.inl h)
theorem SqT.of {K:gV}(h:H a=some (.tup xs)):SqT K H a xs:=.inl (.inl h)
theorem Inv.list (I:Inv X pins σ H s)(h:SqL X.K H a xs):∃its:List Value,Vals xs its/\PlainL s.heap a its.toArray/\xs.length<=sizeLine:=by
 rcases h with h | ⟨o,its,n,hk,hc,hd,hs,hz,r⟩
 . obtain⟨z,its,n,r,e⟩:=h.ok I.hok;exact⟨its,r,⟨_,n,e,rfl,rfl,rfl⟩,z⟩
 . refine⟨its.toList,r,⟨o,n,I.kIn a o hk,hc,hd,by simpa using hs⟩,?_⟩;have e:=r.length;simp only[G8]at e;omega
theorem Inv.tuple (I:Inv X pins σ H s)(h:SqT X.K H a xs):∃its:List Value,Vals xs its/\IsTup s.heap a its.toArray/\xs.length<=sizeLine:=by
 rcases h with h | ⟨o,its,n,hk,hc,hs,hz,r⟩
 . obtain⟨z,its,r,p⟩:=h.ok I.hok;exact⟨its,r,p,z⟩
 . refine⟨its.toList,r,⟨o,I.kIn a o hk,hc,n,by simpa using hs⟩,?_⟩;have e:=r.length;simp only[G8]at e;omega
theorem Inv.gc (I:Inv X pins σ H s)(h:SqL X.K H a xs)(h':SqL X.K H a ys):xs=ys:=by
 obtain⟨its,r,⟨o,n,e,_,_,d⟩,_⟩:=I.list h;obtain⟨its',r',⟨o',n',e',_,_,d'⟩,_⟩:=I.list h';rw[e]at e'; cases e';rw[d]at d';injection d' with d1 _;have:its=its':=by simpa using congrArg KO d1
 subst this;exact r.inj r'
theorem Inv.wR (I:Inv X pins σ H s)(h:SqT X.K H a xs)(h':SqT X.K H a ys):xs=ys:=by
 obtain⟨its,r,⟨o,e,_,n,d⟩,_⟩:=I.tuple h;obtain⟨its',r',⟨o',e',_,n',d'⟩,_⟩:=I.tuple h';rw[e]at e'; cases e';rw[d]at d';injection d' with d1 _;have:its=its':=by simpa using congrArg KO d1
 subst this;exact r.inj r'
end
noncomputable abbrev Cx.mj (X:Cx)(E:Value->Shared->Prop):Cx:={ X with xe:=E }
noncomputable abbrev Cx.nox (X:Cx):Cx:=X.mj λ_ _=>False
theorem Cx.Ok.mj {X:Cx}(ok:X.Ok)(E:Value->Shared->Prop):(X.mj E).Ok:=⟨ok.mod,ok.kind,ok.glob,ok.blt,ok.above,ok.inj,ok.has,ok.cab,ok.hd,ok.frames,ok.stk,ok.exf,ok.bs,ok.bsz,ok.noex,ok.exfs,ok.kg,ok.frf⟩
theorem Cx.Ok.gn {X:Cx}{E:Value->Shared->Prop}(ok:(X.mj E).Ok):X.Ok:=⟨ok.mod,ok.kind,ok.glob,ok.blt,ok.above,ok.inj,ok.has,ok.cab,ok.hd,ok.frames,ok.stk,ok.exf,ok.bs,ok.bsz,ok.noex,ok.exfs,ok.kg,ok.frf⟩
section
variable {X:Cx}{pins:List (Addr×Obj)}{σ:St}{H:Hp}{s:Shared}{E:Value->Shared->Prop}
theorem Inv.mj (I:Inv X pins σ H s)(E:Value->Shared->Prop):Inv (X.mj E) pins σ H s:=⟨I.ok.mj E,I.os,I.bare,I.base,I.loc,I.cell,I.free,I.freeC,I.pin,I.hok,I.len⟩
theorem Inv.gn (I:Inv (X.mj E) pins σ H s):Inv X pins σ H s:=⟨I.ok.gn,I.os,I.bare,I.base,I.loc,I.cell,I.free,I.freeC,I.pin,I.hok,I.len⟩
theorem SP.gn {D:Ends}{f:Flow}{s':Shared}(h:SP (X.mj E) pins D f s'):SP X pins D f s':=by
 cases f with
 | next=>obtain⟨σ',H',I,q⟩:=h; exact⟨σ',H',I.gn,q⟩
 | brk=>obtain⟨σ',H',I,q⟩:=h; exact⟨σ',H',I.gn,q⟩
 | cont=>obtain⟨σ',H',I,q⟩:=h; exact⟨σ',H',I.gn,q⟩
 | ret u=>obtain⟨v,σ',H',I,r,q⟩:=h; exact⟨v,σ',H',I.gn,r,q⟩
theorem PSs.nox {st:List Stmt}{t:TS}(h:PSs X.nox st t):PSs X st t:=λpins s σ H D I hw=>wpAny_mono (h pins s σ H D (I.mj _) hw) (λ_ _ q=>q.gn) λ_ _ z=>Ie z
end
section
variable {X:Cx}{st:Stmt}{rest:List Stmt}{t u:TS}{e:Expr}{te:TE}{pos:Pos}
def EC:TS:=λD σ H=>D.nx σ H
def ET (t u:TS):TS:=λD σ H=>t { D with nx:=u D } σ H
theorem zK:PSs X [] EC:=λ_ _ σ H _ I h=>wpAny_execs_nil ⟨σ,H,I,h⟩
theorem qC (h1:PS X st t)(h2:PSs X rest u):PSs X (st::rest) (ET t u):=by
 intro pins s σ H D I h;refine wpAny_execs_cons (thn (h1 pins s σ H { D with nx:=u D } I h) λf s1 q=>?_);cases f with
 | next=>obtain⟨σ',H',I',q⟩:=q;exact h2 pins s1 σ' H' D I' q
 | ret v=>exact q
 | brk=>exact q
 | cont=>exact q
theorem kq (h1:PS X st t):PSs X [st] t:=by
 intro pins s σ H D I h;refine wpAny_execs_cons (thn (h1 pins s σ H D I h) λf s1 q=>?_);cases f with
 | next=>exact wpAny_execs_nil q
 | ret v=>exact q
 | brk=>exact q
 | cont=>exact q
theorem Inv.quiet {pins:List (Addr×Obj)}{σ:St}{H:Hp}{s:Shared}(I:Inv X pins σ H s):interactive X.env=false:=by simp[interactive,I.ok.kind]
def Fw (te:TE):TS:=λD σ H=>te σ H λ_ H1=>D.nx σ H1
theorem fF (he:PE X e te)(hs:swapsWith e none pos.line X.env=pure false:=by rfl):PS X (.Expr e pos) (Fw te):=by intro pins s σ H D I h;exact wpAny_Expr_any (thn (he pins s σ H _ I h) λv s1 ⟨x,H1,I1,r1,q1⟩=>⟨σ,H1,I1,q1⟩) I.quiet hs
def F4 (te:TE):TS:=λD σ H=>te σ H D.rt
theorem k9 (he:PE X e te):PS X (.Return (some e) pos) (F4 te):=by intro pins s σ H D I h;exact wpAny_Return_some (thn (he pins s σ H _ I h) λv s1 ⟨x,H1,I1,r1,q1⟩=>⟨x,σ,H1,I1,r1,q1⟩)
def FW (c:TT)(t u:TS):TS:=λD σ H=>c σ H λb H1=>if b=true then t D σ H1 else u D σ H1
theorem BI {c:Expr}{a b:List Stmt}{tc:TT}(hc:PT X c tc)(ha:PSs X a t)(hb:PSs X b u):PS X (.If c a b pos) (FW tc t u):=by
 intro pins s σ H D I h;refine wpAny_If (thn (hc pins s σ H _ I h) λd s1 ⟨H1,I1,q1⟩=>?_);cases d with
 | true=>exact ha pins s1 σ H1 D I1 q1
 | false=>exact hb pins s1 σ H1 D I1 q1
def Dm:TS:=λ_ _ _=>False
theorem mW {sts:List Stmt}:PSs X sts Dm:=λ_ _ _ _ _ _ h=>h.elim
end
noncomputable abbrev TG:=V->St->Hp->(St->Hp->Prop)->Prop
noncomputable abbrev TGs:=List V->St->Hp->(St->Hp->Prop)->Prop
def PG (X:Cx)(target:Expr)(t:TG):Prop:=
 ∀(pins:List (Addr×Obj)) (s:Shared) (σ:St) (H:Hp) (v:V) (u:Value) (Q:St->Hp->Prop),Inv X pins σ H s->RelV v u->t v σ H Q ->
   wpAny (model X.prog X.w) X.A (assign target X.env u) (λ_ s'=>∃σ' H',Inv X pins σ' H' s'/\Q σ' H') X.xe s
def PGs (X:Cx)(ts:List Expr)(t:TGs):Prop:=
 ∀(pins:List (Addr×Obj)) (s:Shared) (σ:St) (H:Hp) (vs:List V) (us:List Value) (Q:St->Hp->Prop),Inv X pins σ H s->Vals vs us->t vs σ H Q ->
   wpAny (model X.prog X.w) X.A (assignInOrder ((assignEach ts X.env).map (·.2)) us) (λ_ s'=>∃σ' H',Inv X pins σ' H' s'/\Q σ' H') X.xe s
noncomputable abbrev BN:=V->V->V->Hp->(Hp->Prop)->Prop
def D6 (X:Cx)(t:BN):Prop:=
 ∀(pins:List (Addr×Obj)) (s:Shared) (σ:St) (H:Hp) (o i v:V) (ov iv u:Value) (Q:Hp->Prop),Inv X pins σ H s->RelV o ov->RelV i iv->RelV v u->t o i v H Q ->
   wpAny (model X.prog X.w) X.A (setItem ov iv u) (λ_ s'=>∃H',Inv X pins σ H' s'/\Q H') X.xe s
section
variable {X:Cx}{pos:Pos}
def BL (i:Nat):TG:=λv σ H Q=>Q (σ.set i (some v)) H
theorem iU {i:Nat}{x:Str}(hN:X.N.Nodup)(hi:X.N[i]?=some x)(hx:Loc X.env.scope x)(hf:X.fn x=true\/X.env.scope.names.lookup x=some .local:=by first | exact .inl rfl | exact .inr rfl | assumption):PG X (.Name x pos) (BL i):=by intro pins s σ H v u Q I r h;exact wpAny_assign_Name (rW I hN hi hx r (λs' I'=>⟨_,H,I',h⟩) hf)
noncomputable def FE:TGs:=λvs σ H Q=>vs=[]/\Q σ H
noncomputable def EA (t:TG)(u:TGs):TGs:=λvs σ H Q=>∃v r,vs=v::r/\t v σ H λσ' H'=>u r σ' H' Q
theorem u9:PGs X [] FE:=by intro pins s σ H vs us Q I r h;obtain⟨e,h⟩:=h;subst e;cases r;exact assignInOrder_nil ⟨σ,H,I,h⟩
theorem kW {e:Expr}{es:List Expr}{t:TG}{u:TGs}(h1:PG X e t)(h2:PGs X es u)
   (hs:(assignEach (e::es) X.env).map (·.2)=assign e X.env::(assignEach es X.env).map (·.2):=by rfl):PGs X (e::es) (EA t u):=by
 intro pins s σ H vs us Q I r h;obtain⟨v,vr,e1,h⟩:=h;subst e1;cases r with
 | cons r rr=>rw[hs];refine assignInOrder_cons (thn (h1 pins s σ H _ _ _ I r h) λ_ s1 ⟨σ1,H1,I1,q1⟩=>?_);exact h2 pins s1 σ1 H1 _ _ Q I1 rr q1
def Ge (K:gV)(n:Nat)(t:TGs):TG:=λv σ H Q=>∃a xs,v=.ref a/\SqT K H a xs/\xs.length=n/\t xs σ H Q
theorem yW {es:List Expr}{k:Nat}{t:TGs}{n:Nat}(hc:X.calm=true)(h:PGs X es t)
   (hn:(assignEach es X.env).length=n:=by rfl) (hst:(assignEach es X.env).findIdx? (·.1)=none:=by rfl):PG X (.Tuple es k pos) (Ge X.K n t):=by
 intro pins s σ H v u Q I r hw;obtain⟨a,xs,e1,hq,hl,hw⟩:=hw;subst e1;cases r;obtain⟨its,rv,ht,hz⟩:=I.tuple hq;refine assign_Tuple_tuple (I.ok.hd hc) ht (by simp[hn,<- hl,rv.length]) hst λh' hx=>?_;have I1:Inv X pins σ H { s with heap:=h' }:=I.kept (t':=s.toks) λb o e=>hx b o (GR (Gr e)) e;exact h pins _ σ H xs _ Q I1 (by simpa using rv) hw
def Gf (to ti:TE)(t:BN):TG:=λv σ H Q=>to σ H λo H1=>ti σ H1 λi H2=>t o i v H2 λH3=>Q σ H3
theorem DB {o i:Expr}{to ti:TE}{t:BN}(ho:PE X o to)(hi:PE X i ti)(hs:D6 X t)
   (ha:∀v,assign (.Subscript o i pos) X.env v=(do
     let ov <- holding [v] (eval o X.env)
     let iv <- holding [v,ov] (eval i X.env)
     standAt pos
     holding [v,ov,iv] (setItem ov iv v)
     release [v,ov,iv] []):=by intro _; rfl):PG X (.Subscript o i pos) (Gf to ti t):=by
 intro pins s σ H v u Q I r h;rw[ha];refine wpAny_bind (wpAny_holding (thn (ho pins s σ H _ I h) λov s1 ⟨x,H1,I1,r1,q1⟩=>?_));refine wpAny_bind (wpAny_holding (thn (hi pins s1 σ H1 _ I1 q1) λiv s2 ⟨y,H2,I2,r2,q2⟩=>?_));refine wpAny_bind (wpAny_standAt (wpAny_bind (wpAny_holding (thn (hs pins s2 σ H2 x y v ov iv u _ I2 r1 r2 r q2) λ_ s3 ⟨H3,I3,q3⟩=>?_))));exact wpAny_release ⟨σ,H3,I3,q3⟩
def Dj (te:TE)(g:TG):TS:=λD σ H=>te σ H λx H1=>g x σ H1 D.nx
theorem sA {tg e:Expr}{te:TE}{g:TG}(he:PE X e te)(hg:PG X tg g)(hs:swapsWithSole [tg] e pos.line X.env=pure false:=by rfl)(hw:swappedStores [tg] e X.env=pure none:=by rfl)
   (h1:(assignEach [tg] X.env).map (·.2)=[assign tg X.env]:=by rfl):PS X (.Assign [tg] e pos) (Dj te g):=by
 intro pins s σ H D I h;refine wpAny_Assign_stores (thn (he pins s σ H _ I h) λv s1 ⟨x,H1,I1,r1,q1⟩=>?_) hs hw;rw[h1];exact thn (hg pins s1 σ H1 x v _ I1 r1 q1) λ_ s2 q=>q
theorem w6 {i:Nat}{x:Str}{e:Expr}{te:TE}{pos':Pos}(hN:X.N.Nodup)(hi:X.N[i]?=some x)(hx:Loc X.env.scope x)(he:PE X e te)(hs:swapsWith e (some (.Name x pos')) pos.line X.env=pure false:=by rfl)(hf:X.fn x=true\/X.env.scope.names.lookup x=some .local:=by first | exact .inl rfl | exact .inr rfl | assumption):
   PS X (.Assign [.Name x pos'] e pos) (Dj te (BL i)):=by
 intro pins s σ H D I h;refine wpAny_Assign_Name (thn (he pins s σ H _ I h) λv s1 ⟨y,H1,I1,r1,q1⟩=>?_) hs;exact rW I1 hN hi hx r1 (λs2 I2=>⟨_,H1,I2,q1⟩) hf
end
section
variable {X:Cx}{pos:Pos}
def DK (c:TT)(tb:TS):TS:=λD σ H=>∃W:Nat->St->Hp->Prop,(∃m,W m σ H)/\∀m σ H,W m σ H ->
 c σ H λb H1=>if b=true then ∃N:St->Hp->Prop,(∀σ' H',N σ' H'->∃m',m'<m/\W m' σ' H')/\tb { D with nx:=N,ct:=N,bk:=D.nx } σ H1 else D.nx σ H1
theorem zB {c:Expr}{body:List Stmt}{tc:TT}{tb:TS}(hp:PassesOwn (model X.prog X.w) X.A X.env X.xe)(hc:PT X c tc)(hb:PSs X body tb):PS X (.While c body [] pos) (DK tc tb):=by
 intro pins s σ H D I h;obtain⟨W,⟨m0,w0⟩,turn⟩:=h;refine wpAny_While (codeAny_whileLoop (λn s'=>∃σ' H',Inv X pins σ' H' s'/\W n σ' H') ?_ m0 ⟨σ,H,I,w0⟩);rintro n s1 ⟨σ1,H1,I1,w1⟩;refine wpAny_passesOwn hp (thn (hc pins s1 σ1 H1 _ I1 (turn n σ1 H1 w1)) λb s2 ⟨H2,I2,q2⟩=>?_);cases b with
 | true=>
   obtain⟨N,hN,q2⟩:=q2;rw[if_pos rfl];refine wpAny_passesOwn hp (thn (hb pins s2 σ1 H2 _ I2 q2) λf s3 q3=>?_);cases f with
   | next=>obtain⟨σ3,H3,I3,n3⟩:=q3;obtain⟨m',hm,w3⟩:=hN σ3 H3 n3;exact⟨m',hm,σ3,H3,I3,w3⟩
   | cont=>obtain⟨σ3,H3,I3,n3⟩:=q3;obtain⟨m',hm,w3⟩:=hN σ3 H3 n3;exact⟨m',hm,σ3,H3,I3,w3⟩
   | brk=>exact q3
   | ret v=>exact q3
 | false=>rw[if_neg xa];exact wpAny_execs_nil ⟨σ1,H2,I2,q2⟩
end
structure It where
 go:Nat->Hp->Prop
 yld:Nat->Hp->V->Hp->Prop
 stop:Nat->Hp->Prop
def mP (X:Cx)(pins:List (Addr×Obj))(H:Hp)(b:Addr):Prop:=H b=none/\b≠X.env.locals/\b∉X.fs/\(b∈X.ex\/X.s₀.heap.objs.size<=b)/\(∀x c,X.env.cells.lookup x=some c->c≠b)/\∀p∈X.pn++pins,p.1≠b
theorem Inv.jv {X:Cx}{pins:List (Addr×Obj)}{σ:St}{H H':Hp}{s:Shared}{b:Addr}(I:Inv X pins σ H s)(hb:s.heap.objs.size<=b)(hn:H' b=none):mP X pins H' b:=by
 refine⟨hn,Nat.ne_of_gt (Gz I.lt hb),I.F8 hb,.inr (GB I.sz hb),λx c e z=>?_,λp hp z=>?_⟩
 . obtain⟨v,q⟩:=I.cell x c e;exact absurd (Gz q.lt (by rw[z]; exact hb)) (Hs _)
 . exact absurd (Gz (Gr (I.pin p hp).1) (by rw[z]; exact hb)) (Hs _)
def FX (X:Cx):Prop:=∃h o u vs,X.A.handled=some (.ref h)/\X.H₀ h=some (.frz o u)/\o.data=.fields vs/\vs[2]?=some .none
def Ck (kd:Bool)(X:Cx):Prop:=X.calm=true\/(kd=true/\FX X)
theorem Ck.calm {X:Cx}(h:Ck false X):X.calm=true:=h.resolve_right λz=>nomatch z.1
structure Turn (P:Program)(w:World)(K:gV)(kd:Bool)(tg:Expr)(J:It)(fp:List Addr)(it:Addr)(tn:Nat->Heap->Prop):Prop where
 mem:it∈fp
 obj:∀i h,tn i h->∀b∈fp,∃o,h.get? b=some o/\∀v,o.data≠.cell v
 keep:∀i h h',tn i h->(∀b∈fp,∀o,h.get? b=some o->h'.get? b=some o)->tn i h'
 item:∀(X:Cx),X.prog=P->X.w=w->X.K=K->Ck kd X->∀(i:Nat) (pins:List (Addr×Obj)) (s:Shared) (σ:St) (H:Hp) (E:Value->Shared->Prop),Inv X pins σ H s->(∀b∈fp,mP X pins H b)->tn i s.heap->J.go i H ->
   wpAny (model P w) X.A (pyNext (.ref it)) (λr s1=>∃u,r=some u /\
     wpAny (model P w) X.A (letOwnedTupleGo tg (.ref it) u) (λ_ s2=>∃x H',Inv X pins σ H' s2/\RelV x u/\J.yld i H x H'/\tn (i+1) s2.heap/\∀b∈fp,H' b=none) E s1) E s
 done:∀(X:Cx),X.prog=P->X.w=w->X.K=K->Ck kd X->∀(i:Nat) (pins:List (Addr×Obj)) (s:Shared) (σ:St) (H:Hp) (E:Value->Shared->Prop),Inv X pins σ H s->(∀b∈fp,mP X pins H b)->tn i s.heap->J.stop i H ->
   wpAny (model P w) X.A (pyNext (.ref it)) (λr s1=>r=none/\Inv X pins σ H s1) E s
 self:∀(A:Around) (i:Nat) (s:Shared) (Q:Value->Shared->Prop) (E:Value->Shared->Prop),tn i s.heap->Q (.ref it) s->wpAny (model P w) A (pyIter (.ref it)) Q E s
noncomputable abbrev TI:=St->Hp->(It->Hp->Prop)->Prop
def PIE (X:Cx)(pins:List (Addr×Obj))(σ:St)(tg:Expr)(R:It->Hp->Prop)(itv:Value)(s2:Shared):Prop:=∃(kd:Bool) (it:Addr) (fp:List Addr) (tn:Nat->Heap->Prop) (J:It) (H':Hp),itv=.ref it/\Inv X pins σ H' s2/\Ck kd X/\Turn X.prog X.w X.K kd tg J fp it tn/\tn 0 s2.heap/\(∀b∈fp,mP X pins H' b)/\R J H'
def PI (X:Cx)(tg iter:Expr)(wi:TI):Prop:=
 ∀(pins:List (Addr×Obj)) (s:Shared) (σ:St) (H:Hp) (R:It->Hp->Prop),Inv X pins σ H s->wi σ H R ->
   wpAny (model X.prog X.w) X.A (eval iter X.env) (λv s1=>wpAny (model X.prog X.w) X.A (pyIter v) (PIE X pins σ tg R) X.xe s1) X.xe s
theorem iH {M:Model}{A:Around}{E:Value->Shared->Prop}{s:Shared}{tg:Expr}{it:Addr}{u:Value}{o:Obj}{n:String}{vs:Array Value}{Q:Unit->Shared->Prop}(ho:s.heap.get? it=some o)(hc:o.cls=.type n)(hd:o.data=.fields vs)
   (hn:["enumerate","zip","dict_itemiterator","dict_reverseitemiterator","odict_iterator","itertools.zip_longest","itertools.pairwise"].contains n=false) (hQ:Q () s):wpAny M A (letOwnedTupleGo tg (.ref it) u) Q E s:=by
 unfold letOwnedTupleGo
 cases tg <;> first
   | exact wpAny_pure hQ
   | (cases u <;> first
       | exact wpAny_pure hQ
       | (refine wpAny_bind (wpAny_load ho ?_)
          rw[hc,hd];show wpAny M A (if (["enumerate","zip","dict_itemiterator","dict_reverseitemiterator","odict_iterator","itertools.zip_longest","itertools.pairwise"].contains n&&vs[0]?==some (rawInt _))=true then _ else _) Q E s;rw[if_neg (by intro h; rw[hn,Bool.false_and]at h; cases h)];exact wpAny_pure hQ))
noncomputable def Itl (K:gV)(a:Addr):It:=⟨λi H=>∃xs x,SqL K H a xs/\xs[i]?=some x,λi H x H'=>H'=H/\∀xs,SqL K H a xs->xs[i]?=some x,λi H=>∃xs,SqL K H a xs/\xs.length<=i⟩
noncomputable def Itt (K:gV)(a:Addr):It:=⟨λi H=>∃xs x,SqT K H a xs/\xs[i]?=some x,λi H x H'=>H'=H/\∀xs,SqT K H a xs->xs[i]?=some x,λi H=>∃xs,SqT K H a xs/\xs.length<=i⟩
noncomputable def Itr (lo:Int)(n:Nat):It:=⟨λi _=>i<n,λi H x H'=>H'=H/\x=.int (lo+i),λi _=>n<=i⟩
theorem vQ {P:Program}{w:World}{K:gV}{tg:Expr}(a it:Addr):Turn P w K false tg (Itl K a) [it] it (λi h=>h.IsListIter it a i) where
 mem:=by simp
 obj:=λi h st b hb=>by
   have e:b=it:=by simpa using hb
   subst e;obtain⟨o,e,c,d⟩:=st;exact⟨o,e,λv z=>by rw[d]at z; cases z⟩
 keep:=λi h h' st k=>st.at λo e=>k it (by simp) o e
 item:=by intro X hP hw hK hc i pins s σ H E I hf st hg;subst hP hw hK;obtain⟨xs,x,hq,hx⟩:=hg;obtain⟨its,rv,p,hz⟩:=I.list hq;obtain⟨u,hu,ru⟩:=rv.get hx;obtain⟨f0,f1,f2,f3,f4,f5⟩:=hf it (by simp);refine wpAny_pyNext_list_item st p.isList (x:=u) (by simpa using hu) λh' st' sb=>?_;have I1:Inv X pins σ H { s with heap:=h' }:=I.turned (t':=s.toks) (λb o hb e=>(sb.2 b hb).trans e) f0 f1 f3 f4 f5;obtain⟨o,e,c,d⟩:=id st';exact⟨u,rfl,iH (s:={ s with heap:=h' }) e c d (by decide) ⟨x,H,I1,ru,⟨rfl,λys hy=>by rw[I.gc hy hq]; exact hx⟩,st',λb hb=>(hf b hb).1⟩⟩
 done:=by intro X hP hw hK hc i pins s σ H E I hf st hg;subst hP hw hK;obtain⟨xs,hq,hx⟩:=hg;obtain⟨its,rv,p,hz⟩:=I.list hq;obtain⟨f0,f1,f2,f3,f4,f5⟩:=hf it (by simp);have hl:=rv.length;exact wpAny_pyNext_list_end (I.ok.hd hc.calm) st p.isList (by simp; omega) λh' eb=>⟨rfl,I.turned (t':=s.toks) (λb o hb e=>eb b o hb e) f0 f1 f3 f4 f5⟩
 self:=λ_ _ _ _ _ st h=>wpAny_pyIter_listiter st h
theorem tj {P:Program}{w:World}{K:gV}{tg:Expr}(a it:Addr):Turn P w K false tg (Itt K a) [it] it (λi h=>h.IsTupleIter it a i) where
 mem:=by simp
 obj:=λi h st b hb=>by
   have e:b=it:=by simpa using hb
   subst e;obtain⟨o,e,c,d⟩:=st;exact⟨o,e,λv z=>by rw[d]at z; cases z⟩
 keep:=λi h h' st k=>st.at λo e=>k it (by simp) o e
 item:=by intro X hP hw hK hc i pins s σ H E I hf st hg;subst hP hw hK;obtain⟨xs,x,hq,hx⟩:=hg;obtain⟨its,rv,p,hz⟩:=I.tuple hq;obtain⟨u,hu,ru⟩:=rv.get hx;obtain⟨f0,f1,f2,f3,f4,f5⟩:=hf it (by simp);refine wpAny_pyNext_tuple_item st (show s.heap.IsTuple a its.toArray from p) (x:=u) (by simpa using hu) λh' st' sb=>?_;have I1:Inv X pins σ H { s with heap:=h' }:=I.turned (t':=s.toks) (λb o hb e=>(sb.2 b hb).trans e) f0 f1 f3 f4 f5;obtain⟨o,e,c,d⟩:=id st';exact⟨u,rfl,iH (s:={ s with heap:=h' }) e c d (by decide) ⟨x,H,I1,ru,⟨rfl,λys hy=>by rw[I.wR hy hq]; exact hx⟩,st',λb hb=>(hf b hb).1⟩⟩
 done:=by intro X hP hw hK hc i pins s σ H E I hf st hg;subst hP hw hK;obtain⟨xs,hq,hx⟩:=hg;obtain⟨its,rv,p,hz⟩:=I.tuple hq;obtain⟨f0,f1,f2,f3,f4,f5⟩:=hf it (by simp);have hl:=rv.length;exact wpAny_pyNext_tuple_end (I.ok.hd hc.calm) st (show s.heap.IsTuple a its.toArray from p) (by simp; omega) λh' eb=>⟨rfl,I.turned (t':=s.toks) (λb o hb e=>eb b o hb e) f0 f1 f3 f4 f5⟩
 self:=λ_ _ _ _ _ st h=>wpAny_pyIter_tupleiter st h
theorem tP {P:Program}{w:World}{K:gV}{tg:Expr}(it:Addr)(lo:Int)(n:Nat):Turn P w K true tg (Itr lo n) [it] it (λi h=>IsRangeIter h it (lo+(i:Nat)*1) ((n:Int)-(i:Nat)) 1) where
 mem:=by simp
 obj:=λi h st b hb=>by
   have e:b=it:=by simpa using hb
   subst e
   exact⟨_,st,λv z=>by
     have z':Data.fields _=Data.cell v:=z;cases z'⟩
 keep:=λi h h' st k=>k it (by simp) _ st
 item:=by
   intro X hP hw hK hc i pins s σ H E I hf st hg;subst hP hw hK;obtain⟨f0,f1,f2,f3,f4,f5⟩:=hf it (by simp);refine wpAny_pyNext_range_item st (by have:i<n:=hg; omega) λh' st0 sb=>?_
   have st':IsRangeIter h' it (lo+((i+1:Nat):Int)*1) ((n:Int)-((i+1:Nat):Int)) 1:=by
     have e1:lo+((i+1:Nat):Int)*1=lo+(i:Nat)*1+1:=by omega
     have e2:(n:Int)-((i+1:Nat):Int)=(n:Int)-(i:Nat)-1:=by omega
     rw[e1,e2]; exact st0
   have I1:Inv X pins σ H { s with heap:=h',toks:=s.toks+1 }:=I.turned (λb o hb e=>(sb.2 b hb).trans e) f0 f1 f3 f4 f5;refine⟨_,rfl,iH (s:={ s with heap:=h',toks:=s.toks+1 }) (n:="range_iterator") st' rfl rfl (by decide) ⟨.int (lo+i),H,I1,⟨s.toks,?_⟩,⟨rfl,rfl⟩,st',λb hb=>(hf b hb).1⟩⟩;rw[Int.mul_one]
 done:=by
   intro X hP hw hK hc i pins s σ H E I hf st hg;subst hP hw hK;obtain⟨f0,f1,f2,f3,f4,f5⟩:=hf it (by simp);rcases hc with hc | ⟨_,q,o,u,vs,e1,e2,e3,e4⟩
   . exact wpAny_pyNext_range_end (I.ok.hd hc) st (by have:n<=i:=hg; omega) λh' eb=>⟨rfl,I.turned (t':=s.toks) (λb o hb e=>eb b o hb e) f0 f1 f3 f4 f5⟩
   . have e5:=I.hok q _ (I.base.frzs q o u e2);exact Hx.sT e1 e5.1 e3 e4 st (by have:n<=i:=hg; omega) λh' eb=>⟨rfl,I.turned (t':=s.toks) (λb o hb e=>eb b o hb e) f0 f1 f3 f4 f5⟩
 self:=λ_ _ _ _ _ st h=>wpAny_pyIter_rangeiter st h
section
variable {X:Cx}{tg:Expr}
def Fq (K:gV)(tl:TE):TI:=λσ H R=>tl σ H λx H1=>∃a,x=.ref a/\(∃xs,SqL K H1 a xs)/\R (Itl K a) H1
def FL (K:gV)(tl:TE):TI:=λσ H R=>tl σ H λx H1=>∃a,x=.ref a/\(∃xs,SqT K H1 a xs)/\R (Itt K a) H1
theorem Ab {l:Expr}{tl:TE}(hc:X.calm=true)(hl:PE X l tl):PI X tg l (Fq X.K tl):=by
 intro pins s σ H R I h;refine thn (hl pins s σ H _ I h) λv s1 ⟨x,H1,I1,r1,q1⟩=>?_;obtain⟨a,e,⟨xs,hq⟩,q⟩:=q1;subst e;cases r1;obtain⟨its,rv,p,hz⟩:=I1.list hq;refine wpAny_pyIter_list p.isList ?_;refine⟨false,s1.heap.objs.size,[s1.heap.objs.size],_,_,H1,rfl,I1.kept (t':=s1.toks) λb o e=>ip _ e,.inl hc,vQ a _,⟨_,Et _ rfl,rfl,rfl⟩,λb hb=>?_,q⟩;have e:b=s1.heap.objs.size:=by simpa using hb
 subst e;exact I1.jv (ia _) (I1.hok.fresh (ia _))
theorem DA {l:Expr}{tl:TE}(hc:X.calm=true)(hl:PE X l tl):PI X tg l (FL X.K tl):=by
 intro pins s σ H R I h;refine thn (hl pins s σ H _ I h) λv s1 ⟨x,H1,I1,r1,q1⟩=>?_;obtain⟨a,e,⟨xs,hq⟩,q⟩:=q1;subst e;cases r1;obtain⟨its,rv,p,hz⟩:=I1.tuple hq;refine wpAny_pyIter_tuple (show s1.heap.IsTuple a its.toArray from p) ?_;refine⟨false,s1.heap.objs.size,[s1.heap.objs.size],_,_,H1,rfl,I1.kept (t':=s1.toks) λb o e=>ip _ e,.inl hc,tj a _,⟨_,Et _ rfl,rfl,rfl⟩,λb hb=>?_,q⟩;have e:b=s1.heap.objs.size:=by simpa using hb
 subst e;exact I1.jv (ia _) (I1.hok.fresh (ia _))
theorem p7 {pins:List (Addr×Obj)}{σ:St}{H:Hp}{s:Shared}{R:It->Hp->Prop}{E:Value->Shared->Prop}{lo hi:Int}{t u v:Tok}{tk:Nat}(hc:Ck true X)(I:Inv X pins σ H s)(h1:-(2^62)<=lo)(h2:lo<2^62)(h3:-(2^62)<=hi)(h4:hi<2^62)
   (q:R (Itr lo (hi-lo).toNat) H):wpAny (model X.prog X.w) X.A (pyIter (.ref s.heap.objs.size)) (PIE X pins σ tg R) E { s with heap:=s.heap.push { cls:=.type "range",data:=.fields #[.int lo t,.int hi u,.int 1 v] },toks:=tk }:=by
 refine wpAny_pyIter_range (IsRange.new ..) (small_one h1 h2 h3 h4) ?_;have I1:Inv X pins σ H { s with heap:=s.heap.push { cls:=.type "range",data:=.fields #[.int lo t,.int hi u,.int 1 v] },toks:=tk }:=I.kept λb o e=>ip _ e
 refine⟨true,(s.heap.push { cls:=.type "range",data:=.fields #[.int lo t,.int hi u,.int 1 v] }).objs.size,[(s.heap.push { cls:=.type "range",data:=.fields #[.int lo t,.int hi u,.int 1 v] }).objs.size],_,_,H,rfl,
   I1.kept (t':=tk) λb o e=>ip _ e,hc,tP _ lo (hi-lo).toNat,?_,λb hb=>?_,q⟩
 . have e1:lo+((0:Nat):Int)*1=lo:=by simp
   have e2:(((hi-lo).toNat:Nat):Int)-((0:Nat):Int)=Builtin.Range.rangeSize lo hi 1:=by rw[rangeSize_one]; split <;> omega
   show IsRangeIter _ _ (lo+((0:Nat):Int)*1) ((((hi-lo).toNat:Nat):Int)-((0:Nat):Int)) 1;rw[e1,e2];exact Et _ rfl
 . have e:b=(s.heap.push { cls:=.type "range",data:=.fields #[.int lo t,.int hi u,.int 1 v] }).objs.size:=by simpa using hb
   subst e;exact I1.jv (ia _) (I1.hok.fresh (ia _))
def EG (ta:TA):TI:=λσ H R=>ta σ H λvs H1=>∃j:Int,vs=[.int j]/\-(2^62)<=j/\j<2^62/\R (Itr 0 j.toNat) H1
def Fl (ta:TA):TI:=λσ H R=>ta σ H λvs H1=>∃i j:Int,vs=[.int i,.int j]/\(-(2^62)<=i/\i<2^62/\-(2^62)<=j/\j<2^62)/\R (Itr i (j-i).toNat) H1
theorem wt {a:Expr}{ta:TA}{p pos:Pos}(hc:Ck true X)(hg:Gl X "range")(hm:X.mg "range" = none)(ha:PA X [a] ta)(hs:starEach [a] X.env=[(false,eval a X.env)]:=by rfl):PI X tg (.Call (.Name "range" p) [a] [] pos) (EG ta):=by
 intro pins s σ H R I h;refine Call_ (dY I hg hm boot_range (G4 (thn (ha pos pins s σ H _ I h) λus s1 ⟨vs,H1,I1,r1,q1⟩=>?_) hs rfl));obtain⟨j,e,q1,q2,q⟩:=q1;subst e;cases r1 with
 | cons r rr=>cases rr;obtain⟨t,rfl⟩:=r;exact call_range_1 (p7 hc I1 (by omega) (by omega) q1 q2 (by simpa using q))
theorem vM {a b:Expr}{ta:TA}{p pos:Pos}(hc:Ck true X)(hg:Gl X "range")(hm:X.mg "range" = none)(ha:PA X [a,b] ta)(hs:starEach [a,b] X.env=[(false,eval a X.env),(false,eval b X.env)]:=by rfl)(hs2:starEach [b] X.env=[(false,eval b X.env)]:=by rfl):
   PI X tg (.Call (.Name "range" p) [a,b] [] pos) (Fl ta):=by
 intro pins s σ H R I h;refine Call_ (dY I hg hm boot_range (G4 (thn (ha pos pins s σ H _ I h) λus s1 ⟨vs,H1,I1,r1,q1⟩=>?_) (by rw[hs,hs2]) (by rw[hs2]; rfl)));obtain⟨i,j,e,⟨q1,q2,q3,q4⟩,q⟩:=q1;subst e;cases r1 with
 | cons r rr=>
   cases rr with
   | cons r' rr=>cases rr;obtain⟨t,rfl⟩:=r;obtain⟨t',rfl⟩:=r';exact call_range_2 (p7 hc I1 q1 q2 q3 q4 q)
def F3 (wi:TI)(g:TG)(tb:TS):TS:=λD σ H=>wi σ H λJ H1=>∃W:Nat->Nat->St->Hp->Prop,(∃m,W 0 m σ H1)/\∀i m σ H,W i m σ H ->
 (J.stop i H/\D.nx σ H)\/(J.go i H/\∃N:St->Hp->Prop,(∀σ' H',N σ' H'->∃m',m'<m/\W (i+1) m' σ' H')/\∀x H',J.yld i H x H'->g x σ H' λσ2 H2=>tb { D with nx:=N,ct:=N,bk:=D.nx } σ2 H2)
noncomputable def iu (fp:List Addr)(h:Heap):List (Addr×Obj):=fp.filterMap λb=>(h.get? b).map λo=>(b,o)
theorem bU {fp:List Addr}{h:Heap}{b:Addr}{o:Obj}(hb:b∈fp)(e:h.get? b=some o):(b,o)∈iu fp h:=List.mem_filterMap.mpr ⟨b,hb,by rw[e]; rfl⟩
theorem vL {fp:List Addr}{h:Heap}{p:Addr×Obj}(hp:p∈iu fp h):p.1∈fp/\h.get? p.1=some p.2:=by
 obtain⟨b,hb,e⟩:=List.mem_filterMap.mp hp;cases q:h.get? b with
 | none=>rw[q]at e; cases e
 | some o=>rw[q]at e;have e':(b,o)=p:=GS e;subst e';exact⟨hb,q⟩
theorem Inv.pinned {pins:List (Addr×Obj)}{σ:St}{H:Hp}{s:Shared}{fp:List Addr}(I:Inv X pins σ H s)(hf:∀b∈fp,mP X pins H b)(ho:∀b∈fp,∃o,s.heap.get? b=some o/\∀v,o.data≠.cell v):Inv X (pins++iu fp s.heap) σ H s:=I.vt λp hp=>(Gv.mp hp).elim (λz=>I.pin p (tf _ z)) λz=>by obtain⟨hb,e⟩:=vL z;obtain⟨f0,f1,f2,_⟩:=hf p.1 hb;obtain⟨o,e',d⟩:=ho p.1 hb;rw[e]at e'; cases e';exact⟨e,f0,f1,f2,d⟩
theorem Inv.eO {pins pl:List (Addr×Obj)}{σ:St}{H:Hp}{s:Shared}(I:Inv X (pins++pl) σ H s):Inv X pins σ H s:=I.vt λp hp=>I.pin p (tf _ (GF _ hp))
theorem BO {iter:Expr}{body:List Stmt}{wi:TI}{g:TG}{tb:TS}{pos:Pos}(hp:PassesOwn (model X.prog X.w) X.A X.env X.xe)(hi:PI X tg iter wi)(hg:PG X tg g)(hb:PSs X body tb)
   (hs:∀x,foldedSetIterable iter X.env x=pure x:=by intro _; rfl):PS X (.For tg iter body [] pos) (F3 wi g tb):=by
 intro pins s σ H D I h;refine wpAny_For (thn (hi pins s σ H _ I h) λv s1 h1=>thn h1 λitv s2 h2=>?_) hs;obtain⟨kd,it,fp,tn,J,H2,e,I2,hc,T,st2,f2,W,⟨m0,w0⟩,turn⟩:=h2;subst e;have stat:∀{H':Hp},(∀b∈fp,H' b=none)->∀b∈fp,mP X pins H' b:=λhn b hb=>⟨hn b hb,(f2 b hb).2⟩;refine codeAny_forLoop_any (λn s'=>∃i σ' H',Inv X pins σ' H' s'/\tn i s'.heap/\(∀b∈fp,H' b=none)/\W i n σ' H') ?_ m0 ⟨0,σ,H2,I2,st2,λb hb=>(f2 b hb).1,w0⟩;rintro n s3 ⟨i,σ3,H3,I3,st3,fr3,w3⟩;rcases turn i n σ3 H3 w3 with ⟨stop,qn⟩ | ⟨go,N,hN,step⟩
 . refine wpAny_passesOwn hp (thn (T.done X rfl rfl rfl hc i pins s3 σ3 H3 X.xe I3 (stat fr3) st3 stop) λr s4 ⟨hr,I4⟩=>?_);subst hr;exact wpAny_execs_nil ⟨σ3,H3,I4,qn⟩
 . refine wpAny_passesOwn hp (thn (T.item X rfl rfl rfl hc i pins s3 σ3 H3 X.xe I3 (stat fr3) st3 go) λr s4 ⟨u,hr,h4⟩=>?_);subst hr;refine wpAny_passesOwn hp (thn h4 λ_ s5 ⟨x,H5,I5,r5,y5,st5,fr5⟩=>?_);have I5':=I5.pinned (stat fr5) (T.obj _ _ st5);refine wpAny_passesOwn hp (thn (hg _ s5 σ3 H5 x u _ I5' r5 (step x H5 y5)) λ_ s6 ⟨σ6,H6,I6,q6⟩=>?_);refine wpAny_passesOwn hp (thn (hb _ s6 σ6 H6 _ I6 q6) λf s7 q7=>?_);have again:∀{σ7:St} {H7:Hp},Inv X (pins++iu fp s5.heap) σ7 H7 s7->N σ7 H7->∃m,m<n/\∃i σ' H',Inv X pins σ' H' s7/\tn i s7.heap/\(∀b∈fp,H' b=none)/\W i m σ' H':=λ{σ7 H7} I7 n7=>by obtain⟨m',hm,w7⟩:=hN σ7 H7 n7;refine⟨m',hm,i+1,σ7,H7,I7.eO,T.keep _ _ _ st5 λb hb o e=>(I7.pin (b,o) (tf _ (tf _ (bU hb e)))).1,λb hb=>?_,w7⟩;obtain⟨o,e,d⟩:=T.obj _ _ st5 b hb;exact(I7.pin (b,o) (tf _ (tf _ (bU hb e)))).2.1
   cases f with
   | next=>obtain⟨σ7,H7,I7,n7⟩:=q7; exact again I7 n7
   | cont=>obtain⟨σ7,H7,I7,n7⟩:=q7; exact again I7 n7
   | brk=>obtain⟨σ7,H7,I7,q7⟩:=q7; exact⟨σ7,H7,I7.eO,q7⟩
   | ret v=>obtain⟨x7,σ7,H7,I7,r7,q7⟩:=q7; exact⟨x7,σ7,H7,I7.eO,r7,q7⟩
end
noncomputable abbrev R2:=V->V->Hp->VK->Prop
def OpR (X:Cx)(f:Value->Value->Sem Value)(r:R2):Prop:=
 ∀(pins:List (Addr×Obj)) (s:Shared) (σ:St) (H:Hp) (x y:V) (v u:Value) (Q:VK),Inv X pins σ H s->RelV x v->RelV y u->r x y H Q ->
   wpAny (model X.prog X.w) X.A (f v u) (EP X pins σ Q) X.xe s
def UnR (X:Cx)(f:Value->Sem Value)(r:V->Hp->VK->Prop):Prop:=
 ∀(pins:List (Addr×Obj)) (s:Shared) (σ:St) (H:Hp) (x:V) (v:Value) (Q:VK),Inv X pins σ H s->RelV x v->r x H Q ->
   wpAny (model X.prog X.w) X.A (f v) (EP X pins σ Q) X.xe s
def cX (X:Cx)(f:Value)(r:List V->Hp->VK->Prop):Prop:=
 ∀(pins:List (Addr×Obj)) (s:Shared) (σ:St) (H:Hp) (xs:List V) (us:List Value) (Q:VK),Inv X pins σ H s->Vals xs us->r xs H Q ->
   wpAny (model X.prog X.w) X.A (call f us) (EP X pins σ Q) X.xe s
def tOp (r:R2)(ta tb:TE):TE:=λσ H Q=>ta σ H λx H1=>tb σ H1 λy H2=>r x y H2 Q
def tUn (r:V->Hp->VK->Prop)(ta:TE):TE:=λσ H Q=>ta σ H λx H1=>r x H1 Q
noncomputable def rI (C:Int->Int->Prop)(g:Int->Int->V):R2:=λx y H Q=>∃i j,x=.int i/\y=.int j/\C i j/\Q (g i j) H
noncomputable def rI0 (g:Int->Int->V):R2:=λx y H Q=>∃i j,x=.int i/\y=.int j/\Q (g i j) H
noncomputable def rU (g:Int->V):V->Hp->VK->Prop:=λx H Q=>∃i,x=.int i/\Q (g i) H
section
variable {X:Cx}{a b:Expr}{ta tb:TE}{pos:Pos}
theorem DH (ha:PE X a ta)(hb:PE X b tb){pins:List (Addr×Obj)}{s:Shared}{σ:St}{H:Hp}{R:V->V->Hp->Prop}(I:Inv X pins σ H s)
   (h:ta σ H λx H1=>tb σ H1 λy H2=>R x y H2) {Q:Value->Shared->Prop} {f:Value->Value->Sem Value}
   (hf:∀v u s2 x y H2,Inv X pins σ H2 s2->RelV x v->RelV y u->R x y H2->wpAny (model X.prog X.w) X.A (f v u) Q X.xe s2) :
   wpAny (model X.prog X.w) X.A (eval a X.env) (λv s₁=>wpAny (model X.prog X.w) X.A (eval b X.env) (λu s₂=>wpAny (model X.prog X.w) X.A (f v u) Q X.xe s₂) X.xe s₁) X.xe s:=by
 refine thn (ha pins s σ H _ I h) λv s1 ⟨x,H1,I1,r1,q1⟩=>?_;refine thn (hb pins s1 σ H1 _ I1 q1) λu s2 ⟨y,H2,I2,r2,q2⟩=>?_;exact hf v u s2 x y H2 I2 r1 r2 q2
theorem zw {op:Operator}{r:R2}(ho:OpR X (binaryOp op) r)(ha:PE X a ta)(hb:PE X b tb):PE X (.BinOp a op b pos) (tOp r ta tb):=by intro pins s σ H Q I h;exact wpAny_BinOp (DH ha hb I h λv u s2 x y H2 I2 rx ry q=>ho pins s2 σ H2 x y v u Q I2 rx ry q)
theorem EH {op:UnaryOp}{r:V->Hp->VK->Prop}(ho:UnR X (unaryOp op) r)(ha:PE X a ta):PE X (.UnaryOp op a pos) (tUn r ta):=by intro pins s σ H Q I h;exact UnaryOp_ (thn (ha pins s σ H _ I h) λv s1 ⟨x,H1,I1,r1,q1⟩=>ho pins s1 σ H1 x v Q I1 r1 q1)
theorem opI {f:Value->Value->Sem Value}{C:Int->Int->Prop}{g:Int->Int->Int}
   (rule:∀(i j:Int) (t u:Tok) (s:Shared) (Q:Value->Shared->Prop) (E:Value->Shared->Prop),C i j->Q (.int (g i j) s.toks) { s with toks:=s.toks+1 }->wpAny (model X.prog X.w) X.A (f (.int i t) (.int j u)) Q E s) :
   OpR X f (rI C λi j=>.int (g i j)):=by
 intro pins s σ H x y v u Q I rx ry h;obtain⟨i,j,rfl,rfl,hc,q⟩:=h;obtain⟨t,rfl⟩:=rx;obtain⟨t',rfl⟩:=ry;exact rule i j t t' s _ _ hc ⟨.int (g i j),H,I.tok _,⟨_,rfl⟩,q⟩
theorem A9 {f:Value->Value->Sem Value}{g:Int->Int->Int}
   (rule:∀(i j:Int) (t u:Tok) (s:Shared) (Q:Value->Shared->Prop) (E:Value->Shared->Prop),Q (.int (g i j) s.toks) { s with toks:=s.toks+1 }->wpAny (model X.prog X.w) X.A (f (.int i t) (.int j u)) Q E s) :
   OpR X f (rI0 λi j=>.int (g i j)):=by
 intro pins s σ H x y v u Q I rx ry h;obtain⟨i,j,rfl,rfl,q⟩:=h;obtain⟨t,rfl⟩:=rx;obtain⟨t',rfl⟩:=ry;exact rule i j t t' s _ _ ⟨.int (g i j),H,I.tok _,⟨_,rfl⟩,q⟩
theorem zG {f:Value->Value->Sem Value}{g:Int->Int->Bool}
   (rule:∀(i j:Int) (t u:Tok) (s:Shared) (Q:Value->Shared->Prop) (E:Value->Shared->Prop),Q (.bool (g i j)) s->wpAny (model X.prog X.w) X.A (f (.int i t) (.int j u)) Q E s) :
   OpR X f (rI0 λi j=>.bl (g i j)):=by
 intro pins s σ H x y v u Q I rx ry h;obtain⟨i,j,rfl,rfl,q⟩:=h;obtain⟨t,rfl⟩:=rx;obtain⟨t',rfl⟩:=ry;exact rule i j t t' s _ _ ⟨.bl (g i j),H,I,rfl,q⟩
def wo (i j:Int):Prop:=0<=j/\j<=1000000/\i.natAbs<2^64
theorem sO (k:Nat):(0:Int)<=2^k:=by rw[two_pow_cast];exact Ir _
theorem C3:OpR X (binaryOp .Add) (rI0 λi j=>.int (i+j)):=A9 λ_ _ _ _ _ _ _ q=>add_int q
theorem DP:OpR X (binaryOp .Sub) (rI0 λi j=>.int (i-j)):=A9 λ_ _ _ _ _ _ _ q=>sub_int q
theorem Bg:OpR X (binaryOp .Mod) (rI (λ_ j=>j≠0) λi j=>.int (i.fmod j)):=opI λ_ _ _ _ _ _ _ hc q=>mod_int' hc q
theorem BV:OpR X (binaryOp .Pow) (rI wo λi j=>.int (i^j.toNat)):=opI λ_ _ _ _ _ _ _ hc q=>pow_int_small hc.1 hc.2.1 hc.2.2 q
theorem CB:OpR X (binaryOp .LShift) (rI wo λi j=>.int (i*2^j.toNat)):=opI λ_ _ _ _ _ _ _ hc q=>lshift_int_small hc.1 hc.2.1 hc.2.2 q
theorem BW:OpR X (binaryOp .RShift) (rI (λ_ j=>0<=j) λi j=>.int (i/2^j.toNat)):=opI λi j _ _ _ _ _ hc q=>rshift_int hc (by rw[Hn i (sO _)]; exact q)
theorem Cp:OpR X (binaryOp .BitAnd) (rI0 λi j=>.int (K7 i j)):=A9 λ_ _ _ _ _ _ _ q=>and_int q
theorem D8:OpR X (binaryOp .BitOr) (rI0 λi j=>.int (Li i j)):=A9 λ_ _ _ _ _ _ _ q=>or_int q
theorem unI {f:Value->Sem Value}{g:Int->Int}
   (rule:∀(i:Int) (t:Tok) (s:Shared) (Q:Value->Shared->Prop) (E:Value->Shared->Prop),Q (.int (g i) s.toks) { s with toks:=s.toks+1 }->wpAny (model X.prog X.w) X.A (f (.int i t)) Q E s) :
   UnR X f (rU λi=>.int (g i)):=by
 intro pins s σ H x v Q I rx h;obtain⟨i,rfl,q⟩:=h;obtain⟨t,rfl⟩:=rx;exact rule i t s _ _ ⟨.int (g i),H,I.tok _,⟨_,rfl⟩,q⟩
theorem Dd:UnR X (unaryOp .USub) (rU λi=>.int (-i)):=unI λ_ _ _ _ _ q=>neg_int q
end
noncomputable def Eh:V->V->Bool
 | .non,.non=>true | .non,.int _=>true | .int _,.non=>true | .non,.bl _=>true | .bl _,.non=>true | .non,.str _=>true | .str _,.non=>true
 | .int _,.int _=>true | .bl _,.bl _=>true | .str _,.str _=>true | .byt _,.byt _=>true
 | .int _,.str _=>true | .str _,.int _=>true | .bl _,.str _=>true | .str _,.bl _=>true
 | _,_=>false
noncomputable def rEq:R2:=λx y H Q=>Eh x y=true/\Q (.bl (decide (x=y))) H
noncomputable def rNe:R2:=λx y H Q=>Eh x y=true/\Q (.bl (!decide (x=y))) H
theorem uh {i j:Int}:decide (V.int i=V.int j)=(i==j):=by rw[IV];simp
theorem yo {i j:Bool}:decide (V.bl i=V.bl j)=(i==j):=by rw[IV];simp
theorem ve {i j:Str}:decide (V.str i=V.str j)=(i==j):=by rw[IV];simp
theorem vn {i j:Array UInt8}:decide (V.byt i=V.byt j)=(i.toList==j.toList):=by rw[IV];cases i;cases j;simp
section
variable {X:Cx}{a b c:Expr}{ta tb tc:TE}{pos:Pos}
theorem aT {pins:List (Addr×Obj)}{σ:St}{H:Hp}{s:Shared}{Q:VK}{k k':Bool}(I:Inv X pins σ H s)(q:Q (.bl k) H)(e:k=k'):EP X pins σ Q (.bool k') s:=by subst e;exact⟨.bl k,H,I,rfl,q⟩
theorem BD:OpR X (compareOp .Eq) rEq:=by
 intro pins s σ H x y v u Q I rx ry h;obtain⟨hs,q⟩:=h;cases x with
 | non=>
   cases rx;cases y with
   | non=>cases ry; exact PySem.EqNone.eq_none_none (aT I q (by simp))
   | bl j=>cases ry; exact PySem.EqNone.eq_none_bool (aT I q (by simp))
   | int j=>obtain⟨t',rfl⟩:=ry; exact PySem.EqNone.eq_none_int (aT I q (by simp))
   | str j=>obtain⟨t',rfl⟩:=ry; exact PySem.EqNone.eq_none_str (aT I q (by simp))
   | _=>exact absurd (show false=true from hs) xa
 | bl i=>
   cases rx;cases y with
   | non=>cases ry; exact PySem.EqNone.eq_bool_none (aT I q (by simp))
   | bl j=>cases ry; exact eq_bool (aT I q yo)
   | str j=>obtain⟨t',rfl⟩:=ry; exact PySem.EqMixed.eq_bool_str (aT I q (by simp))
   | _=>exact absurd (show false=true from hs) xa
 | int i=>
   obtain⟨t,rfl⟩:=rx;cases y with
   | non=>cases ry; exact PySem.EqNone.eq_int_none (aT I q (by simp))
   | int j=>obtain⟨t',rfl⟩:=ry; exact eq_int (aT I q uh)
   | str j=>obtain⟨t',rfl⟩:=ry; exact PySem.EqMixed.eq_int_str (aT I q (by simp))
   | _=>exact absurd (show false=true from hs) xa
 | str i=>
   obtain⟨t,rfl⟩:=rx;cases y with
   | non=>cases ry; exact PySem.EqNone.eq_str_none (aT I q (by simp))
   | bl j=>cases ry; exact PySem.EqMixed.eq_str_bool (aT I q (by simp))
   | int j=>obtain⟨t',rfl⟩:=ry; exact PySem.EqMixed.eq_str_int (aT I q (by simp))
   | str j=>obtain⟨t',rfl⟩:=ry; exact eq_str (aT I q ve)
   | _=>exact absurd (show false=true from hs) xa
 | byt i=>
   obtain⟨t,rfl⟩:=rx;cases y with
   | byt j=>obtain⟨t',rfl⟩:=ry; exact PySem.W.eq_bytes (aT I q vn)
   | _=>exact absurd (show false=true from hs) xa
 | _=>cases y <;> exact absurd (show false=true from hs) xa
theorem Bl:OpR X (compareOp .NotEq) rNe:=by
 intro pins s σ H x y v u Q I rx ry h;obtain⟨hs,q⟩:=h;cases x with
 | non=>
   cases rx;cases y with
   | non=>cases ry; exact PySem.EqNone.ne_none_none (aT I q (by simp))
   | bl j=>cases ry; exact PySem.EqNone.ne_none_bool (aT I q (by simp))
   | int j=>obtain⟨t',rfl⟩:=ry; exact PySem.EqNone.ne_none_int (aT I q (by simp))
   | str j=>obtain⟨t',rfl⟩:=ry; exact PySem.EqNone.ne_none_str (aT I q (by simp))
   | _=>exact absurd (show false=true from hs) xa
 | bl i=>
   cases rx;cases y with
   | non=>cases ry; exact PySem.EqNone.ne_bool_none (aT I q (by simp))
   | bl j=>cases ry; exact ne_bool (aT I q (congrArg not yo))
   | str j=>obtain⟨t',rfl⟩:=ry; exact PySem.EqMixed.ne_bool_str (aT I q (by simp))
   | _=>exact absurd (show false=true from hs) xa
 | int i=>
   obtain⟨t,rfl⟩:=rx;cases y with
   | non=>cases ry; exact PySem.EqNone.ne_int_none (aT I q (by simp))
   | int j=>obtain⟨t',rfl⟩:=ry; exact ne_int (aT I q (congrArg not uh))
   | str j=>obtain⟨t',rfl⟩:=ry; exact PySem.EqMixed.ne_int_str (aT I q (by simp))
   | _=>exact absurd (show false=true from hs) xa
 | str i=>
   obtain⟨t,rfl⟩:=rx;cases y with
   | non=>cases ry; exact PySem.EqNone.ne_str_none (aT I q (by simp))
   | bl j=>cases ry; exact PySem.EqMixed.ne_str_bool (aT I q (by simp))
   | int j=>obtain⟨t',rfl⟩:=ry; exact PySem.EqMixed.ne_str_int (aT I q (by simp))
   | str j=>obtain⟨t',rfl⟩:=ry; exact ne_str (aT I q (congrArg not ve))
   | _=>exact absurd (show false=true from hs) xa
 | byt i=>
   obtain⟨t,rfl⟩:=rx;cases y with
   | byt j=>obtain⟨t',rfl⟩:=ry; exact PySem.W.ne_bytes (aT I q (congrArg not vn))
   | _=>exact absurd (show false=true from hs) xa
 | _=>cases y <;> exact absurd (show false=true from hs) xa
theorem Es:OpR X (compareOp .Lt) (rI0 λi j=>.bl (decide (i<j))):=zG λ_ _ _ _ _ _ _ q=>lt_int q
theorem EX:OpR X (compareOp .LtE) (rI0 λi j=>.bl (decide (i<=j))):=zG λ_ _ _ _ _ _ _ q=>le_int q
theorem EO:OpR X (compareOp .Gt) (rI0 λi j=>.bl (decide (j<i))):=zG λ_ _ _ _ _ _ _ q=>gt_int q
theorem Fy:OpR X (compareOp .GtE) (rI0 λi j=>.bl (decide (j<=i))):=zG λ_ _ _ _ _ _ _ q=>ge_int q
theorem vT:OpR X (compareOp .In) (λx y H Q=>∃i j,x=.str i/\y=.str j/\Q (.bl (!(Builtin.Str.occurrences j i 0 j.length 1).isEmpty)) H):=by intro pins s σ H x y v u Q I rx ry h;obtain⟨i,j,rfl,rfl,q⟩:=h;obtain⟨t,rfl⟩:=rx;obtain⟨t',rfl⟩:=ry;exact in_str (aT I q rfl)
theorem CL:OpR X (compareOp .Is) (λx y H Q=>y=.non/\Q (.bl (decide (x=.non))) H):=by
 intro pins s σ H x y v u Q I rx ry h;obtain⟨rfl,q⟩:=h;cases ry;refine is_none_gen (aT I q ?_)
 cases x <;> first
   | (cases rx; rfl)
   | (obtain⟨t,rfl⟩:=rx; rfl)
theorem tL (b:Expr){op:CmpOp}(h:op≠.In:=by decide)(h2:op≠.NotIn:=by decide):behindInMarks op b=false:=by
 have e1:(op==CmpOp.In)=false:=by cases op <;> first | rfl | exact absurd rfl h
 have e2:(op==CmpOp.NotIn)=false:=by cases op <;> first | rfl | exact absurd rfl h2
 cases b <;> simp[behindInMarks,e1,e2]
theorem AI {op:CmpOp}{r:R2}(ho:OpR X (compareOp op) r)(ha:PE X a ta)(hb:PE X b tb)(hm:behindInMarks op b=false):PE X (.Compare a [op] [b] pos) (tOp r ta tb):=by intro pins s σ H Q I h;exact wpAny_Compare1 (DH ha hb I h λv u s2 x y H2 I2 rx ry q=>ho pins s2 σ H2 x y v u Q I2 rx ry q) hm
def Bm (t:TE):TT:=λσ H Q=>t σ H λx H'=>∃k,x=.bl k/\Q k H'
theorem vo {op:CmpOp}{r:R2}(ho:OpR X (compareOp op) r)(ha:PE X a ta)(hb:PE X b tb)(hm:behindInMarks op b=false):PT X (.Compare a [op] [b] pos) (Bm (tOp r ta tb)):=by
 intro pins s σ H Q I h
 refine wpAny_isTrue_Compare1 (thn (ha pins s σ H _ I h) λv s1 ⟨x,H1,I1,r1,q1⟩=>thn (hb pins s1 σ H1 _ I1 q1) λu s2 ⟨y,H2,I2,r2,q2⟩=>
   thn (ho pins s2 σ H2 x y v u _ I2 r1 r2 q2) λc s3 ⟨z,H3,I3,r3,k,e,q3⟩=>?_) hm
 subst e;cases r3;exact wpAny_truthy_bool ⟨H3,I3,q3⟩
def sH (r r':R2)(ta tb tc:TE):TE:=λσ H Q=>ta σ H λx H1=>tb σ H1 λy H2=>r x y H2 λz H3=>∃k,z=.bl k /\
 (if k=true then tc σ H3 λw' H4=>r' y w' H4 Q else Q (.bl false) H3)
theorem yI {op op':CmpOp}{r r':R2}(ho:OpR X (compareOp op) r)(ho':OpR X (compareOp op') r')(ha:PE X a ta)(hb:PE X b tb)(hc:PE X c tc)
   (hm:lastMarks [op,op'] [b,c]=false:=by with_unfolding_all rfl):PE X (.Compare a [op,op'] [b,c] pos) (sH r r' ta tb tc):=by
 intro pins s σ H Q I h
 refine Compare_chain (thn (ha pins s σ H _ I h) λv s1 ⟨x,H1,I1,r1,q1⟩=>chain_link (thn (hb pins s1 σ H1 _ I1 q1) λu s2 ⟨y,H2,I2,r2,q2⟩=>
   thn (ho pins s2 σ H2 x y v u _ I2 r1 r2 q2) λd s3 ⟨z,H3,I3,r3,k,e,q3⟩=>?_)) hm
 subst e;cases r3;refine wpAny_truthy_bool ?_;cases k with
 | false=>exact ite_ff ⟨.bl false,H3,I3,rfl,q3⟩
 | true=>exact ite_tt (chain_last (thn (hc pins s3 σ H3 _ I3 q3) λw' s4 ⟨z',H4,I4,r4,q4⟩=>ho' pins s4 σ H4 y z' u w' Q I4 r2 r4 q4))
theorem zm {op op':CmpOp}{r r':R2}(ho:OpR X (compareOp op) r)(ho':OpR X (compareOp op') r')(ha:PE X a ta)(hb:PE X b tb)(hc:PE X c tc)
   (hm:lastMarks [op,op'] [b,c]=false:=by with_unfolding_all rfl):PT X (.Compare a [op,op'] [b,c] pos) (Bm (sH r r' ta tb tc)):=by
 intro pins s σ H Q I h
 refine isTrue_chain (thn (ha pins s σ H _ I h) λv s1 ⟨x,H1,I1,r1,q1⟩=>test_link (thn (hb pins s1 σ H1 _ I1 q1) λu s2 ⟨y,H2,I2,r2,q2⟩=>
   thn (ho pins s2 σ H2 x y v u _ I2 r1 r2 q2) λd s3 ⟨z,H3,I3,r3,k,e,q3⟩=>?_)) hm
 subst e;cases r3;refine wpAny_truthy_bool ?_;cases k with
 | false=>obtain⟨k',e',q'⟩:=q3;cases e';exact ite_ff ⟨H3,I3,q'⟩
 | true=>refine ite_tt (test_last (thn (hc pins s3 σ H3 _ I3 q3) λw' s4 ⟨z',H4,I4,r4,q4⟩=>thn (ho' pins s4 σ H4 y z' u w' _ I4 r2 r4 q4) λd' s5 ⟨z2,H5,I5,r5,k2,e2,q5⟩=>?_));subst e2;cases r5;exact wpAny_truthy_bool ⟨H5,I5,q5⟩
theorem jF:(sizeLine:Nat)<2^63:=by rw[sizeLine_eq]; decide
theorem tH:OpR X (binaryOp .Add) (λx y H Q=>∃i j,x=.str i/\y=.str j/\i.length+j.length<=sizeLine/\Q (.str (i++j)) H):=by intro pins s σ H x y v u Q I rx ry h;obtain⟨i,j,rfl,rfl,hz,q⟩:=h;obtain⟨t,rfl⟩:=rx;obtain⟨t',rfl⟩:=ry;exact add_str (λt' tk=>⟨.str (i++j),H,I.tok _,⟨_,rfl⟩,q⟩) hz
theorem vals1 {x:V}{us:List Value}(r:Vals [x] us):∃u,us=[u]/\RelV x u:=by
 cases r with
 | cons r1 r2=>cases r2; exact⟨_,rfl,r1⟩
theorem vals2 {x y:V}{us:List Value}(r:Vals [x,y] us):∃u w',us=[u,w']/\RelV x u/\RelV y w':=by
 cases r with
 | cons r1 r2=>
   cases r2 with
   | cons r3 r4=>cases r4; exact⟨_,_,rfl,r1,r3⟩
theorem yD:cX X (.builtin "abs") (λxs H Q=>∃i,xs=[.int i]/\Q (.int (if i<0 then -i else i)) H):=by intro pins s σ H xs us Q I r h;obtain⟨i,rfl,q⟩:=h;obtain⟨u,rfl,t,rfl⟩:=vals1 r;exact call_abs_int λu tk=>⟨.int (if i<0 then -i else i),H,I.tok _,⟨_,rfl⟩,q⟩
theorem wm (hc:X.calm=true):cX X (.builtin "max") (λxs H Q=>∃i j,xs=[.int i,.int j]/\Q (.int (if j>i then j else i)) H):=by
 intro pins s σ H xs us Q I r h;obtain⟨i,j,rfl,q⟩:=h;obtain⟨u,w',rfl,⟨t,rfl⟩,⟨t',rfl⟩⟩:=vals2 r;refine max_two_ints (I.ok.hd hc) λh' tk k=>⟨_,H,I.kept k,?_,q⟩;by_cases hj:j>i
 . rw[if_pos hj,if_pos hj]; exact⟨_,rfl⟩
 . rw[if_neg hj,if_neg hj]; exact⟨_,rfl⟩
theorem wb (hc:X.calm=true):cX X (.builtin "min") (λxs H Q=>∃i j,xs=[.int i,.int j]/\Q (.int (if j<i then j else i)) H):=by
 intro pins s σ H xs us Q I r h;obtain⟨i,j,rfl,q⟩:=h;obtain⟨u,w',rfl,⟨t,rfl⟩,⟨t',rfl⟩⟩:=vals2 r;refine min_two_ints (I.ok.hd hc) λh' tk k=>⟨_,H,I.kept k,?_,q⟩;by_cases hj:j<i
 . rw[if_pos hj,if_pos hj]; exact⟨_,rfl⟩
 . rw[if_neg hj,if_neg hj]; exact⟨_,rfl⟩
theorem wA:cX X (.type "int") (λxs H Q=>(∃i,xs=[.int i]/\Q (.int i) H)\/∃k,xs=[.bl k]/\Q (.int (if k then 1 else 0)) H):=by
 intro pins s σ H xs us Q I r h;rcases h with ⟨i,rfl,q⟩ | ⟨k,rfl,q⟩
 . obtain⟨u,rfl,t,rfl⟩:=vals1 r;exact call_int_int ⟨.int i,H,I,⟨_,rfl⟩,q⟩
 . obtain⟨u,rfl,r1⟩:=vals1 r;cases r1;exact call_int_bool ⟨.int (if k then 1 else 0),H,I.tok _,⟨_,rfl⟩,q⟩
end
structure sG (h:Heap)(x dx C:Addr)(mA:Str->Option Value):Prop where
 obj:h.get? x=some (Ib C dx)
 ns:h.Ns1 dx mA
 ne:dx≠x
theorem wF {h:Heap}{dx:Addr}{mA:Str->Option Value}(n:h.Ns1 dx mA):∃od,h.get? dx=some od/\∀name,K4 name od=some (mA name):=by
 obtain⟨o,es,ep,ho,hd,hk,_,hm⟩:=n;refine⟨o,ho,λname=>?_⟩;have e:=hm name;unfold nsFind findBy at e;rw[<- Array.find?_toList]at e;unfold PySem.W.lookIn;rw[hd];dsimp only;split
 . rename_i y q;rw[q]at e;exact congrArg some e
 . rename_i q;rw[q]at e;have a:es.toList.any (·.refKey)=false:=by rw[List.any_eq_false];intro y hy;obtain⟨z,t,hkey⟩:=hk y (Array.mem_toList_iff.mp hy);simp[DictEntry.refKey,hkey]
   have a':¬es.toList.any (·.refKey)=true:=by rw[a]; exact xa
   rw[if_neg a'];exact congrArg some e
theorem sG.look {h:Heap}{x dx C:Addr}{mA:Str->Option Value}(I:sG h x dx C mA):∃od,PySem.W.InstAt h x (Ib C dx) C (some od)/\∀name,K4 name od=some (mA name):=
 let ⟨od,ho,hl⟩:=wF I.ns
 ⟨od,⟨I.obj,rfl,rfl,ho⟩,hl⟩
section
variable {prog:Program}{w:World}{A:Around}{E:Value->Shared->Prop}{s:Shared}{K:gV}{x dx C f:Addr}{mA:Str->Option Value}{name:Str}{v:Value}
theorem get_map {expr:Bool}{Q:Value->Shared->Prop}(X:K.In s.heap)(I:sG s.heap x dx C mA)(hg:Jd K C name=true)(hh:JD K C=true)
   (ha:Hj K (.ref C) name=some none) (hv:mA name=some v) (hv':PySem.W.handedIn v=true) (h:Q v { s with toks:=s.toks+1 }) :
   wpAny (model prog w) A (getAttr (.ref x) name expr) Q E s:=by
 obtain⟨od,J,hl⟩:=I.look;exact PySem.W.get_value X J (Kf hg).1 (PySem.W.findObj_own hh ha rfl (by rw[hl,hv])) hv' h
theorem zo {pl:Sem Bool}{Q:Value×List Value->Shared->Prop}(X:K.In s.heap)(I:sG s.heap x dx C mA)(hg:Jd K C name=true)
   (hf:Hj K (.ref C) name=some (some (.ref f))) (ht:JW K (.ref f)=true) (hv:mA name=none) (h:Q (.ref f,[.ref x]) s) :
   wpAny (model prog w) A (getMethod (.ref x) name pl) Q E s:=by
 obtain⟨od,J,hl⟩:=I.look;exact PySem.W.method_fn X J (Kf hg).1 (Kf hg).2 hf (beq_iff_eq.mp ht) (by show (K4 name od).map (·.isSome)=some false; rw[hl,hv]; rfl) h
theorem zU {ns:List Str}{Q:Unit->Shared->Prop}(X:K.In s.heap)(I:sG s.heap x dx C mA)
   (hs:Hj K (.ref C) "__setattr__" = some (some (.builtin "object.__setattr__"))) (hp:Ks K C=true) (ht:PySem.W.takerIn K C name=some none) (hh:JD K C=true)
   (hw:LK mA ns) (hsz:ns.length<=sizeLine)
   (h:∀h',sG h' x dx C (λy=>if y=name then some v else mA y)->Jh dx s.heap h'->Q () { s with heap:=h',toks:=s.toks+2 }) :
   wpAny (model prog w) A (setAttr (.ref x) name v) Q E s:=by
 obtain⟨od,J,hl⟩:=I.look;refine PySem.W.set_plain X J hs (PySem.W.osa_open (s:={ s with toks:=s.toks+1 }) (r:=none) X J hp ht λb=>?_);obtain⟨cd,hc,hd'⟩:=PySem.W.any_some hh;have hx:s.heap.get? x=some ⟨.ref C,some dx,.plain,#[]⟩:=I.obj;refine wpAny_bind (wpAny_pure (wpAny_bind (wpAny_bind (wpAny_loadPart hx (wpAny_bind (PySem.W.Looks.here (s:={ s with toks:=s.toks+1 }) (PySem.W.looks_clsIn X hc) ?_))))));rw[hd'];refine wpAny_pure (a:=some dx) (wpAny_bind (wpAny_pure (wpAny_bind ?_)));refine wpAny_nsSet1 (s:={ s with toks:=s.toks+1 }) I.ns λh' hn2 hs2=>?_;obtain⟨oD,esD,epD,hoD,hdD,hcD⟩:=hn2.count (PySem.Within.cons name v hw);refine wpAny_bind (wpAny_lookBehind hoD (by rw[hdD]; exact pastItsLine_dict (GB hcD (by rw[GK]; omega))) ?_);exact wpAny_pure (h _ ⟨(hs2.2 _ (Hi I.ne)).trans I.obj,hn2,I.ne⟩ hs2)
theorem yh {R:Result->Shared->Prop}{vs:List Value}{kw:List (Str×Value)}(X:K.In s.heap)(hm:KQ K C=true)
   (hi:Hj K (.ref C) "__init__" = some (some (.ref f))) (hf:PySem.W.typeIn K (.ref f)=some (.type "function"))
   (h:codeAny (model prog w) (A.under (.builtin "type.__call__" ⟨.ref C::vs,kw⟩)) (.call (.ref f) ⟨.ref (s.heap.objs.size+1)::vs,kw⟩) (PySem.W.InitBack (s.heap.objs.size+1) R)
     { s with heap:=(s.heap.push Hw).push (Ib C s.heap.objs.size) }) :
   codeAny (model prog w) A (.call (.ref C) ⟨vs,kw⟩) R s:=by
 obtain⟨hh,g,d,t,os⟩:=s;exact PySem.W.make_core (PySem.W.makes_of X hm) (PySem.W.looks_findIn X hi) (λself=>PySem.W.bind_fn X self hf) (.inl rfl) h
end
noncomputable def gO (f:Str)(v:V):List (Str×V)->List (Str×V)
 | []=>[(f,v)]
 | (g,x)::r=>if g=f then (g,v)::r else (g,x)::gO f v r
theorem jN (f g:Str)(v:V):∀fs:List (Str×V),(gO f v fs).lookup g=if g=f then some v else fs.lookup g
 | []=>by
   show Jv g [(f,v)]=_;by_cases h:g=f
   . have hb:(g==f)=true:=beq_iff_eq.mpr h;simp only[Jv,hb,if_pos h]
   . have hb:(g==f)=false:=beq_eq_false_iff_ne.mpr h;simp only[Jv,hb,if_neg h]
 | (k,x)::r=>by
   have ih:=jN f g v r;rw[show gO f v ((k,x)::r)=(if k=f then (k,v)::r else (k,x)::gO f v r) from rfl];by_cases hk:k=f
   . rw[if_pos hk];by_cases h:g=k
     . have hb:(g==k)=true:=beq_iff_eq.mpr h;simp only[Jv,hb,if_pos (h.trans hk)]
     . have hb:(g==k)=false:=beq_eq_false_iff_ne.mpr h;simp only[Jv,hb,if_neg (λe:g=f=>h (e.trans hk.symm))]
   . rw[if_neg hk];by_cases h:g=k
     . have hb:(g==k)=true:=beq_iff_eq.mpr h;simp only[Jv,hb,if_neg (λe:g=f=>hk (h.symm.trans e))]
     . have hb:(g==k)=false:=beq_eq_false_iff_ne.mpr h;simp only[Jv,hb];exact ih
theorem jk (f:Str)(v:V):∀fs:List (Str×V),f∈(gO f v fs).map (·.1)/\∀g,g∈fs.map (·.1)->g∈(gO f v fs).map (·.1)
 | []=>⟨by simp[gO],λg h=>by simp at h⟩
 | (k,x)::r=>by
   obtain⟨i1,i2⟩:=jk f v r;rw[show gO f v ((k,x)::r)=(if k=f then (k,v)::r else (k,x)::gO f v r) from rfl];by_cases hk:k=f
   . rw[if_pos hk];subst hk;exact⟨by simp,λg h=>by simpa using h⟩
   . rw[if_neg hk];refine⟨?_,λg h=>?_⟩
     . rw[GP];exact pq _ i1
     . rw[GP]at h ⊢;rcases xb.mp h with e | e
       . exact xb.mpr (.inl e)
       . exact pq _ (i2 g e)
theorem j0 (f:Str)(v:V):∀fs:List (Str×V),(gO f v fs).length<=fs.length+1
 | []=>by simp[gO]
 | (k,x)::r=>by
   have ih:=j0 f v r;rw[show gO f v ((k,x)::r)=(if k=f then (k,v)::r else (k,x)::gO f v r) from rfl];by_cases hk:k=f
   . rw[if_pos hk,GK,GK]; omega
   . rw[if_neg hk,GK,GK]; omega
theorem gS.some_of {v:V}{o:Option Value}(r:gS (some v) o):∃u,o=some u/\RelV v u:=by
 cases o with
 | none=>exact(show False from r).elim
 | some u=>exact⟨u,rfl,r⟩
theorem gS.none_of {o:Option Value}(r:gS none o):o=none:=by
 cases o with
 | none=>rfl
 | some u=>exact(show False from r).elim
theorem wx {v:V}{u:Value}(r:RelV v u):PySem.W.handedIn u=true:=by
 cases v with
 | non=>cases (show u=Hz from r); rfl
 | bl b=>cases (show u=HE b from r); rfl
 | int i=>obtain⟨t,e⟩:=(show ∃t,u=K6 i t from r); cases e; rfl
 | str x=>obtain⟨t,e⟩:=(show ∃t,u=K5 x t from r); cases e; rfl
 | byt b=>obtain⟨t,e⟩:=(show ∃t,u=Value.bytes b t from r); cases e; rfl
 | flt b=>obtain⟨t,e⟩:=(show ∃t,u=Value.float b t from r); cases e; rfl
 | ref a=>cases (show u=GI a from r); rfl
 | ty n=>cases (show u=KH n from r); rfl
section
variable {P:Program}{w:World}{H:Hp}{h:Heap}{a C dx:Addr}{fs:List (Str×V)}
theorem o8 (hok:HOk P w H h)(e:H a=some (.ins C dx fs)):∃mA,sG h a dx C mA/\(∀f,gS (fs.lookup f) (mA f))/\LK mA (fs.map (·.1))/\fs.length<=1000/\H dx=some (.own a):=by obtain⟨d,z,ne,ob,mA,n,r,q⟩:=(show bj P w H h a (.ins C dx fs) from hok a _ e);exact⟨mA,⟨ob,n,ne⟩,r,q,z,d⟩
end
structure Cls (K:gV)(C:Addr):Prop where
 pg:Jd K C Str.empty=true
 hd:JD K C=true
 po:Ks K C=true
 sa:Hj K (.ref C) "__setattr__" = some (some (.builtin "object.__setattr__"))
theorem Cls.get {K:gV}{C:Addr}(c:Cls K C)(f:Str):Jd K C f=true:=c.pg
def a8 (K:gV)(C:Addr)(f:Str):Prop:=Hj K (.ref C) f=some none
theorem a8.ES {K:gV}{C:Addr}{f:Str}(n:a8 K C f):PySem.W.takerIn K C f=some none:=by unfold PySem.W.takerIn;rw[show Hj K (.ref C) f=some none from n];rfl
structure Meth (K:gV)(C:Addr)(m:Str)(f:Addr):Prop where
 at_:Hj K (.ref C) m=some (some (.ref f))
 fn:JW K (.ref f)=true
 kp:G9 K (.ref f)=true
section
variable {X:Cx}{pins:List (Addr×Obj)}{σ:St}{H:Hp}{s:Shared}{a C dx:Addr}{fs:List (Str×V)}{f:Str}{v:V}{A:Around}{E:Value->Shared->Prop}
theorem sf {b:Bool}{Q:Value->Shared->Prop}(I:Inv X pins σ H s)(e:H a=some (.ins C dx fs))(c:Cls X.K C)(n:a8 X.K C f)(l:fs.lookup f=some v)
   (h:∀u s',Inv X pins σ H s'->RelV v u->Q u s'):wpAny (model X.prog X.w) A (getAttr (.ref a) f b) Q E s:=by
 obtain⟨mA,O,r,_,_,_⟩:=o8 I.hok e;obtain⟨u,hu,ru⟩:=gS.some_of (v:=v) (o:=mA f) (by rw[<- l]; exact r f);exact get_map I.kIn O (c.get f) c.hd n hu (wx ru) (h u _ (I.tok _) ru)
theorem iB {m:Str}{g:Addr}{pl:Sem Bool}{Q:Value×List Value->Shared->Prop}(I:Inv X pins σ H s)(e:H a=some (.ins C dx fs))(c:Cls X.K C)(k:Meth X.K C m g)(l:fs.lookup m=none)
   (h:Q (.ref g,[.ref a]) s):wpAny (model X.prog X.w) A (getMethod (.ref a) m pl) Q E s:=by
 obtain⟨mA,O,r,_,_,_⟩:=o8 I.hok e;have hn:mA m=none:=gS.none_of (by rw[<- l]; exact r m);exact zo I.kIn O (c.get m) k.at_ k.fn hn h
theorem tw {y:V}{u:Value}{Q:Unit->Shared->Prop}(I:Inv X pins σ H s)(e:H a=some (.ins C dx fs))(c:Cls X.K C)(n:a8 X.K C f)(hl:fs.length<1000)(ry:RelV y u)
   (h:∀s',Inv X pins σ (upd H a (.ins C dx (gO f y fs))) s'->Q () s'):wpAny (model X.prog X.w) A (setAttr (.ref a) f u) Q E s:=by
 obtain⟨mA,O,r,wi,_,ho⟩:=o8 I.hok e;have hz:(fs.map (·.1)).length<=sizeLine:=by rw[fw,sizeLine_eq]; omega
 refine zU I.kIn O c.sa c.po n.ES c.hd wi hz λh' O' sb=>h _ ?_;have hd:∃o,h'.get? dx=some o:=let ⟨o,_,_,e',_⟩:=O'.ns; ⟨o,e'⟩
 refine I.write (x:=a) (e:=dx) (by rw[e]; exact HL) (.inr ho) (λb q hb z=>(sb.2 b hb).trans z) hd ?_;refine⟨by rw[ar O.ne]; exact ho,?_,O.ne,O'.obj,_,O'.ns,λg=>?_,λg hg=>?_⟩
 . have:=j0 f y fs; omega
 . show gS ((gO f y fs).lookup g) (if g=f then some u else mA g);rw[jN];by_cases q:g=f
   . rw[if_pos q,if_pos q]; exact ry
   . rw[if_neg q,if_neg q]; exact r g
 . by_cases q:g=f
   . rw[q]; exact(jk f y fs).1
   . refine(jk f y fs).2 g (wi g λz=>hg ?_);show (if g=f then some u else mA g)=none;rw[if_neg q]; exact z
theorem Inv.made (I:Inv X pins σ H s):Inv X pins σ (upd (upd H s.heap.objs.size (.own (s.heap.objs.size+1))) (s.heap.objs.size+1) (.ins C s.heap.objs.size []))
   { s with heap:=(s.heap.push Hw).push (Ib C s.heap.objs.size) }:=by
 have e1:(s.heap.push Hw).get? s.heap.objs.size=some Hw:=Et s.heap rfl
 have e2:((s.heap.push Hw).push (Ib C s.heap.objs.size)).get? (s.heap.objs.size+1)=some (Ib C s.heap.objs.size):=by
   have:=Et (s.heap.push Hw) (o:=Ib C s.heap.objs.size) rfl
   rwa [HC]at this
 have e3:(s.heap.push Hw).Ns s.heap.objs.size (λ_=>none):=⟨Hw,#[],_,e1,rfl,(λe he=>absurd he (by simp)),λ_=>rfl⟩;have I1:=I.laid (a:=s.heap.objs.size) (o:=.own (s.heap.objs.size+1)) (h':=s.heap.push Hw) (t':=s.toks) (λb u q=>ip _ q) (ia _) ⟨_,e1⟩;refine I1.laid (a:=s.heap.objs.size+1) (o:=.ins C s.heap.objs.size []) (t':=s.toks) (λb u q=>ip _ q) (Nat.le_of_eq (HC _ _)) ?_;have ne:s.heap.objs.size≠s.heap.objs.size+1:=GR (La _);refine⟨by rw[ar ne,au],G5 _,ne,e2,λ_=>none,(Heap.Ns1.of_empty e3).at λo q=>ip _ q,λ_=>HL,λy hy=>absurd rfl hy⟩
theorem zM {prog:Program}{w:World}{env:Env}{e:Expr}{f:Str}{pos:Pos}{s:Shared}{Q:Value->Shared->Prop}(hb:attributeBase e f env (eval e env)=eval e env)
   (h:wpAny (model prog w) A (eval e env) (λo s₁=>wpAny (model prog w) A (getAttr o f true) Q E s₁) E s):wpAny (model prog w) A (eval (.Attribute e f pos) env) Q E s:=
 Attribute_any_ h (by rw[arm_eval_Attribute,hb])
end
def FH (K:gV)(ta:TE)(f:Str):TE:=λσ H Q=>ta σ H λx H1=>∃a C dx fs v,x=.ref a/\H1 a=some (.ins C dx fs)/\Cls K C/\a8 K C f/\fs.lookup f=some v/\Q v H1
def Gj (K:gV)(ta tv:TE)(f:Str):TS:=λD σ H=>tv σ H λy H1=>ta σ H1 λx H2=>∃a C dx fs,x=.ref a/\H2 a=some (.ins C dx fs)/\Cls K C/\a8 K C f/\fs.length<1000 /\
 D.nx σ (upd H2 a (.ins C dx (gO f y fs)))
section
variable {X:Cx}{o e value:Expr}{f:Str}{pos pos':Pos}{ta tv:TE}
theorem r9 (he:PE X e ta)(hb:attributeBase e f X.env (eval e X.env)=eval e X.env):PE X (.Attribute e f pos) (FH X.K ta f):=by intro pins s σ H Q I h;refine zM hb (thn (he pins s σ H _ I h) λu s1 ⟨x,H1,I1,rx,a,C,dx,fs,v,ex,ea,c,n,l,q⟩=>?_);subst ex;obtain rfl:u=GI a:=rx;exact sf I1 ea c n l λu' s2 I2 ru=>⟨v,H1,I2,ru,q⟩
theorem x5 (ha:PE X o ta)(hv:PE X value tv)(hs:swapsWith value (some (.Attribute o f pos')) pos.line X.env=pure false):PS X (.Assign [.Attribute o f pos'] value pos) (Gj X.K ta tv f):=by intro pins s σ H D I h;refine plainObj_wpAny_Assign_Attribute (thn (hv pins s σ H _ I h) λu s1 ⟨y,H1,I1,ry,q⟩=>thn (ha pins s1 σ H1 _ I1 q) λov s2 ⟨x,H2,I2,rx,a,C,dx,fs,ex,ea,c,n,l,q2⟩=>?_) hs;subst ex;obtain rfl:ov=GI a:=rx;exact tw I2 ea c n l ry λs3 I3=>⟨σ,_,I3,q2⟩
theorem BF {pl:Sem Bool}{m:Str}{apos:Pos}{args:List Expr}{pins:List (Addr×Obj)}{s:Shared}{σ:St}{H:Hp}{Q:Value->Shared->Prop}{te:TE}(he:PE X e te)(I:Inv X pins σ H s)
   (h:te σ H λx H1=>∃a C dx fs g,x=.ref a/\H1 a=some (.ins C dx fs)/\Cls X.K C/\Meth X.K C m g/\fs.lookup m=none /\
     ∀s1,Inv X pins σ H1 s1->wpAny (model X.prog X.w) X.A (callWith pos (.ref g) [.ref a] (backTo pos (starEach args X.env)) (backToKw pos (keywordEach [] X.env))) Q X.xe s1)
   (ht:eval (.Call (.Attribute e m apos) args [] pos) X.env=(do
     let ov <- eval e X.env
     standAt apos.atName
     let (f,first) <- holding [ov] (getMethod ov m pl)
     callWith pos f first (backTo pos (starEach args X.env)) (backToKw pos (keywordEach [] X.env)))) :
   wpAny (model X.prog X.w) X.A (eval (.Call (.Attribute e m apos) args [] pos) X.env) Q X.xe s:=by
 refine JV (pl:=pl) (thn (he pins s σ H _ I h) λu s1 ⟨x,H1,I1,rx,a,C,dx,fs,g,ex,ea,c,k,l,q⟩=>?_) ht;subst ex;obtain rfl:u=GI a:=rx;exact iB I1 ea c k l (q s1 I1)
end
structure cK (k:Nat)(A:Around):Prop where
 hd:A.handled=none
 dp:A.depth+3*k+5<recursionLimit
 un:A.units+16*k+200<cLine
theorem cK.mono {j k:Nat}{A:Around}(r:cK k A)(h:j<=k):cK j A:=⟨r.hd,by have:=r.dp; omega,by have:=r.un; omega⟩
theorem cK.deeper {k:Nat}{A:Around}(r:cK (k+1) A)(env:Env):cK k (A.deeper env):=⟨r.hd,by have:=r.dp; show A.depth+1+3*k+5<_; omega,by have:=r.un; show A.units+3+16*k+200<_; omega⟩
theorem ua {A:Around}{C:Addr}{us:List Value}{kw:List (Str×Value)}:(A.under (.builtin "type.__call__" ⟨.ref C::us,kw⟩)).depth=A.depth+1:=by first | rfl | simp[LB,Code.weight,Code.isCreation,Code.isGuard,Code.isCaller,Code.frames,Code.isFrame,guardIds]
theorem sS {A:Around}{C:Addr}{us:List Value}{kw:List (Str×Value)}:(A.under (.builtin "type.__call__" ⟨.ref C::us,kw⟩)).units=A.units+1:=by first | rfl | simp[LB,Code.cUnits,Code.frames,Code.isFrame]
theorem cK.make {k:Nat}{A:Around}(r:cK (k+1) A)(C:Addr)(us:List Value)(kw:List (Str×Value)):cK k (A.under (.builtin "type.__call__" ⟨.ref C::us,kw⟩)):=⟨r.hd,by have:=r.dp; rw[ua]; omega,by have:=r.un; rw[sS]; omega⟩
theorem cK.depth {k:Nat}{A:Around}(r:cK k A):A.depth<recursionLimit:=by have:=r.dp; omega
theorem cK.units {k:Nat}{A:Around}(r:cK k A):A.units+64<cLine:=by have:=r.un; omega
def DW:TA:=λ_ H Q=>Q [] H
def Fc (ta:TE)(tr:TA):TA:=λσ H Q=>ta σ H λx H1=>tr σ H1 λxs H2=>Q (x::xs) H2
section
variable {X:Cx}{e:Expr}{es:List Expr}{te:TE}{t:TA}{pos:Pos}
theorem c8:PA X [] DW:=λ_ _ _ _ H Q I h=>JL ⟨[],H,I,.nil,h⟩
theorem bw (ha:PE X e te)(hr:PA X es t)(hs:starEach (e::es) X.env=(false,eval e X.env)::starEach es X.env:=by rfl):PA X (e::es) (Fc te t):=by intro pos pins s σ H Q I h;rw[hs];show wpAny _ _ (spliced ((false,eval e X.env)::backTo pos (starEach es X.env))) _ _ s;refine IP (thn (ha pins s σ H _ I h) λu s1 ⟨x,H1,I1,r1,q1⟩=>?_);exact thn (hr pos pins s1 σ H1 _ I1 q1) λus s2 ⟨xs,H2,I2,r2,q2⟩=>⟨x::xs,H2,I2,.cons r1 r2,q2⟩
def FO (t:TA):TE:=λσ H Q=>t σ H λxs H1=>xs.length<=sizeLine/\∀p,H1 p=none->Q (.ref p) (upd H1 p (.tup xs))
def FN (t:TA):TE:=λσ H Q=>t σ H λxs H1=>xs.length<=sizeLine/\∀p,H1 p=none->Q (.ref p) (upd H1 p (.lst xs))
theorem yR {x1}(h:PA X es t):PE X (.Tuple es x1 pos) (FO t):=by intro pins s σ H Q I hq;refine wpAny_Tuple_spliced (thn (h pos pins s σ H _ I hq) λus s1 ⟨xs,H1,I1,r,z,q⟩=>⟨by rw[<- r.length]; exact z,?_⟩);have hf:H1 s1.heap.objs.size=none:=I1.hok.fresh (ia _);refine⟨.ref s1.heap.objs.size,upd H1 s1.heap.objs.size (.tup xs),I1.laid (t':=s1.toks) (λb u e=>ip _ e) (ia _) ?_,rfl,q _ hf⟩;exact⟨z,us,r,⟨_,Et _ rfl,rfl,_,rfl⟩⟩
theorem xV (h:PA X es t):PE X (.List es pos) (FN t):=by intro pins s σ H Q I hq;refine wpAny_List_spliced (thn (h pos pins s σ H _ I hq) λus s1 ⟨xs,H1,I1,r,z,q⟩=>⟨by rw[<- r.length]; exact z,?_⟩);have hf:H1 s1.heap.objs.size=none:=I1.hok.fresh (ia _);refine⟨.ref s1.heap.objs.size,upd H1 s1.heap.objs.size (.lst xs),I1.laid (t':=s1.toks) (λb u e=>ip _ e) (ia _) ?_,rfl,q _ hf⟩;exact⟨z,us,0,r,Et _ rfl⟩
end
noncomputable abbrev Sp:=List V->Hp->VK->XK->Prop
noncomputable abbrev CXT:=List Env->Hp->Shared->XK->Value->Shared->Prop
structure sI (P:Program)(w:World)(K:gV)(mg:Str->Option Value)(base:Heap)(A:Around)(outer:List Env)(s:Shared)(H:Hp):Prop where
 frames:A.frames=some outer
 mod:Mod K mg base
 bs:∀b o,base.get? b=some o->s.heap.get? b=some o/\H b=none
 bsz:base.objs.size<=s.heap.objs.size
 kg:s.heap.FunFrames base outer
 frf:∀b∈frs outer,H b=none
 hok:HOk P w H s.heap
 bare:AllBare s.gens
def CE (outer:List Env)(P:Program)(w:World)(H:Hp)(s:Shared)(Q:VK)(u:Value)(s':Shared):Prop:=∃v H',s'.os=s.os/\AllBare s'.gens/\Un (frs outer) [] H H' s.heap s'.heap/\HOk P w H' s'.heap/\RelV v u/\Q v H'
def CR (CX:CXT)(outer:List Env)(P:Program)(w:World)(H:Hp)(s:Shared)(Q:VK)(E:XK)(r:Result)(s':Shared):Prop:=
 match r with
 | .ok (.ret u)=>CE outer P w H s Q u s'
 | .ok _=>False
 | .error e=>CX outer H s E e s'
structure aH (P:Program)(w:World)(K:gV)(mg:Str->Option Value)(base:Heap)(CX:CXT)(k:Nat)(f:Addr)(fd:FuncData)(ps:List Str)(sp:Sp):Prop where
 len:∀vs H Q E,sp vs H Q E->vs.length=ps.length
 run:∀(A:Around) (outer:List Env) (s:Shared) (H:Hp) (args:Args) (us:List Value) (vs:List V) (Q:VK) (E:XK),cK k A->sI P w K mg base A outer s H->BindsTo s fd args (ps.zip us)->Vals vs us->sp vs H Q E ->
   codeAny (model P w) A (.call (.ref f) args) (CR CX outer P w H s Q E) s
theorem aH.mono {P:Program}{w:World}{K:gV}{mg:Str->Option Value}{base:Heap}{CX:CXT}{j k:Nat}{f:Addr}{fd:FuncData}{ps:List Str}{sp:Sp}(F:aH P w K mg base CX j f fd ps sp)(h:j<=k):
   aH P w K mg base CX k f fd ps sp:=⟨F.len,λA outer s H args us vs Q E hr=>F.run A outer s H args us vs Q E (hr.mono h)⟩
theorem sI.make {P:Program}{w:World}{K:gV}{mg:Str->Option Value}{base:Heap}{A:Around}{outer:List Env}{s:Shared}{H:Hp}(e:sI P w K mg base A outer s H)(C:Addr)(us:List Value)(kw:List (Str×Value)):
   sI P w K mg base (A.under (.builtin "type.__call__" ⟨.ref C::us,kw⟩)) outer s H:=⟨by first | exact e.frames | (simpa[LB,Code.envs,Code.isFrame,pushEnvs]using e.frames),e.mod,e.bs,e.bsz,e.kg,e.frf,e.hok,e.bare⟩
section
variable {X:Cx}{pins:List (Addr×Obj)}{σ:St}{H:Hp}{s s':Shared}
theorem Inv.EK (I:Inv X pins σ H s):sI X.prog X.w X.K X.mg X.base X.A X.stack s H:=⟨I.ok.frames,I.ok.mod,I.bs,GB I.ok.bsz I.sz,I.stack,I.uY,I.hok,I.bare⟩
theorem Inv.after {Q:VK}{u:Value}(I:Inv X pins σ H s)(h:CE X.stack X.prog X.w H s Q u s'):EP X pins σ Q u s':=by obtain⟨v,H',os,bare,un,hok,r,q⟩:=h;obtain⟨hh,g,d,t,os'⟩:=s';obtain rfl:os'=s.os:=os;exact⟨v,H',I.call (h':=hh) (g':=g) (d':=d) (t':=t) (ch:=[]) un hok bare (λb z=>absurd z (by simp)),r,q⟩
end
def E4 (sp:Sp)(dvs:List V)(E:XK)(t:TA):TE:=λσ H Q=>t σ H λvs H1=>sp (vs++dvs) H1 Q E
def BJ (C:Addr)(m:Str)(sp:Sp)(dvs:List V)(E:XK)(ta:TE)(t:TA):TE:=λσ H Q=>ta σ H λx H1=>∃a dx fs,x=.ref a/\H1 a=some (.ins C dx fs)/\fs.lookup m=none /\
 t σ H1 λvs H2=>sp (x::(vs++dvs)) H2 Q E
def EL (C:Addr)(sp:Sp)(dvs:List V)(E:XK)(t:TA):TE:=λσ H Q=>t σ H λvs H1=>∀x dx,H1 x=none->H1 dx=none->dx≠x ->
 sp (.ref x::(vs++dvs)) (upd (upd H1 dx (.own x)) x (.ins C dx [])) (λv H2=>v=.non/\Q (.ref x) H2) E
def Binds (K:gV)(fd:FuncData)(ps:List Str)(ds:List Value):Prop:=∀(s:Shared) (us:List Value),K.In s.heap->(us++ds).length=ps.length->BindsTo s fd ⟨us,[]⟩ (ps.zip (us++ds))
theorem Binds.all {K:gV}{fd:FuncData}{ps:List Str}(h:∀us:List Value,us.length=ps.length->bindArgs fd ⟨us,[]⟩=pure (ps.zip us)):Binds K fd ps []:=λs us _ hl=>by rw[G3]at hl ⊢;exact .of_eq (h us hl)
def Passes (CX:CXT)(X:Cx)(E:XK):Prop:=∀(pins:List (Addr×Obj)) (σ:St) (H:Hp) (s:Shared) (e:Value) (s':Shared),Inv X pins σ H s->CX X.stack H s E e s'->X.xe e s'
section
variable {X:Cx}{CX:CXT}{k:Nat}{f C:Addr}{fd:FuncData}{ps:List Str}{sp:Sp}{dvs:List V}{ds:List Value}{E:XK}{x m:Str}{p pos apos:Pos}{e o:Expr}{es:List Expr}{ta:TE}{t:TA}
theorem sQ {pins:List (Addr×Obj)}{σ:St}{H:Hp}{s:Shared}{Q:VK}{us:List Value}{vs:List V}(F:aH X.prog X.w X.K X.mg X.base CX k f fd ps sp)(hr:cK k X.A)(hb:Binds X.K fd ps ds)(hd:Vals dvs ds)(hx:Passes CX X E)
   (I:Inv X pins σ H s) (r:Vals vs us) (h:sp (vs++dvs) H Q E):wpAny (model X.prog X.w) X.A (call (.ref f) us) (EP X pins σ Q) X.xe s:=by
 have r2:Vals (vs++dvs) (us++ds):=r.append hd;have hl:(us++ds).length=ps.length:=by rw[<- r2.length]; exact F.len _ _ _ _ h
 refine wpAny_call (codeAny_mono (F.run X.A X.stack s H ⟨us,[]⟩ (us++ds) (vs++dvs) Q E hr I.EK (hb s us I.kIn hl) r2 h) λr s' hq=>?_);cases r with
 | error e=>exact hx pins σ H s e s' I hq
 | ok fl=>
   cases fl with
   | ret u=>exact I.after hq
   | next=>exact Ie hq
   | brk=>exact Ie hq
   | cont=>exact Ie hq
theorem ky (F:aH X.prog X.w X.K X.mg X.base CX k f fd ps sp)(hr:cK k X.A)(hg:Gl X x)(hm:X.mg x=some (.ref f))(hk:G9 X.K (.ref f)=true)(hb:Binds X.K fd ps ds)(hd:Vals dvs ds)(hx:Passes CX X E)
   (ha:PA X (e::es) t) (hdb:(x==("__debug__" : Str))=false:=by decide) (he:starEach (e::es) X.env=(false,eval e X.env)::starEach es X.env:=by rfl) (hpl:(backTo pos (starEach es X.env)).any (·.1)=false:=by rfl) :
   PE X (.Call (.Name x p) (e::es) [] pos) (E4 sp dvs E t):=by
 intro pins s σ H Q I h;refine wpAny_Call_Name_kw (oQ I hg hm ?_ hdb);refine PySem.W.callWith_K (h₀:=X.base) I.ok.mod.kin hk (thn (ha pos pins s σ H _ I h) λus s1 ⟨vs,H1,I1,r,q⟩=>⟨I1.kIn,?_⟩) he hpl;exact sQ F hr hb hd hx I1 r q
theorem u6 {pl:Sem Bool}(he:PE X o ta)(c:Cls X.K C)(hm:Meth X.K C m f)(F:aH X.prog X.w X.K X.mg X.base CX k f fd ps sp)(hr:cK k X.A)(hb:Binds X.K fd ps ds)(hd:Vals dvs ds)(hx:Passes CX X E)(ha:PA X (e::es) t)
   (hst:starEach (e::es) X.env=(false,eval e X.env)::starEach es X.env:=by rfl) (hpl:(backTo pos (starEach es X.env)).any (·.1)=false:=by rfl)
   (ht:eval (.Call (.Attribute o m apos) (e::es) [] pos) X.env=(do
     let ov <- eval o X.env
     standAt apos.atName
     let (f,first) <- holding [ov] (getMethod ov m pl)
     callWith pos f first (backTo pos (starEach (e::es) X.env)) (backToKw pos (keywordEach [] X.env))):=by rfl) :
   PE X (.Call (.Attribute o m apos) (e::es) [] pos) (BJ C m sp dvs E ta t):=by
 intro pins s σ H Q I h;refine JV (pl:=pl) (thn (he pins s σ H _ I h) λu s1 ⟨x,H1,I1,rx,a,dx,fs,ex,ea,l,q⟩=>?_) ht;subst ex;obtain rfl:u=GI a:=rx;refine iB I1 ea c hm l ?_;refine PySem.W.callWith_K (first:=[.ref a]) (h₀:=X.base) I.ok.mod.kin hm.kp (thn (ha pos pins s1 σ H1 _ I1 q) λus s2 ⟨vs,H2,I2,r,q2⟩=>⟨I2.kIn,?_⟩) hst hpl;exact sQ (us:=.ref a::us) (vs:=.ref a::vs) F hr hb hd hx I2 (.cons rfl r) q2
theorem yU {pl:Sem Bool}(he:PE X o ta)(c:Cls X.K C)(hm:Meth X.K C m f)(F:aH X.prog X.w X.K X.mg X.base CX k f fd ps sp)(hr:cK k X.A)(hb:Binds X.K fd ps ds)(hd:Vals dvs ds)(hx:Passes CX X E)
   (ht:eval (.Call (.Attribute o m apos) [] [] pos) X.env=(do
     let ov <- eval o X.env
     standAt apos.atName
     let (f,first) <- holding [ov] (getMethod ov m pl)
     callWith pos f first (backTo pos (starEach [] X.env)) (backToKw pos (keywordEach [] X.env))):=by rfl) :
   PE X (.Call (.Attribute o m apos) [] [] pos) (BJ C m sp dvs E ta DW):=by
 intro pins s σ H Q I h;refine JV (pl:=pl) (thn (he pins s σ H _ I h) λu s1 ⟨x,H1,I1,rx,a,dx,fs,ex,ea,l,q⟩=>?_) ht;subst ex;obtain rfl:u=GI a:=rx;refine iB I1 ea c hm l ?_;exact LL (first:=[.ref a]) I1.kIn hm.kp (sQ (us:=[.ref a]) (vs:=[.ref a]) F hr hb hd hx I1 (.cons rfl .nil) q)
structure Mk (K:gV)(C f:Addr):Prop where
 makes:KQ K C=true
 init:Hj K (.ref C) "__init__" = some (some (.ref f))
 fn:JW K (.ref f)=true
 kp:G9 K (.ref C)=true
theorem yv {pins:List (Addr×Obj)}{σ:St}{H:Hp}{s:Shared}{Q:VK}{us:List Value}{vs:List V}(M:Mk X.K C f)(F:aH X.prog X.w X.K X.mg X.base CX k f fd ps sp)(hr:cK (k+1) X.A)(hb:Binds X.K fd ps ds)(hd:Vals dvs ds)
   (hx:Passes CX X E) (I:Inv X pins σ H s) (r:Vals vs us)
   (h:∀x dx,H x=none->H dx=none->dx≠x->sp (.ref x::(vs++dvs)) (upd (upd H dx (.own x)) x (.ins C dx [])) (λv H2=>v=.non/\Q (.ref x) H2) E) :
   wpAny (model X.prog X.w) X.A (call (.ref C) us) (EP X pins σ Q) X.xe s:=by
 have hq:=h (s.heap.objs.size+1) s.heap.objs.size (I.hok.fresh (HH _)) (I.hok.fresh (ia _)) (GR (La _));have I2:=Inv.made (C:=C) I;have r2:Vals (V.ref (s.heap.objs.size+1)::(vs++dvs)) (GI (s.heap.objs.size+1)::(us++ds)):=.cons rfl (r.append hd);have hl:(GI (s.heap.objs.size+1)::us++ds).length=ps.length:=by have e:=r2.length;rw[F.len _ _ _ _ hq]at e;exact e.symm
 refine wpAny_call (yh (f:=f) I.kIn M.makes M.init (beq_iff_eq.mp M.fn) (codeAny_mono (F.run _ X.stack _ _ ⟨GI (s.heap.objs.size+1)::us,[]⟩ (GI (s.heap.objs.size+1)::(us++ds)) _ _ E (hr.make C us [])
   (I2.EK.make C us []) (hb _ (GI (s.heap.objs.size+1)::us) I2.kIn hl) r2 hq) λr s' hq'=>?_))
 cases r with
 | error e=>exact hx pins σ _ _ e s' I2 hq'
 | ok fl=>
   cases fl with
   | ret u=>obtain⟨v,H',I3,rv,ev,q3⟩:=I2.after hq';subst ev;exact⟨rv,⟨V.ref (s.heap.objs.size+1),H',I3,rfl,q3⟩⟩
   | next=>exact Ie hq'
   | brk=>exact Ie hq'
   | cont=>exact Ie hq'
theorem yt (M:Mk X.K C f)(F:aH X.prog X.w X.K X.mg X.base CX k f fd ps sp)(hr:cK (k+1) X.A)(hg:Gl X x)(hm:X.mg x=some (.ref C))(hb:Binds X.K fd ps ds)(hd:Vals dvs ds)(hx:Passes CX X E)
   (hdb:(x==("__debug__" : Str))=false:=by decide):PE X (.Call (.Name x p) [] [] pos) (EL C sp dvs E DW):=by
 intro pins s σ H Q I h;refine wpAny_Call_Name_kw (oQ I hg hm ?_ hdb);exact LL I.kIn M.kp (yv (us:=[]) M F hr hb hd hx I .nil h)
end
structure aj (N P:List Str)(sc:Scope):Prop where
 kind:sc.kind=.function
 co:sc.isCoroutine=false
 gen:sc.isGenerator=false
 nd:N.Nodup
 pre:N.take P.length=P
 par:∀x∈P,sc.names.lookup x=some .local\/sc.names.lookup x=some .cell
 nofree:∀y∈sc.names,y.2≠.free
theorem nQ {kindOf:Str->Option NameKind}{x:Str}:∀{binds:List (Str×Value)} {m:Str->Option Value},(∀v,(x,v)∉binds)->bindL kindOf binds m x=m x
 | [],_,_=>rfl
 | (n,v)::r,m,h=>by
   unfold bindL;rw[nQ λw hw=>h w (pq _ hw)];split
   . have:x≠n:=by rintro rfl; exact h v rp
     simp[this]
   . rfl
theorem nU {kindOf:Str->Option NameKind}{x:Str}:∀{binds:List (Str×Value)} {m:Str->Option Value},(∀v,(x,v)∉binds)->bindC kindOf binds m x=m x
 | [],_,_=>rfl
 | (n,v)::r,m,h=>by
   unfold bindC;rw[nU λw hw=>h w (pq _ hw)];split
   . rfl
   . have:x≠n:=by rintro rfl; exact h v rp
     simp[this]
theorem nM {kindOf:Str->Option NameKind}{x:Str}{v:Value}:∀{P:List Str} {vs:List Value} {i:Nat} {m:Str->Option Value},P.Nodup->P[i]?=some x->vs[i]?=some v->kindOf x=some .local ->
   bindL kindOf (P.zip vs) m x=some v
 | [],_,_,_,_,h,_,_=>by simp at h
 | _::_,[],_,_,_,_,h,_=>by simp at h
 | p::P,w::vs,0,m,nd,h1,h2,hk=>by simp at h1 h2; subst h1; subst h2;show bindL kindOf ((p,w)::P.zip vs) m p=_;unfold bindL;rw[nQ λv hv=>(Ha.mp nd).1 (Lf hv).1,if_pos hk];simp
 | p::P,w::vs,i+1,m,nd,h1,h2,hk=>by show bindL kindOf ((p,w)::P.zip vs) m x=_;unfold bindL;exact nM (i:=i) (Ha.mp nd).2 (by simpa using h1) (by simpa using h2) hk
theorem nP {kindOf:Str->Option NameKind}{x:Str}{v:Value}:∀{P:List Str} {vs:List Value} {i:Nat} {m:Str->Option Value},P.Nodup->P[i]?=some x->vs[i]?=some v->kindOf x≠some .local ->
   bindC kindOf (P.zip vs) m x=some v
 | [],_,_,_,_,h,_,_=>by simp at h
 | _::_,[],_,_,_,_,h,_=>by simp at h
 | p::P,w::vs,0,m,nd,h1,h2,hk=>by simp at h1 h2; subst h1; subst h2;show bindC kindOf ((p,w)::P.zip vs) m p=_;unfold bindC;rw[nU λv hv=>(Ha.mp nd).1 (Lf hv).1,if_neg hk];simp
 | p::P,w::vs,i+1,m,nd,h1,h2,hk=>by show bindC kindOf ((p,w)::P.zip vs) m x=_;unfold bindC;exact nP (i:=i) (Ha.mp nd).2 (by simpa using h1) (by simpa using h2) hk
noncomputable def start (N:List Str)(vs:List V):St:=vs.map some++GA (N.length-vs.length) none
noncomputable def sL (CX:CXT)(P:Program)(w:World)(K:gV)(mg:Str->Option Value)(base:Heap)(N:List Str)(qual:Str)(scope:Scope)(f:Addr)(cd:Value)(A:Around)(outer:List Env)(s:Shared)(H:Hp)(E:XK):Cx where
 prog:=P
 w:=w
 K:=K
 mg:=mg
 base:=base
 A:=A.deeper (envOfC qual scope s.heap.objs.size f cd)
 N:=N
 s₀:=s
 H₀:=H
 env:=envOfC qual scope s.heap.objs.size f cd
 outer:=outer
 stack:=envOfC qual scope s.heap.objs.size f cd::outer
 ex:=[]
 calm:=true
 fn:=λ_=>true
 pn:=[]
 xe:=λe s'=>wpAny (model P w) (A.deeper (envOfC qual scope s.heap.objs.size f cd)) (leaving (envOfC qual scope s.heap.objs.size f cd) e) (λ_ s''=>CX outer H s E e s'') (λe' s''=>CX outer H s E e' s'') s'
theorem rO {sc:Scope}{n:Nat}{x:Str}(h:sc.names.lookup x=some .cell):∃c,(cellsFrom n sc.names []).lookup x=some c:=by have q:=Lm sc.names n [] (.inl h);exact Lj.mp q
theorem wN {CX:CXT}{P:Program}{w:World}{K:gV}{mg:Str->Option Value}{base:Heap}{N ps:List Str}{qual:Str}{scope:Scope}{f:Addr}{cd:Value}{A:Around}{outer:List Env}{s s1:Shared}{H:Hp}{E:XK}{us:List Value}{vs:List V}
   (S:aj N ps scope) {cm:Bool} (hd:cm=true->A.handled=none) (e0:sI P w K mg base A outer s H) (hl:vs.length=ps.length) (r:Vals vs us)
   (x:InCallC s s.heap.objs.size (bindL (envOfC qual scope s.heap.objs.size f cd).kindOf (ps.zip us) λ_=>none) (cellsFrom (s.heap.objs.size+1) scope.names []) (bindC (envOfC qual scope s.heap.objs.size f cd).kindOf (ps.zip us) λ_=>none) s1) :
   Inv { sL CX P w K mg base N qual scope f cd A outer s H E with calm:=cm } [] (start N vs) H s1:=by
 have hpl:ps.length<=N.length:=by have:=congrArg List.length S.pre; rw[GZ]at this; omega
 obtain⟨h1,tk,rfl,hk⟩:=x.done;have noA:∀b:Addr,b∉(sL CX P w K mg base N qual scope f cd A outer s H E).ex:=λb z=>absurd (show b∈([]:List Addr) from z) (by simp)
 refine⟨⟨e0.mod,S.kind,rfl,rfl,ia _,λy z c h1 h2=>?_,λy hy=>?_,λy c _ h=>?_,hd,Around.frames_deeper e0.frames,.inr ⟨rfl,rfl⟩,λb z=>absurd z (noA b),e0.bs,e0.bsz,λb _ _=>noA b,λb z=>absurd z (noA b),e0.kg,e0.frf⟩,
   rfl,e0.bare,Un.kept hk,⟨_,x.toInCall.ns,λi y v h1 h2 h3=>?_⟩,λy c h=>⟨_,x.cell y c h⟩,e0.hok.fresh (ia _),λy c h=>?_,λp hp=>absurd (show p∈([]:List (Addr×Obj)) from hp) (by simp),e0.hok.kept hk,?_⟩
 . exact name_of_addr x.apart (IG h1) (IG h2)
 . have hy:scope.names.lookup y=some .cell\/scope.names.lookup y=some .free:=hy;rcases hy with hy | hy
   . exact rO hy
   . exact absurd rfl (S.nofree _ (IG hy))
 . exact Ia (x.above y c (IG h))
 . have hi:i<vs.length:=by
     unfold start at h2;by_cases hi:i<vs.length
     . exact hi
     . rw[GU (by simpa using hi)]at h2;rw[HI]at h2;split at h2 <;> cases h2
   have ha:vs[i]?=some v:=by
     unfold start at h2;rw[Gw (by simpa using hi),GL]at h2;cases e:vs[i]? with
     | none=>rw[e]at h2; cases h2
     | some a=>rw[e]at h2; cases h2; rfl
   obtain⟨u,hu,rv⟩:=r.get ha;have hp:ps[i]?=some y:=by rw[<- S.pre,Lx (by omega)]; exact h1
   have ndP:ps.Nodup:=by rw[<- S.pre]; exact S.nd.sublist (List.take_sublist _ _)
   refine⟨u,rv,?_⟩;rcases S.par y (He hp) with k | k
   . exact .inl ⟨k,nM ndP hp hu k⟩
   . obtain⟨c,e⟩:=rO (n:=s.heap.objs.size+1) k;refine .inr ⟨.inl k,c,e,?_⟩;have q:=x.cell y c e;rw[nP ndP hp hu (by show scope.names.lookup y≠_; rw[k]; decide)]at q;exact q
 . exact e0.hok.fresh (Ia (x.above y c (IG h)))
 . unfold start;show _=N.length;rw[vp,fw,List.length_replicate];omega
theorem Ez {CX:CXT}{P:Program}{w:World}{K:gV}{mg:Str->Option Value}{base:Heap}{k:Nat}{f:Addr}{name qual:Str}{params:Arguments}{body:List Stmt}{scope:Scope}{dV kV doc pm cdv ct oc:Value}{an od:Option Addr}
   {osl:Array (Option Value)} {N ps:List Str} {sp:Sp} (lk:K.lookup f=some ⟨oc,od,.func (Hr name qual params body scope dV kV doc pm an cdv ct),osl⟩) (hcd:HX K cdv qual=true) (S:aj N ps scope)
   (len:∀vs H Q E,sp vs H Q E->vs.length=ps.length)
   (hbody:∀(A:Around) (outer:List Env) (s:Shared) (H:Hp) (vs:List V) (Q:VK) (E:XK),cK k (A.deeper (envOfC qual scope s.heap.objs.size f cdv))->sp vs H Q E ->
     ∃t,PSs (sL CX P w K mg base N qual scope f cdv A outer s H E) body t/\t { nx:=λ_ H'=>Q .non H',rt:=Q } (start N vs) H) :
   aH P w K mg base CX (k+1) f (Hr name qual params body scope dV kV doc pm an cdv ct) ps sp:=by
 refine⟨len,λA outer s H args us vs Q E hr e0 hb r hsp=>?_⟩;have hl:=len _ _ _ _ hsp;have KX:K.In s.heap:=e0.mod.kin.keeps λb o e=>(e0.bs b o e).1;have lim:s.heap.NoLimit:=e0.mod.nolimit.keeps λb o e=>(e0.bs b o e).1
 have hkind:∀y∈ps.zip us,scope.names.lookup y.1=some .local\/(scope.names.lookup y.1=some .cell/\((cellsFrom (s.heap.objs.size+1) scope.names []).lookup y.1).isSome=true):=λ⟨n,v⟩ hy=>by
   rcases S.par n (Lf hy).1 with q | q
   . exact .inl q
   . exact .inr ⟨q,Lm _ _ _ (.inl q)⟩
 refine codeAny_call_function hr.depth (KX _ _ lk) rfl S.co S.gen rfl (PySem.W.codeRec_of KX hcd) (hb _ _ _ _ ?_);refine wpAny_newFunctionEnv_cells S.kind hkind λenv he s1 x=>?_;subst he;refine⟨lim.keeps x.toInCall.keep,codeAny_func ?_⟩;obtain⟨t,ht,hq⟩:=hbody A outer s H vs Q E (hr.deeper _) hsp;have I:Inv (sL CX P w K mg base N qual scope f cdv A outer s H E) [] (start N vs) H s1:=wN (cm:=true) S (λ_=>hr.hd) e0 hl r x;refine wpAny_mono (ht [] s1 (start N vs) H _ I hq) (λfl s' hs=>?_) λe s' hs=>hs;have fin:∀{σ':St} {H':Hp} {v:V} {u:Value},Inv (sL CX P w K mg base N qual scope f cdv A outer s H E) [] σ' H' s'->RelV v u->Q v H'->CE outer P w H s Q u s':=λ{σ' H' v u} J rv q=>⟨v,H',J.os,J.bare,J.base,J.hok,rv,q⟩;cases fl with
 | ret u=>obtain⟨v,σ',H',J,rv,q⟩:=hs;exact fin J rv q
 | next=>obtain⟨σ',H',J,q⟩:=hs;exact fin (v:=V.non) (u:=Hz) J rfl q
 | brk=>obtain⟨_,_,_,q⟩:=hs;exact Ie q
 | cont=>obtain⟨_,_,_,q⟩:=hs;exact Ie q
section
variable {X:Cx}{x:Str}{p pos:Pos}{e:Expr}{es:List Expr}{t:TA}{id T:String}{r:List V->Hp->VK->Prop}
def tCB (r:List V->Hp->VK->Prop)(t:TA):TE:=λσ H Q=>t σ H λvs H1=>r vs H1 Q
theorem lu (hc:cX X (.builtin id) r)(hg:Gl X x)(hm:X.mg x=none)(hv:bootBuiltins x=some (.builtin id))(ha:PA X (e::es) t)(hn:x ≠ "__name__":=by decide)(hdb:(x==("__debug__" : Str))=false:=by decide)
   (he:starEach (e::es) X.env=(false,eval e X.env)::starEach es X.env:=by rfl) (hpl:(backTo pos (starEach es X.env)).any (·.1)=false:=by rfl):PE X (.Call (.Name x p) (e::es) [] pos) (tCB r t):=by
 intro pins s σ H Q I h;refine wpAny_Call_Name_kw (dY I hg hm hv ?_ hn hdb);exact PyProof.Rows.callWith_builtin1 (thn (ha pos pins s σ H _ I h) λus s1 ⟨vs,H1,I1,r1,q1⟩=>hc pins s1 σ H1 vs us Q I1 r1 q1) he hpl
theorem nO (hc:cX X (.type T) r)(hg:Gl X x)(hm:X.mg x=none)(hv:bootBuiltins x=some (.type T))(ha:PA X (e::es) t)(hn:x ≠ "__name__":=by decide)(hdb:(x==("__debug__" : Str))=false:=by decide)
   (he:starEach (e::es) X.env=(false,eval e X.env)::starEach es X.env:=by rfl) (hpl:(backTo pos (starEach es X.env)).any (·.1)=false:=by rfl):PE X (.Call (.Name x p) (e::es) [] pos) (tCB r t):=by
 intro pins s σ H Q I h;refine wpAny_Call_Name_kw (dY I hg hm hv ?_ hn hdb);exact G4 (thn (ha pos pins s σ H _ I h) λus s1 ⟨vs,H1,I1,r1,q1⟩=>hc pins s1 σ H1 vs us Q I1 r1 q1) he hpl
end
end L2
namespace HT
open PySem PyProof.Rows
section
open PySem.SeqAt
open PySem.AutoSeq1 (wpAny_loadPart')
open PySem.MeetsSeq PySem.MeetsSeq2 PySem.MeetsSeq3
end
section
variable {prog:Program}{w:World}{A:Around}{E:Value->Shared->Prop}{s:Shared}
theorem As {t b:Addr}{vs ws:List Value}{Q:Value->Shared->Prop}(ht:IsTup s.heap t vs.toArray)(hb:IsTup s.heap b ws.toArray)(hv:vs≠[])
   (h1:ws=[]->Q (.ref t) s) (h2:ws≠[]->Q (.ref s.heap.objs.size) { s with heap:=s.heap.push { cls:=.type "tuple",data:=.seq (vs++ws).toArray } })
   (hsz:vs.length+ws.length<=sizeLine):wpAny (model prog w) A (binaryOp .Add (.ref t) (.ref b)) Q E s:=by
 obtain⟨⟨cls,dd,data,sl⟩,ho,hc,n,hd⟩:=id ht;obtain⟨⟨cls2,dd2,data2,sl2⟩,ho2,hc2,n2,hd2⟩:=id hb;simp only at hc hd hc2 hd2;subst hc hd hc2 hd2;have e:vs.toArray++ws.toArray=(vs++ws).toArray:=by simp
 by_cases hw:ws=[]
 . exact concat_meets ⟨_,ho,rfl⟩ ⟨_,ho2,rfl⟩ noFill_tuple_add seq_tuple_add JP JK (JE _ _)
     (tuple_addW1 t b vs.toArray ws.toArray n n2 dd dd2 sl sl2 (by simpa using hv) (by simp[hw])) ⟨ho,ho2,h1 hw⟩
 . refine concat_meets ⟨_,ho,rfl⟩ ⟨_,ho2,rfl⟩ noFill_tuple_add seq_tuple_add JP JK (JE _ _)
     (tuple_addW2 t b vs.toArray ws.toArray n n2 dd dd2 sl sl2 (by simpa using hv) (by simpa using hw) (by rw[Gu,Gu]; exact hsz)) ⟨ho,ho2,?_⟩
   rw[e];exact h2 hw
noncomputable def sIx (n d:Nat):Option Int->Nat
 | none=>d
 | some v=>if v<0 then (v+(n:Int)).toNat else min v.toNat n
theorem kI (n d:Nat):sIx n d none=d:=rfl
theorem gJ (n d k:Nat):sIx n d (some (k:Int))=min k n:=by show (if (k:Int)<0 then ((k:Int)+(n:Int)).toNat else min (k:Int).toNat n)=min k n;rw[if_neg (by omega),GC]
theorem Dx (n d:Nat)(hd:d<=n)(o:Option Int):sIx n d o<=n:=by
 cases o with
 | none=>exact hd
 | some v=>
   show (if v<0 then (v+(n:Int)).toNat else min v.toNat n)<=n;by_cases hv:v<0
   . rw[if_pos hv]; omega
   . rw[if_neg hv]; exact Nat.min_le_right _ _
theorem u7 (v:Int)(n d:Nat):(if v<0 then max (v+(n:Int)) 0 else min v (n:Int))=((sIx n d (some v):Nat):Int):=by
 show (if v<0 then max (v+(n:Int)) 0 else min v (n:Int))=(((if v<0 then (v+(n:Int)).toNat else min v.toNat n):Nat):Int);by_cases hv:v<0
 . simp only[if_pos hv]; omega
 . simp only[if_neg hv]; omega
theorem ub (lo hi:Option Int)(n:Nat):Ku lo hi 1 (n:Int)=(((sIx n 0 lo:Nat):Int),((sIx n n hi:Nat):Int)):=by
 have h1:¬((1:Int)<0):=by omega
 unfold Builtin.Slice.sliceAdjust;simp only[h1,if_false];refine Prod.ext ?_ ?_
 . cases lo with
   | none=>rfl
   | some v=>exact u7 v n 0
 . cases hi with
   | none=>rfl
   | some v=>exact u7 v n n
theorem tJ (i j:Nat):Jm (i:Int) (j:Int) 1=j-i:=by
 unfold Builtin.Slice.slicePlaces;have h1:(1:Int)>0:=by omega
 simp only[h1,if_true,Int.ediv_one];split <;> omega
theorem lZ {v:Value}{o:Option Int}{Q:Option Int->Shared->Prop}(p:IsPart v o)(h:Q o s):wpAny (model prog w) A (Builtin.Slice.slicePartIndex v) Q E s:=by
 cases p with
 | none=>exact slicePart_none h
 | int i t=>exact slicePart_int h
theorem jn {sl:Addr}{vl vu:Value}{lo hi:Option Int}{n:Nat}{Q:Int×Int×Nat->Shared->Prop}(hs:s.heap.IsSliceOf sl vl vu .none)(pl:IsPart vl lo)(pu:IsPart vu hi)
   (h:Q (((sIx n 0 lo:Nat):Int),1,sIx n n hi-sIx n 0 lo) s):wpAny (model prog w) A (Builtin.Slice.sliceApplied (.ref sl) (pure (n:Int))) Q E s:=by
 obtain⟨os,hos,hcs,hds⟩:=id hs;unfold Builtin.Slice.sliceApplied Builtin.Slice.sliceFields;refine wpAny_bind (wpAny_bind (wpAny_field hos hds (x:=vl) rfl (wpAny_bind (wpAny_field hos hds (x:=vu) rfl (wpAny_bind (wpAny_field hos hds (x:=.none) rfl (wpAny_pure ?_)))))));refine wpAny_bind (slicePart_none ?_);show wpAny _ _ (if ((1:Int)==0)=true then _ else _) _ _ s;rw[if_neg (by decide)];refine wpAny_bind (lZ pl (wpAny_bind (lZ pu (wpAny_bind (wpAny_pure ?_)))));show wpAny _ _ (match Ku lo hi 1 (n:Int) with | (lo,hi)=>pure (lo,(1:Int),Jm lo hi 1)) _ _ s;rw[ub lo hi n];show wpAny _ _ (pure (((sIx n 0 lo:Nat):Int),(1:Int),Jm ((sIx n 0 lo:Nat):Int) ((sIx n n hi:Nat):Int) 1)) _ _ s;rw[tJ];exact wpAny_pure h
theorem xn (xs:Array Value)(i k:Nat):((ox k).filterMap λ(m:Nat)=>xs[((i:Int)+(m:Int)*1).toNat]?).toArray=((xs.toList.drop i).take k).toArray:=by
 have e:(λ(m:Nat)=>xs[((i:Int)+(m:Int)*1).toNat]?)=λm=>xs[i+m]?:=by
   funext m;have:((i:Int)+(m:Int)*1).toNat=i+m:=by omega
   rw[this]
 rw[e];have:=pick_run xs i k;rw[List.filterMap_map]at this;have e2:((λx=>xs[x]?)∘λx=>i+x)=λm=>xs[i+m]?:=rfl;rw[e2]at this;rw[this]
theorem ja {t sl:Addr}{items:Array Value}{vl vu:Value}{lo hi:Option Int}{Q:Value->Shared->Prop}(ht:IsTup s.heap t items)(hs:s.heap.IsSliceOf sl vl vu .none)(pl:IsPart vl lo)(pu:IsPart vu hi)
   (hw:¬(sIx items.size 0 lo=0/\sIx items.size items.size hi=items.size))
   (h:Q (.ref s.heap.objs.size) { s with heap:=s.heap.push { cls:=.type "tuple",data:=.seq ((items.toList.drop (sIx items.size 0 lo)).take (sIx items.size items.size hi-sIx items.size 0 lo)).toArray } })
   (hsz:items.size<=sizeLine):wpAny (model prog w) A (getItem (.ref t) (.ref sl)) Q E s:=by
 have htake:sizeOk (.seq ((items.toList.drop (sIx items.size 0 lo)).take (sIx items.size items.size hi-sIx items.size 0 lo)).toArray):=by show ((items.toList.drop (sIx items.size 0 lo)).take (sIx items.size items.size hi-sIx items.size 0 lo)).toArray.size<=sizeLine;rw[Gu,GZ,J0,G8];omega
 have hj:sIx items.size items.size hi<=items.size:=Dx _ _ (ia _) hi;obtain⟨os,hos,hcs,hds⟩:=id hs;have hTs:s.TypeIs (.ref sl) "slice":=⟨os,hos,hcs⟩;unfold getItem
 try with_reducible refine wpAny_holding ?_
 first | refine wpAny_bind (wpAny_pure ?_) | skip
 refine wpAny_bind (wpAny_sequenceKey ht.typeIs (by decide) ?_)
 refine wpAny_bind (wpAny_callSpecial?_slot (name:=KZ "__getitem__") ht.typeIs Ka
   (wpAny_call_entry Ka ht.typeIs entry_tuple_getitem ?_ (args_tuple_getitem _ _)))
 show wpAny _ _ (Je (.ref t) >>= _) _ _ s;refine wpAny_bind (tupleItemsOf_ ht ?_);refine wpAny_bind (wpAny_typeOf hTs ?_);rw[if_pos (by decide)];refine wpAny_bind (jn hs pl pu ?_);have hno:¬((((sIx items.size 0 lo:Nat):Int)==0&&(1:Int)==1&&(sIx items.size items.size hi-sIx items.size 0 lo)==items.size)=true):=by intro q;rw[Hc,Hc]at q;have q1:((sIx items.size 0 lo:Nat):Int)=0:=eq_of_beq q.1.1;have q2:sIx items.size items.size hi-sIx items.size 0 lo=items.size:=eq_of_beq q.2;exact hw ⟨by omega,by omega⟩
 show wpAny _ _ (if (((sIx items.size 0 lo:Nat):Int)==0&&(1:Int)==1&&(sIx items.size items.size hi-sIx items.size 0 lo)==items.size)=true then _ else _) _ _ s;rw[if_neg hno,xn]
 first
   | exact wpAny_bind (m:=Iw _) (wpAny_newObj_type (wpAny_pure ⟨_,rfl,wpAny_pure h⟩) htake)
   | exact wpAny_bind (m:=Iw _) (wpAny_newObj_type (wpAny_bind (wpAny_pure (wpAny_pure ⟨_,rfl,wpAny_pure h⟩))) htake)
   | exact wpAny_bind (wpAny_bind (m:=Iw _) (wpAny_newObj_type (wpAny_pure (wpAny_pure ⟨_,rfl,wpAny_pure h⟩)) htake))
   | exact wpAny_bind (wpAny_bind (m:=Iw _) (wpAny_newObj_type (wpAny_pure ⟨_,rfl,wpAny_pure h⟩) htake))
end
end HT
namespace L2
open PySem PySem.Spec PyProof.Rows
noncomputable abbrev TO:=St->Hp->(Option Int->Hp->Prop)->Prop
def PO (X:Cx)(e:Option Expr)(t:TO):Prop:=
 ∀(pins:List (Addr×Obj)) (s:Shared) (σ:St) (H:Hp) (Q:Option Int->Hp->Prop),Inv X pins σ H s->t σ H Q ->
   wpAny (model X.prog X.w) X.A (evalPart e X.env) (λu s'=>∃o H',Inv X pins σ H' s'/\IsPart u o/\Q o H') X.xe s
def Ar:TO:=λ_ H Q=>Q none H
def Eg (t:TE):TO:=λσ H Q=>t σ H λx H1=>∃i,x=.int i/\Q (some i) H1
section
variable {X:Cx}{e:Expr}{te:TE}{lo hi:Option Expr}{tl th:TO}{pos p2:Pos}
theorem zY:PO X none Ar:=by intro pins s σ H Q I h;rw[evalPart_none];exact wpAny_pure ⟨none,H,I,.none,h⟩
theorem AQ (h:PE X e te):PO X (some e) (Eg te):=by intro pins s σ H Q I hw;rw[evalPart_some];refine thn (h pins s σ H _ I hw) λu s1 ⟨x,H1,I1,r1,q1⟩=>?_;obtain⟨i,rfl,q⟩:=q1;obtain⟨t,rfl⟩:=r1;exact⟨some i,H1,I1,.int i t,q⟩
def SlR (X:Cx)(r:V->Option Int->Option Int->Hp->VK->Prop):Prop:=
 ∀(pins:List (Addr×Obj)) (s:Shared) (σ:St) (H:Hp) (x:V) (v vl vu:Value) (lo hi:Option Int) (sl:Addr) (Q:VK),Inv X pins σ H s->RelV x v->s.heap.IsSliceOf sl vl vu .none->IsPart vl lo->IsPart vu hi->r x lo hi H Q ->
   ∃T id,typeLookup (.type T) "__getitem__" = pure (some (.builtin id))/\s.TypeIs v T/\wpAny (model X.prog X.w) X.A (getItem v (.ref sl)) (EP X pins σ Q) X.xe s
def tSl (r:V->Option Int->Option Int->Hp->VK->Prop)(te:TE)(tl th:TO):TE:=λσ H Q=>te σ H λx H1=>tl σ H1 λl H2=>th σ H2 λu H3=>r x l u H3 Q
theorem p6 {r:V->Option Int->Option Int->Hp->VK->Prop}(hr:SlR X r)(he:PE X e te)(hl:PO X lo tl)(hu:PO X hi th):PE X (.Subscript e (.Slice lo hi none p2) pos) (tSl r te tl th):=by intro pins s σ H Q I h;refine Subscript_ (thn (he pins s σ H _ I h) λv s1 ⟨x,H1,I1,r1,q1⟩=>?_);refine wpAny_Slice (thn (hl pins s1 σ H1 _ I1 q1) λvl s2 ⟨l,H2,I2,pl,q2⟩=>thn (hu pins s2 σ H2 _ I2 q2) λvu s3 ⟨u,H3,I3,pu,q3⟩=>?_);rw[evalPart_none];refine wpAny_pure ?_;have I4:Inv X pins σ H3 { s3 with heap:=s3.heap.push { cls:=.type "slice",data:=.fields #[vl,vu,.none] } }:=I3.kept (t':=s3.toks) λb ob q=>ip _ q;obtain⟨T,id,hT,ht,hg⟩:=hr pins { s3 with heap:=s3.heap.push { cls:=.type "slice",data:=.fields #[vl,vu,.none] } } σ H3 x v vl vu l u s3.heap.objs.size Q I4 r1 (Heap.IsSliceOf.new ..) pl pu q3;show wpAny (model X.prog X.w) X.A (subscriptTail e (.Slice lo hi none p2) v (.ref s3.heap.objs.size)) (EP X pins σ Q) X.xe { s3 with heap:=s3.heap.push { cls:=.type "slice",data:=.fields #[vl,vu,.none] } };exact tail_any (ops:=[.ref s3.heap.objs.size,v]) ht hT hg (by with_unfolding_all rfl)
noncomputable def ma (xs:List V)(lo hi:Option Int):List V:=(xs.drop (HT.sIx xs.length 0 lo)).take (HT.sIx xs.length xs.length hi-HT.sIx xs.length 0 lo)
theorem jO (xs:List V)(lo hi:Option Int):(ma xs lo hi).length<=xs.length:=by unfold ma;rw[GZ,J0];omega
noncomputable def FR (K:gV):V->Option Int->Option Int->Hp->VK->Prop:=λx lo hi H Q=>∃a xs,x=.ref a/\SqT K H a xs /\
 ¬(HT.sIx xs.length 0 lo=0/\HT.sIx xs.length xs.length hi=xs.length)/\∀p,H p=none->Q (.ref p) (upd H p (.tup (ma xs lo hi)))
theorem DM:SlR X (FR X.K):=by
 intro pins s σ H x v vl vu lo hi sl Q I rx hs pl pu h;obtain⟨a,xs,rfl,hx,hw,q⟩:=h;cases rx;obtain⟨its,r,ht,hz⟩:=I.tuple hx;have hlen:its.toArray.size=xs.length:=by rw[Gu]; exact r.length.symm
 refine⟨"tuple",_,PyProof.Rows.slot_tuple_getitem.lookup,ht.typeIs,?_⟩;refine HT.ja ht hs pl pu (by rw[hlen]; exact hw) ?_ (by rw[hlen]; exact hz);rw[hlen];refine⟨.ref s.heap.objs.size,_,I.laid (t':=s.toks) (o:=.tup (ma xs lo hi)) (λb ob q=>ip _ q) (ia _) ?_,rfl,q _ (I.hok.fresh (ia _))⟩;exact⟨GB (jO xs lo hi) hz,_,(r.drop (HT.sIx xs.length 0 lo)).take (HT.sIx xs.length xs.length hi-HT.sIx xs.length 0 lo),IsTup.new _ _⟩
noncomputable def Fn (K:gV):R2:=λx y H Q=>∃a b xs ys,x=.ref a/\y=.ref b/\SqT K H a xs/\SqT K H b ys/\xs≠[]/\xs.length+ys.length<=sizeLine /\
 (ys=[]->Q (.ref a) H)/\(ys≠[]->∀p,H p=none->Q (.ref p) (upd H p (.tup (xs++ys))))
theorem Vals.pH {xs:List V}{us:List Value}(r:Vals xs us):us=[]↔xs=[]:=by
 cases r with
 | nil=>simp
 | cons _ _=>simp
theorem A5:OpR X (binaryOp .Add) (Fn X.K):=by intro pins s σ H x y v u Q I rx ry h;obtain⟨a,b,xs,ys,rfl,rfl,ha,hb,hx,hz,q1,q2⟩:=h;cases rx;cases ry;obtain⟨its,r1,p1,_⟩:=I.tuple ha;obtain⟨its2,r2,p2,_⟩:=I.tuple hb;refine HT.As p1 p2 (λz=>hx (r1.pH.mp z)) (λz=>⟨.ref a,H,I,rfl,q1 (r2.pH.mp z)⟩) (λz=>?_) (by rw[<- r1.length,<- r2.length]; exact hz);refine⟨.ref s.heap.objs.size,_,I.laid (t':=s.toks) (o:=.tup (xs++ys)) (λb ob q=>ip _ q) (ia _) ?_,rfl,q2 (λw=>z (r2.pH.mpr w)) _ (I.hok.fresh (ia _))⟩;exact⟨by rw[vp]; exact hz,_,r1.append r2,IsTup.new _ _⟩
end
noncomputable def ixN (n:Nat)(i:Int):Option Nat:=if 0<=i then (if i<n then some i.toNat else none) else if -(n:Int)<=i then some (i+n).toNat else none
noncomputable def atI {α:Type}(xs:List α)(i:Int):Option α:=(ixN xs.length i).bind λj=>xs[j]?
theorem va {n:Nat}{i:Int}{j:Nat}(h:ixN n i=some j):seqIndex? i n=some j/\j<n/\-(n:Int)<=i/\i<n:=by
 unfold ixN at h;by_cases h0:0<=i
 . rw[if_pos h0]at h;by_cases h1:i<n
   . rw[if_pos h1]at h;have e:i.toNat=j:=GS h;exact⟨by rw[seqIndex_of h0 h1,e],by omega,by omega,h1⟩
   . rw[if_neg h1]at h; cases h
 . rw[if_neg h0]at h;by_cases h1:-(n:Int)<=i
   . rw[if_pos h1]at h;have e:(i+n).toNat=j:=GS h;exact⟨by rw[seqIndex_neg (by omega) h1,e],by omega,h1,by omega⟩
   . rw[if_neg h1]at h; cases h
theorem oe {α:Type}{xs:List α}{i:Int}{v:α}(h:atI xs i=some v):∃j,seqIndex? i xs.length=some j/\xs[j]?=some v/\j<xs.length/\-(xs.length:Int)<=i/\i<xs.length:=by
 unfold atI at h;cases e:ixN xs.length i with
 | none=>rw[e]at h; cases h
 | some j=>rw[e]at h;obtain⟨h1,h2,h3,h4⟩:=va e;exact⟨j,h1,h,h2,h3,h4⟩
def je (b:Expr):Prop:=∀o i,subscripted b false o i=operate [o,i] (getItem o i)
def IxR (X:Cx)(r:R2):Prop:=
 ∀(value slice:Expr) (pins:List (Addr×Obj)) (s:Shared) (σ:St) (H:Hp) (x y:V) (v u:Value) (Q:VK),Inv X pins σ H s->RelV x v->RelV y u->r x y H Q ->
   subscripted slice false v u=operate [v,u] (getItem v u)->wpAny (model X.prog X.w) X.A (subscriptTail value slice v u) (EP X pins σ Q) X.xe s
def MtR (X:Cx)(id:String)(r:V->List V->Hp->VK->Prop):Prop:=
 ∀(pins:List (Addr×Obj)) (s:Shared) (σ:St) (H:Hp) (x:V) (xs:List V) (v:Value) (us:List Value) (Q:VK),Inv X pins σ H s->RelV x v->Vals xs us->r x xs H Q ->
   wpAny (model X.prog X.w) X.A (call (.builtin id) (v::us)) (EP X pins σ Q) X.xe s
section
variable {X:Cx}{a b:Expr}{ta tb:TE}{pos:Pos}
theorem l6 {r:R2}(hr:IxR X r)(ha:PE X a ta)(hb:PE X b tb)(hs:je b):PE X (.Subscript a b pos) (tOp r ta tb):=by intro pins s σ H Q I h;exact Subscript_ (DH ha hb I h λv u s2 x y H2 I2 rx ry q=>hr a b pins s2 σ H2 x y v u Q I2 rx ry q (hs _ _))
noncomputable def F2 (K:gV):R2:=λx y H Q=>∃p xs i v,x=.ref p/\y=.int i/\SqL K H p xs/\atI xs i=some v/\Q v H
noncomputable def F7 (K:gV):R2:=λx y H Q=>∃p xs i v,x=.ref p/\y=.int i/\SqT K H p xs/\atI xs i=some v/\Q v H
noncomputable def Gn:R2:=λx y H Q=>∃z i c,x=.str z/\y=.int i/\z.length<=sizeLine/\atI z.cps.toList i=some c/\Q (.str ⟨#[c]⟩) H
theorem oy:IxR X (F2 X.K):=by
 intro value slice pins s σ H x y v u Q I rx ry h hs;obtain⟨p,xs,i,z,rfl,rfl,hq,he,q⟩:=h;cases rx;obtain⟨t,rfl⟩:=ry;obtain⟨its,r,pl,hz⟩:=I.list hq;obtain⟨j,h1,h2,h3,h4,h5⟩:=oe he;obtain⟨w,ew,rw'⟩:=r.get h2;have hl:=r.length;have hn:=jF;have fin:EP X pins σ Q w s:=⟨z,H,I,rw',q⟩;by_cases h0:0<=i
 . have hj:i.toNat=j:=by rw[seqIndex_of h0 h5]at h1;exact GS h1
   exact item_listR pl.isList h0 (by omega) (by rw[hj]; simpa using ew) fin hs
 . have hj:(i+(its.toArray.size:Int)).toNat=j:=by rw[seqIndex_neg (by omega) h4]at h1;rw[Gu,<- hl];exact GS h1
   exact subscriptTail_builtinR (x:=w) pl.isList.typeIs slot_list_getitem.lookup
     (wpAny_getItem_list_neg (Q:=λr s'=>r=w/\EP X pins σ Q r s') pl.isList (by omega) (by rw[Gu] <;> omega) (by omega) (by rw[hj]; simpa using ew) ⟨rfl,fin⟩) hs
theorem me:IxR X (F7 X.K):=by
 intro value slice pins s σ H x y v u Q I rx ry h hs;obtain⟨p,xs,i,z,rfl,rfl,hq,he,q⟩:=h;cases rx;obtain⟨t,rfl⟩:=ry;obtain⟨its,r,pl,hz⟩:=I.tuple hq;obtain⟨j,h1,h2,h3,h4,h5⟩:=oe he;obtain⟨w,ew,rw'⟩:=r.get h2;have hl:=r.length;have hn:=jF;have fin:EP X pins σ Q w s:=⟨z,H,I,rw',q⟩
 exact subscriptTail_builtinR (x:=w) pl.typeIs slot_tuple_getitem.lookup
   (getItem_tuple (j:=j) (Q:=λr s'=>r=w/\EP X pins σ Q r s') pl (by omega) (by omega) (by rw[Gu,<- hl]; exact h1) (by simpa using ew) ⟨rfl,fin⟩) hs
theorem BX:IxR X Gn:=by
 intro value slice pins s σ H x y v u Q I rx ry h hs;obtain⟨z,i,c,rfl,rfl,hz,he,q⟩:=h;obtain⟨t,rfl⟩:=rx;obtain⟨t',rfl⟩:=ry;obtain⟨j,h1,h2,h3,h4,h5⟩:=oe he;have hl:z.cps.toList.length=z.length:=by simp[Str.length]
 rw[hl]at h1 h4 h5;have hn:=jF
 exact tail_any (typeIs_str s z t) slot_str_getitem.lookup (getItem_str (c:=c) (by
   have e1:decide (i < -(2^63:Int))=false:=decide_eq_false (by omega);have e2:decide (i ≥ 2^63)=false:=decide_eq_false (by omega);rw[e1,e2,JT]) (by rw[h1]; simpa using h2) ⟨.str ⟨#[c]⟩,H,I.tok _,⟨_,rfl⟩,q⟩) hs
theorem sW (its:List Value)(n j:Nat)(u:Value):KS (·.setIfInBounds j u) { cls:=.type "list",data:=.seq its.toArray n }={ cls:=.type "list",data:=.seq (its.set j u).toArray n }:=by simp[KS]
theorem Inv.lst {pins:List (Addr×Obj)}{σ:St}{H:Hp}{s:Shared}{p:Addr}{xs:List V}(I:Inv X pins σ H s)(h:H p=some (.lst xs)):
   ∃(its:List Value) (n:Nat),Vals xs its/\s.heap.get? p=some { cls:=.type "list",data:=.seq its.toArray n }/\xs.length<=sizeLine:=by
 obtain⟨z,its,n,r,e⟩:=I.hok p _ h;exact⟨its,n,r,e,z⟩
theorem Inv.DI {pins:List (Addr×Obj)}{σ:St}{H:Hp}{s:Shared}{p:Addr}{xs ys:List V}{its its':List Value}{n n':Nat}{f:Obj->Obj}(I:Inv X pins σ H s)(h:H p=some (.lst xs))
   (ho:s.heap.get? p=some { cls:=.type "list",data:=.seq its.toArray n }) (hf:f { cls:=.type "list",data:=.seq its.toArray n }={ cls:=.type "list",data:=.seq its'.toArray n' }) (r:Vals ys its') (hz:ys.length<=sizeLine) (t:Nat) :
   Inv X pins σ (upd H p (.lst ys)) { s with heap:=s.heap.update p f,toks:=t }:=by
 have e:(s.heap.update p f).get? p=some { cls:=.type "list",data:=.seq its'.toArray n' }:=by rw[J7 f ho (by rw[hf] <;> rfl),hf]
 refine I.write (x:=p) (e:=p) (by rw[h]; trivial) (.inl rfl) (λb u hb q=>(J3 _ _ (Hi hb)).trans q) ⟨_,e⟩ ?_;exact⟨hz,its',n',r,e⟩
noncomputable def Fx:V->V->V->Hp->(Hp->Prop)->Prop:=λo i v H Q=>∃p xs k j,o=.ref p/\i=.int k/\H p=some (.lst xs)/\ixN xs.length k=some j/\Q (upd H p (.lst (xs.set j v)))
theorem set_list:D6 X Fx:=by
 intro pins s σ H o i v ov iv u Q I ro ri rv h;obtain⟨p,xs,k,j,rfl,rfl,hp,hj,q⟩:=h;cases ro;obtain⟨t,rfl⟩:=ri;obtain⟨its,n,r,ho,hz⟩:=I.lst hp;obtain⟨h1,h2,h3,h4⟩:=va hj;have hl:=r.length;have hn:=jF;have I':Inv X pins σ (upd H p (.lst (xs.set j v))) { s with heap:=s.heap.update p (KS (·.setIfInBounds j u)) }:=I.DI hp ho (sW its n j u) (r.set rv j) (by rw[G7]; exact hz) s.toks;by_cases h0:0<=k
 . have hk:k.toNat=j:=by rw[seqIndex_of h0 h4]at h1;exact GS h1
   exact PySem.W.ki_setAt ho h0 (by omega) (by rw[Gu,<- hl]; exact h4) (by rw[hk]; exact⟨_,I',q⟩)
 . have hk:(k+(its.toArray.size:Int)).toNat=j:=by rw[seqIndex_neg (by omega) h3]at h1;rw[Gu,<- hl];exact GS h1
   exact PySem.W.ki_setBack ho (by omega) (by rw[Gu,<- hl]; exact h3) (by omega) (by rw[hk]; exact⟨_,I',q⟩)
theorem nW (lo hi:Option Int)(n:Nat):(sliceBounds lo hi none n).1=((HT.sIx n 0 lo:Nat):Int)/\(sliceBounds lo hi none n).2.1=((HT.sIx n n hi:Nat):Int)/\(sliceBounds lo hi none n).2.2=1:=by
 refine⟨?_,?_,rfl⟩
 . cases lo with
   | none=>simp[sliceBounds,HT.sIx]
   | some i=>
     simp only[sliceBounds,HT.sIx,Option.getD_none,show (1:Int)>0 by decide,if_true];by_cases h:i<0
     . simp only[h,if_true] <;> omega
     . simp only[h,if_false] <;> omega
 . cases hi with
   | none=>simp[sliceBounds,HT.sIx]
   | some i=>
     simp only[sliceBounds,HT.sIx,Option.getD_none,show (1:Int)>0 by decide,if_true];by_cases h:i<0
     . simp only[h,if_true] <;> omega
     . simp only[h,if_false] <;> omega
theorem mh (its:List Value)(lo hi:Option Int):slicePick its.toArray lo hi none=((its.drop (HT.sIx its.length 0 lo)).take (HT.sIx its.length its.length hi-HT.sIx its.length 0 lo)).toArray:=by obtain⟨h1,h2,h3⟩:=nW lo hi its.toArray.size;unfold slicePick;rw[h1,h2,h3];simp only[sliceRange_one,pick_run,Gu] <;> rfl
noncomputable def Gh (K:gV):V->Option Int->Option Int->Hp->VK->Prop:=λx lo hi H Q=>∃a xs,x=.ref a/\SqL K H a xs/\∀p,H p=none->Q (.ref p) (upd H p (.lst (ma xs lo hi)))
theorem AL:SlR X (Gh X.K):=by intro pins s σ H x v vl vu lo hi sl Q I rx hs pl pu h;obtain⟨a,xs,rfl,hx,q⟩:=h;cases rx;obtain⟨its,r,ht,hz⟩:=I.list hx;have hlen:=r.length;refine⟨"list",_,slot_list_getitem.lookup,ht.isList.typeIs,?_⟩;refine wpAny_getItem_list_slice ht.isList hs pl pu .none (by simp) ?_ (by rw[Gu] <;> omega);rw[mh,<- hlen];refine⟨.ref s.heap.objs.size,_,I.laid (t':=s.toks) (o:=.lst (ma xs lo hi)) (λb ob q=>ip _ q) (ia _) ?_,rfl,q _ (I.hok.fresh (ia _))⟩;exact⟨GB (jO xs lo hi) hz,_,0,(r.drop (HT.sIx xs.length 0 lo)).take (HT.sIx xs.length xs.length hi-HT.sIx xs.length 0 lo),Et _ rfl⟩
noncomputable def jP:V->Bool
 | .non=>true
 | .bl _=>true
 | .int _=>true
 | .str _=>true
 | _=>false
noncomputable def eqV:V->V->Bool
 | .non,.non=>true
 | .bl a,.bl b=>a==b
 | .bl a,.int b=>(if a then 1 else 0)==b
 | .int a,.bl b=>a==(if b then 1 else 0)
 | .int a,.int b=>a==b
 | .str a,.str b=>a==b
 | _,_=>false
theorem CY {A:Around}{s:Shared}{y x:V}{u v:Value}(ry:RelV y u)(rx:RelV x v)(fy:jP y=true)(fx:jP x=true):SeqAt.EqAt A s u v (eqV y x):=by
 cases y with
 | non=>
   cases ry;cases x with
   | non=>cases rx; exact SeqAt.EqAt.same _
   | bl b=>cases rx; exact SeqAt.EqAt.none_bool b
   | int b=>obtain⟨t,rfl⟩:=rx; exact SeqAt.EqAt.none_int b t
   | str b=>obtain⟨t,rfl⟩:=rx; exact SeqAt.EqAt.none_str b t
   | _=>exact absurd (show false=true from fx) xa
 | bl a=>
   cases ry;cases x with
   | non=>cases rx; exact SeqAt.EqAt.bool_none a
   | bl b=>cases rx; exact SeqAt.EqAt.bool_bool a b
   | int b=>obtain⟨t,rfl⟩:=rx; exact SeqAt.EqAt.bool_int a b t
   | str b=>obtain⟨t,rfl⟩:=rx; exact SeqAt.EqAt.bool_str a b t
   | _=>exact absurd (show false=true from fx) xa
 | int a=>
   obtain⟨t',rfl⟩:=ry;cases x with
   | non=>cases rx; exact SeqAt.EqAt.int_none a t'
   | bl b=>cases rx; exact SeqAt.EqAt.int_bool a t' b
   | int b=>obtain⟨t,rfl⟩:=rx; exact SeqAt.EqAt.int_int a t' b t
   | str b=>obtain⟨t,rfl⟩:=rx; exact Lu a t' b t
   | _=>exact absurd (show false=true from fx) xa
 | str a=>
   obtain⟨t',rfl⟩:=ry;cases x with
   | non=>cases rx; exact SeqAt.EqAt.str_none a t'
   | bl b=>cases rx; exact SeqAt.EqAt.str_bool a t' b
   | int b=>obtain⟨t,rfl⟩:=rx; exact Lr a t' b t
   | str b=>obtain⟨t,rfl⟩:=rx; exact SeqAt.EqAt.str_str a t' b t
   | _=>exact absurd (show false=true from fx) xa
 | _=>exact absurd (show false=true from fy) xa
noncomputable def eqU (x:V)(u:Value):Bool:=match u with
 | .none=>eqV .non x
 | .bool b=>eqV (.bl b) x
 | .int i _=>eqV (.int i) x
 | .str z _=>eqV (.str z) x
 | _=>false
theorem yJ {x y:V}{u:Value}(r:RelV y u)(f:jP y=true):eqU x u=eqV y x:=by
 cases y with
 | non=>cases r; rfl
 | bl b=>cases r; rfl
 | int i=>obtain⟨t,rfl⟩:=r; rfl
 | str z=>obtain⟨t,rfl⟩:=r; rfl
 | _=>exact absurd (show false=true from f) xa
theorem pT {x:V}:∀{xs:List V} {us:List Value},Vals xs us->xs.all jP=true->us.any (eqU x)=xs.any λy=>eqV y x
 | _,_,.nil,_=>rfl
 | y::xs,u::us,.cons r t,f=>by rw[KA,Hc]at f;rw[IU,IU,yJ r f.1,pT t f.2]
theorem kN {A:Around}{s:Shared}{x:V}{v:Value}(rx:RelV x v)(fx:jP x=true):∀{xs:List V} {us:List Value},Vals xs us->xs.all jP=true->∀u∈us,SeqAt.EqAt A s u v (eqU x u)
 | _,_,.nil,_=>λu hu=>by cases hu
 | y::xs,u::us,.cons r t,f=>λu' hu=>by
   rw[KA,Hc]at f;rcases xb.mp hu with rfl | hu
   . rw[yJ r f.1]; exact CY r rx f.1 fx
   . exact kN rx fx t f.2 u' hu
noncomputable def inV (x:V)(xs:List V):Bool:=xs.any λy=>eqV y x
noncomputable def rIn (K:gV)(neg:Bool):R2:=λx y H Q=>∃p xs,y=.ref p/\(SqL K H p xs\/SqT K H p xs)/\jP x=true/\xs.all jP=true/\Q (.bl (if neg then !inV x xs else inV x xs)) H
theorem wW:OpR X (compareOp .In) (rIn X.K false):=by
 intro pins s σ H x y v u Q I rx ry h;obtain⟨p,xs,rfl,hq,fx,fs,q⟩:=h;cases ry;rcases hq with hq | hq
 . obtain⟨its,r,pl,hz⟩:=I.list hq;refine SeqAt.in_listAt (eqU x) pl.isList (λw hw=>kN rx fx r fs w (by simpa using hw)) ⟨.bl _,H,I,rfl,?_⟩;rw[show its.toArray.any (eqU x)=its.any (eqU x) by simp,pT r fs];exact q
 . obtain⟨its,r,pl,hz⟩:=I.tuple hq;refine SeqAt.in_tupleAt (eqU x) pl (λw hw=>kN rx fx r fs w (by simpa using hw)) ⟨.bl _,H,I,rfl,?_⟩;rw[show its.toArray.any (eqU x)=its.any (eqU x) by simp,pT r fs];exact q
theorem iT:cX X (.builtin "len") (λxs H Q=>∃p ys,xs=[.ref p]/\(SqL X.K H p ys\/SqT X.K H p ys)/\Q (.int ys.length) H):=by
 intro pins s σ H xs us Q I r h;obtain⟨p,ys,rfl,hq,q⟩:=h;obtain⟨u,rfl,rx⟩:=vals1 r;cases rx;have hn:=jF;rcases hq with hq | hq
 . obtain⟨its,r',pl,hz⟩:=I.list hq;have hlen:=r'.length;exact Calls.call_len_list pl.isList (by simp only[Gu] <;> omega) ⟨.int ys.length,H,I.tok _,⟨s.toks+1,by rw[Gu,hlen]⟩,q⟩
 . obtain⟨its,r',pl,hz⟩:=I.tuple hq;have hlen:=r'.length;exact len_tuple pl (by simp only[Gu] <;> omega) ⟨.int ys.length,H,I.tok _,⟨s.toks+1,by rw[Gu,hlen]⟩,q⟩
theorem pM:cX X (.builtin "len") (λxs H Q=>∃z,xs=[.str z]/\z.length<=sizeLine/\Q (.int z.length) H):=by intro pins s σ H xs us Q I r h;obtain⟨z,rfl,hz,q⟩:=h;obtain⟨u,rfl,t,rfl⟩:=vals1 r;have hn:=jF;exact len_str (by omega) ⟨.int z.length,H,I.tok _,⟨_,rfl⟩,q⟩
theorem jb:cX X (.type "list") (λxs H Q=>∃p ys,xs=[.ref p]/\(SqL X.K H p ys\/SqT X.K H p ys)/\∀l,H l=none->Q (.ref l) (upd H l (.lst ys))):=by
 intro pins s σ H xs us Q I r h;obtain⟨p,ys,rfl,hq,q⟩:=h;obtain⟨u,rfl,rx⟩:=vals1 r;cases rx
 have fin:∀(its:List Value),Vals ys its->ys.length<=sizeLine->∀(h':Heap) (c':Nat),(∀b o',s.heap.get? b=some o'->h'.get? b=some o') ->
     h'.get? s.heap.objs.size=some { cls:=.type "list",dict:=none,data:=.seq its.toArray c',slots:=#[] }->EP X pins σ Q (.ref s.heap.objs.size) { s with heap:=h' }:=λits r' hz h' c' kp e=>
   ⟨.ref s.heap.objs.size,_,I.laid (t':=s.toks) kp (ia _) (show bj X.prog X.w _ h' _ (.lst ys) from⟨hz,its,c',r',e⟩),rfl,q _ (I.hok.fresh (ia _))⟩
 rcases hq with hq | hq
 . obtain⟨its,r',pl,hz⟩:=I.list hq;have hlen:=r'.length;obtain⟨o,ho,hc,n,hd⟩:=pl.isList;exact call_list_seq p (.inl rfl) ho hc hd (λh' c' kp e=>fin its r' hz h' c' kp e) (by simp only[Gu] <;> omega)
 . obtain⟨its,r',pl,hz⟩:=I.tuple hq;have hlen:=r'.length;obtain⟨o,ho,hc,n,hd⟩:=pl;exact call_list_seq p (.inr rfl) ho hc hd (λh' c' kp e=>fin its r' hz h' c' kp e) (by simp only[Gu] <;> omega)
def tyV (K:gV)(T:String)(x:V)(H:Hp):Prop:=match x with
 | .str _=>T = "str"
 | .int _=>T = "int"
 | .ref p=>(T = "list" /\ ∃xs,SqL K H p xs)\/(T = "tuple" /\ ∃o,K.lookup p=some o/\o.cls=.type "tuple" /\ o.dict=none) \/
     (T = "dict" /\ ((∃kvs,H p=some (.dK kvs))\/∃kvs,H p=some (.dT kvs)))\/(T = "set" /\ ∃S n,H p=some (.set S n))
 | _=>False
theorem w9 {pins:List (Addr×Obj)}{σ:St}{H:Hp}{s:Shared}{T:String}{x:V}{v:Value}(I:Inv X pins σ H s)(r:RelV x v)(ty:tyV X.K T x H):
   s.TypeIs v T/\∀a,v=.ref a->∃ob,s.heap.get? a=some ob/\ob.dict=none:=by
 cases x with
 | str z=>obtain⟨t,rfl⟩:=r;cases (show T = "str" from ty);exact⟨typeIs_str s z t,λ_ e=>nomatch e⟩
 | int i=>obtain⟨t,rfl⟩:=r;cases (show T = "int" from ty);exact⟨typeIs_int s i t,λ_ e=>nomatch e⟩
 | ref p=>
   cases r;rcases ty with ⟨rfl,xs,hq⟩ | ⟨rfl,o,hk,hc,hd⟩ | ⟨rfl,hk⟩ | ⟨rfl,S,n,hk⟩
   . obtain⟨its,_,pl,_⟩:=I.list hq;refine⟨pl.isList.typeIs,λa e=>?_⟩;cases e;obtain⟨o,n,e,c,hd,_⟩:=pl;exact⟨o,e,hd⟩
   . refine⟨⟨o,I.kIn p o hk,hc⟩,λa e=>?_⟩;cases e;exact⟨o,I.kIn _ o hk,hd⟩
   . have z:∃o,s.heap.get? p=some o/\o.ExactDict:=by
       rcases hk with ⟨kvs,hk⟩ | ⟨kvs,hk⟩
       . obtain⟨_,_,_,_,o,_,_,e,ex,_⟩:=I.hok p _ hk;exact⟨o,e,ex⟩
       . obtain⟨_,_,_,_,o,_,_,e,ex,_⟩:=I.hok p _ hk;exact⟨o,e,ex⟩
     obtain⟨o,e,ex⟩:=z;refine⟨⟨o,e,ex.1⟩,λa e2=>?_⟩;cases e2;exact⟨o,e,ex.2.1⟩
   . obtain⟨o,_,_,_,e,ex,_⟩:=I.hok p _ hk;refine⟨⟨o,e,ex.1⟩,λa e2=>?_⟩;cases e2;exact⟨o,e,ex.2.1⟩
 | _=>exact Ie ty
def F0 (K:gV)(T:String)(r:V->List V->Hp->VK->Prop)(to:TE):TE:=λσ H Q=>to σ H λx H1=>tyV K T x H1/\r x [] H1 Q
def tBM (K:gV)(T:String)(r:V->List V->Hp->VK->Prop)(to:TE)(t:TA):TE:=λσ H Q=>to σ H λx H1=>tyV K T x H1/\t σ H1 λxs H2=>r x xs H2 Q
variable {o e:Expr}{es:List Expr}{to:TE}{t:TA}{name:Str}{apos cpos:Pos}{T id:String}{r:V->List V->Hp->VK->Prop}
theorem Dt (pa:PlainAttrs T)(slot:Slot T name id)(hty:typeOf (.builtin id)=pure (.type "method_descriptor"))(hm:MtR X id r)(ho:PE X o to)
   (hbase:attributeBase o name X.env (eval o X.env)=eval o X.env:=by rfl) (hline:(apos.endLine==cpos.line)=true:=by rfl):PE X (.Call (.Attribute o name apos) [] [] cpos) (F0 X.K T r to):=by
 intro pins s σ H Q I h;refine wpAny_Call_method0_late hbase hline (thn (ho pins s σ H _ I h) λv s1 ⟨x,H1,I1,r1,ty,q1⟩=>?_);obtain⟨h1,h2⟩:=w9 I1 r1 ty;exact⟨T,id,pa,slot,hty,h1,h2,Im rfl (PySem.evalArgs_none (hm pins s1 σ H1 x [] v [] Q I1 r1 .nil q1))⟩
theorem vC (pa:PlainAttrs T)(slot:Slot T name id)(hty:typeOf (.builtin id)=pure (.type "method_descriptor"))(hm:MtR X id r)(ho:PE X o to)(ha:PA X (e::es) t)
   (hbase:attributeBase o name X.env (eval o X.env)=eval o X.env:=by rfl)
   (hfew:((backTo cpos (starEach (e::es) X.env)).all (λx=>!x.1)&&(backToKw cpos (keywordEach [] X.env)).all (λx=>x.1.isSome)
     && decide ((e::es).length+([]:List Keyword).length+(if ([]:List Keyword).isEmpty then 0 else 1)<30))=true:=by rfl)
   (hline:(apos.endLine==cpos.line)=true:=by rfl) (hs:starEach (e::es) X.env=(false,eval e X.env)::starEach es X.env:=by rfl) (hplain:(backTo cpos (starEach es X.env)).any (·.1)=false:=by rfl) :
   PE X (.Call (.Attribute o name apos) (e::es) [] cpos) (tBM X.K T r to t):=by
 intro pins s σ H Q I h;refine wpAny_Call_method_late hbase hfew hline rfl (thn (ho pins s σ H _ I h) λv s1 ⟨x,H1,I1,r1,ty,q1⟩=>?_);obtain⟨h1,h2⟩:=w9 I1 r1 ty;refine⟨T,id,pa,slot,hty,h1,h2,?_⟩;have hA:=ha cpos pins s1 σ H1 _ I1 q1;rw[hs]at hA ⊢;refine Im (by show (false||(backTo cpos (starEach es X.env)).any (·.1))=false; rw[hplain] <;> rfl) (Kh ?_);exact thn hA λus s2 ⟨vs,H2,I2,r2,q2⟩=>hm pins s2 σ H2 x vs v us Q I2 r1 r2 q2
end
def MtM (X:Cx)(id:String)(r:V->List V->Hp->VK->Prop):Prop:=
 ∀(pins:List (Addr×Obj)) (s:Shared) (σ:St) (H:Hp) (x:V) (xs:List V) (v:Value) (us:List Value) (Q:VK),Inv X pins σ H s->RelV x v->Vals xs us->r x xs H Q ->
   wpAny (model X.prog X.w) X.A (call (.builtin id) (v::us)) (EP X pins σ Q) X.xe s
theorem Vals.one:∀{x:V} {us:List Value},Vals [x] us->∃u,us=[u]/\RelV x u
 | _,_,.cons r .nil=>⟨_,rfl,r⟩
theorem Vals.zero:∀{us:List Value},Vals [] us->us=[]
 | _,.nil=>rfl
theorem Vals.eraseIdx:∀{xs:List V} {us:List Value} (i:Nat),Vals xs us->Vals (xs.eraseIdx i) (us.eraseIdx i)
 | _,_,_,.nil=>.nil
 | _,_,0,.cons _ t=>t
 | _,_,i+1,.cons r t=>.cons r (Vals.eraseIdx i t)
theorem Vals.rep {xs:List V}{us:List Value}(h:Vals xs us):∀k:Nat,Vals (GA k xs).flatten (GA k us).flatten
 | 0=>.nil
 | k+1=>by rw[Hk,Hk,HA,HA];exact Vals.append h (Vals.rep h k)
theorem nu {α:Type}:∀(l:List α) (i:Nat),(l.eraseIdx i).length<=l.length
 | [],_=>ia _
 | _::_,0=>HH _
 | _::r,i+1=>K9 (nu r i)
theorem foldl_rep (its:List Value):∀(k:Nat) (acc:List Value),
   List.foldl (λx1 x2=>x1++x2) acc.toArray (GA k its.toArray)=(acc++(GA k its).flatten).toArray
 | 0,acc=>by simp
 | k+1,acc=>by
   have e:acc.toArray++its.toArray=(acc++its).toArray:=by simp
   have e2:(acc++its)++(GA k its).flatten=acc++(GA (k+1) its).flatten:=by rw[Hk,HA,Ht]
   rw[<- e2,<- foldl_rep its k (acc++its),<- e,Hk,IT]
section
variable {X:Cx}{pins:List (Addr×Obj)}{σ:St}{H:Hp}{s:Shared}{l:Addr}{xs ys:List V}
theorem Inv.Ak {its its':List Value}{n:Nat}{f:Array Value->Array Value}{t':Nat}(I:Inv X pins σ H s)(hH:H l=some (.lst xs))
   (e:s.heap.get? l=some { cls:=.type "list",data:=.seq its.toArray n }) (hf:f its.toArray=its'.toArray) (hv:Vals ys its') (hz:ys.length<=sizeLine) :
   Inv X pins σ (upd H l (.lst ys)) { s with heap:=s.heap.update l (KS f),toks:=t' }:=by
 have q:=PySem.IsL.update e f;rw[hf]at q;refine I.write (x:=l) (e:=l) (by rw[hH]; exact trivial) (.inl rfl) (λb' u hb hu=>(J3 s.heap (KS f) (Hi hb)).trans hu) ⟨_,q⟩ ?_;exact⟨hz,its',_,hv,q⟩
theorem Inv.E2 {its:List Value}{t':Nat}(I:Inv X pins σ H s)(hv:Vals ys its)(hz:ys.length<=sizeLine):
   Inv X pins σ (upd H s.heap.objs.size (.lst ys)) { s with heap:=s.heap.push { cls:=.type "list",data:=.seq its.toArray },toks:=t' }:=
 I.laid (λ_ _ q=>ip _ q) (ia _) ⟨hz,its,0,hv,Et _ rfl⟩
theorem Inv.fresh (I:Inv X pins σ H s):H s.heap.objs.size=none:=I.hok.fresh (ia _)
theorem Inv.ym (I:Inv X pins σ H s)(hH:H l=some (.lst xs)):xs.length<=sizeLine/\∃(its:List Value) (n:Nat),Vals xs its/\xs.length=its.length/\s.heap.get? l=some { cls:=.type "list",data:=.seq its.toArray n }:=by obtain⟨z,its,n,r,e⟩:=I.hok l _ hH;exact⟨z,its,n,r,r.length,e⟩
theorem qk {n:Nat}(h:n<=sizeLine):Jr n=false:=by unfold Builtin.List.listTooLong;exact decide_eq_false (by omega)
end
section
variable {X:Cx}
noncomputable def AV:V->List V->Hp->VK->Prop:=λx vs H Q=>∃l xs y,x=.ref l/\vs=[y]/\H l=some (.lst xs)/\xs.length<sizeLine/\Q .non (upd H l (.lst (xs++[y])))
theorem gL:MtM X "list.append" AV:=by intro pins s σ H x vs v us Q I rx rv h;obtain⟨l,xs,y,rfl,rfl,hH,hz,q⟩:=h;cases rx;obtain⟨u,rfl,ru⟩:=rv.one;obtain⟨z,its,n,r,hl,e⟩:=I.ym hH;refine call_meets JY ⟨_,e,rfl⟩ F.entry_list_append (F.args_list_append_2 _ _) (PySem.list_append l its.toArray n u (by rw[Gu]; omega)) ⟨e,?_⟩;refine⟨.non,_,I.Ak (its':=its++[u]) hH e (by simp) (r.append (.cons ru .nil)) ?_,rfl,q⟩;rw[vp,Kb];omega
noncomputable def AZ:V->List V->Hp->VK->Prop:=λx vs H Q=>∃l b xs zs,x=.ref l/\vs=[.ref b]/\H l=some (.lst xs)/\H b=some (.lst zs)/\xs.length+zs.length<=sizeLine/\Q .non (upd H l (.lst (xs++zs)))
theorem wc:MtM X "list.extend" AZ:=by
 intro pins s σ H x vs v us Q I rx rv h;obtain⟨l,b,xs,zs,rfl,rfl,hH,hB,hz,q⟩:=h;cases rx;obtain⟨u,rfl,ru⟩:=rv.one;cases ru;obtain⟨z,its,n,r,hl,e⟩:=I.ym hH;obtain⟨z2,its2,n2,r2,hl2,e2⟩:=I.ym hB;have hsz:its.toArray.size+its2.toArray.size<=sizeLine:=by rw[Gu,Gu]; omega
 have hlong:¬(!its.toArray.isEmpty&&Jr (its.toArray.size+its2.toArray.size))=true:=by rw[qk hsz,Bool.and_false];exact xa
 refine call_meets F.slot_list_extend ⟨_,e,rfl⟩ F.entry_list_extend (F.args_list_extend_2 _ _)
   (AutoSeq1.list_extend_list_list_0 l its.toArray n b its2.toArray n2 hlong (by rw[Gu]; omega) (by omega)) ⟨e,e2,?_⟩
 refine⟨.non,_,I.Ak (its':=its++its2) hH e (by simp) (r.append r2) ?_,rfl,q⟩;rw[vp];omega
noncomputable def DS:V->List V->Hp->VK->Prop:=λx vs H Q=>∃l xs i k y,x=.ref l/\vs=[.int i]/\H l=some (.lst xs)/\-(2^63)<=i/\i<2^63/\seqIndex? i xs.length=some k/\xs[k]?=some y/\Q y (upd H l (.lst (xs.eraseIdx k)))
theorem yw:MtM X "list.pop" DS:=by
 intro pins s σ H x vs v us Q I rx rv h;obtain⟨l,xs,i,k,y,rfl,rfl,hH,h1,h2,hk,hy,q⟩:=h;cases rx;obtain⟨u,rfl,ru⟩:=rv.one;obtain⟨t,rfl⟩:=ru;obtain⟨z,its,n,r,hl,e⟩:=I.ym hH;obtain⟨w,hw,rw'⟩:=r.get hy
 refine call_meets F.slot_list_pop ⟨_,e,rfl⟩ F.entry_list_pop (F.args_list_pop_2 _ _)
   (MeetsSeq.list_pop_at l its.toArray n i t k w (fitsIndex_both h1 h2) (by rw[Gu,<- hl]; exact hk) (by rw[<- Jg]; exact hw) (by rw[Gu]; omega)) ⟨e,?_⟩
 refine⟨y,_,I.Ak (its':=its.eraseIdx k) hH e ?_ (r.eraseIdx k) ?_,rw',q⟩
 . show its.toArray.eraseIdxIfInBounds k=(its.eraseIdx k).toArray;rw[List.eraseIdxIfInBounds_toArray]
 . have:=nu xs k;omega
noncomputable def CD:V->List V->Hp->VK->Prop:=λx vs H Q=>∃l xs,x=.ref l/\vs=[]/\H l=some (.lst xs)/\Q .non (upd H l (.lst []))
theorem w4:MtM X "list.clear" CD:=by intro pins s σ H x vs v us Q I rx rv h;obtain⟨l,xs,rfl,rfl,hH,q⟩:=h;cases rx;have hus:=rv.zero;subst hus;obtain⟨z,its,n,r,hl,e⟩:=I.ym hH;refine call_meets F.slot_list_clear ⟨_,e,rfl⟩ F.entry_list_clear (F.args_list_clear_1 _) (AutoSeq1.list_clear_list_0 l its.toArray n (by rw[Gu]; omega)) ⟨e,?_⟩;exact⟨.non,_,I.Ak (its':=[]) (ys:=[]) hH e rfl .nil (G5 _),rfl,q⟩
theorem len_rep {α:Type}(xs:List α)(k:Nat):(GA k xs).flatten.length=k*xs.length:=by
 induction k with
 | zero=>simp
 | succ k ih=>rw[Hk,HA,vp,ih,Ij,Nat.add_comm]
end
end L2
namespace Att
open PySem PySem.W PySem.Calls PyProof.Rows
theorem j6 {P:Params}{h:Heap}:∀(ns:List Int) (vs:List Value),WellAll P h vs (ns.map WData.int)->IntsAre vs ns:=by
 intro ns;induction ns with
 | nil=>intro vs w;rw[KU]at w;cases w;exact .nil
 | cons n ns ih=>
   intro vs w;rw[GP]at w;cases w with
   | cons a b=>cases a;exact .cons _ _ (ih _ b)
theorem wd {l:OpenLaw}{n:Nat}(hn:l.most=some n){P:Params}{h:Heap}{args:List WData}{vals:List Value}
   (hpre:l.row.toRowW.claim.pre args=true) (hwl:WellAll P h vals args) :
   ∃a vs ns,vals=[GI a]/\args=[WData.list (ns.map WData.int)]/\h.get? a=some { cls:=.type "list",data:=.seq vs.toArray }/\IntsAre vs ns/\ns.length<=n:=by
 have hsh:WShape.hasAll [] args [.list .int]=true:=(pre_splitW hpre).1;have hc:l.pre.holds [] { args:=args }=true:=(pre_splitW hpre).2;obtain⟨d,r,rfl,h1,h2⟩:=hasAllW_cons hsh;obtain rfl:=hasAllW_nil h2;obtain⟨xs,rfl,h3⟩:=hasW_list h1;obtain⟨ns,rfl⟩:=items_int h3
 have hlen:ns.length<=n:=by
   unfold OpenLaw.pre at hc;have h4:(WTm.not (.lt (.lit (.int (n:Int))) (.len (.arg 0)))).holds [] { args:=[.list (ns.map .int)] }=true:=by have h4:=(holds_andW hc).1;rw[hn]at h4;exact h4
   have h5:=condW_of h4 (w_not (w_lt w_lit (w_len_list (w_arg rfl))));rw[fw]at h5;refine Nat.le_of_not_lt λq=>?_;have q':(n:Int)<((ns.length:Nat):Int):=by omega
   first
     | (rw[decide_eq_true q']at h5; exact absurd h5 (by decide))
     | (simp at h5; omega)
 cases hwl with
 | cons w1 w2=>
   cases w2;cases w1 with
   | list ho hall=>exact⟨_,_,ns,rfl,rfl,ho,j6 ns _ hall,hlen⟩
theorem wJ (l:OpenLaw)(args:List WData):l.row.toRowW.claim.post args (.bool true) args=true:=
 postW_of (r:=l.row.toRowW) (X:=(true==true))
   (show WShape.has [] (.bool true) .bool=true by first | rfl | decide | simp[WShape.has,WShape.arms,WShape.armsAll])
   (show (WTm.eq .res (.lit (.bool true))).value [] { args:=args,res:=some (.bool true),after:=args }=some (.bool (true==true)) from w_eq_bool (w_res rfl) w_lit) rfl
theorem pX {l:OpenLaw}{n:Nat}{q:Program}{loose:List Str}{XP:(Str->Option Value)->Heap->Prop}{YP:World->Heap->Prop}{d:DefRec}
   (hn:l.most=some n) (hdf:d.params.defaults=[])
   (call:∀(w:World) (s₀ s₁:Shared) (mg mb:Str->Option Value) (fa:Addr) (o:Obj) (pm cd doc:Value) (a:Addr) (vs:List Value) (ns:List Int),
     Ground q loose [] XP w s₀ mg mb s₁.heap->YP w s₁.heap ->
     s₁.heap.get? fa=some o->o.data=.func (docDef d.name d.params d.body d.scope pm cd doc)->s₁.heap.CodeRec cd d.name->mg d.name=some (.ref fa) ->
     s₁.heap.get? a=some { cls:=.type "list",data:=.seq vs.toArray }->IntsAre vs ns->ns.length<=n->s₁.gens=#[] ->
     codeAny (model l.prog w) callerA (.call (.ref fa) ⟨[.ref a],[]⟩) (λr s'=>r=.ok (.ret (.bool true))/\OldK s₁.heap s'.heap/\s'.os=s₁.os/\AllBare s'.gens) s₁) :
   WalkO q loose XP YP l.row.toRowW d [] (λf vs=>PySem.call f vs):=by
 intro w s₀ s₁ mg mb G Y fa o pm cd doc dV kV ho hd hcd hD hmg hg args vals as hpre hlay hrd hwl hlo;obtain rfl:dV=.none:=Dflts.none hD hdf;obtain rfl:kV=.none:=Dflts.noKw hD;obtain⟨a,vs,ns,rfl,rfl,hobj,hints,hlen⟩:=wd hn hpre hwl;refine enter_call (codeAny_mono (call w s₀ s₁ mg mb fa o pm cd doc a vs ns G Y ho (fd_plain hd) hcd hmg hobj hints hlen hg) λr s' hq=>?_);obtain⟨rfl,h2,h3,h4⟩:=hq;exact⟨.inl ⟨.bool true,.bool true,[],rfl,λ_=>rfl,.bool true,wJ l _,λ_=>⟨List.Pairwise.nil,λ_ hm=>(nomatch hm)⟩⟩,h2,h3,h4⟩
end Att
namespace L2
open PySem PySem.Spec PyProof.Rows
theorem mX:∀{vs:List Value} {ns:List Int},IntsAre vs ns->Vals (ns.map V.int) vs
 | _,_,.nil=>.nil
 | _,_,.cons n t h=>.cons ⟨t,rfl⟩ (mX h)
def CU (H:Hp):Prop:=∀b,H b=none\/∃o xs,H b=some (.frz o (.lst xs))
theorem zc {P:Program}{w:World}{K:gV}{mg mb:Str->Option Value}{CX:CXT}{k:Nat}{fa a:Addr}{fd:FuncData}{x:Str}{sp:Sp}{s₁:Shared}{vs:List Value}{ns:List Int}
   (KX:K.In s₁.heap) (hns:s₁.heap.Ns mainGlobals mg) (hb:s₁.heap.Ns builtinsNs mb) (hbb:∀x:Str,x ≠ "__name__" -> mb x=bootBuiltins x) (hlim:s₁.heap.NoLimit) (hg:s₁.gens=#[])
   (ha:s₁.heap.get? a=some { cls:=.type "list",data:=.seq vs.toArray }) (hi:IntsAre vs ns) (hl:ns.length<=sizeLine) (hr:cK k callerA)
   (F:∀base:Heap,K.In base->base.Ns mainGlobals mg->aH P w K mg base CX k fa fd [x] sp) (hbind:∀(s:Shared) (u:Value),BindsTo s fd ⟨[u],[]⟩ [(x,u)])
   (hsp:∀H:Hp,CU H->SqL K H a (ns.map V.int)->sp [.ref a] H (λv _=>v=.bl true) λ_ _ _=>False)
   (hCX:∀H e s',CX [] H s₁ (λ_ _ _=>False) e s'->False) :
   codeAny (model P w) callerA (.call (.ref fa) ⟨[.ref a],[]⟩) (λr s'=>r=.ok (.ret (.bool true))/\OldK s₁.heap s'.heap/\s'.os=s₁.os/\AllBare s'.gens) s₁:=by
 have rv:=mX hi;have lenV:=hi.length
 have core:∀H:Hp,CU H->SqL K H a (ns.map V.int)->HOk P w H s₁.heap->(∀b,H b≠none->b=a)->(H a≠none->K.lookup a=none) ->
     codeAny (model P w) callerA (.call (.ref fa) ⟨[.ref a],[]⟩) (λr s'=>r=.ok (.ret (.bool true))/\OldK s₁.heap s'.heap/\s'.os=s₁.os/\AllBare s'.gens) s₁:=by
   intro H hO hS hok hA hK;have base_of:∀{b:Addr} {o:Obj},s₁.heap.get? b=some o->H b=none->(oq s₁.heap H).get? b=some o:=λe n=>yV e n
   have noA:∀{b:Addr} {o:Obj} {es:Array DictEntry} {ep:Nat},s₁.heap.get? b=some o->o.data=.dict es ep->H b=none:=λ{b o es ep} e d=>by
     cases q:H b with
     | none=>rfl
     | some u=>have e':b=a:=hA b (by rw[q]; simp);subst e';rw[ha]at e; cases e;have d':Data.seq vs.toArray _=Data.dict es ep:=d;cases d'
   have nsK:∀{b:Addr} {m:Str->Option Value},s₁.heap.Ns b m->(oq s₁.heap H).Ns b m:=λ{b m} ⟨o,es,ep,e,d,r⟩=>⟨o,es,ep,base_of e (noA e d),d,r⟩
   have hKb:K.In (oq s₁.heap H):=λb o e=>base_of (KX b o e) (by
     cases q:H b with
     | none=>rfl
     | some u=>
       have e':b=a:=hA b (by rw[q]; simp);subst e';rw[hK (by rw[q]; simp)]at e; cases e)
   have hM:Mod K mg (oq s₁.heap H):=⟨hKb,nsK hns,⟨mb,nsK hb,hbb⟩,let ⟨mc,h1,h2⟩:=hlim; ⟨mc,nsK h1,h2⟩⟩;have e0:sI P w K mg (oq s₁.heap H) callerA [] s₁ H:=⟨rfl,hM,λb o e=>AN e,Nat.le_of_eq (we _ _),trivial,λb hb=>absurd (show b∈([]:List Addr) from hb) (by simp),hok,.of_eq hg⟩;refine codeAny_mono ((F _ hKb (nsK hns)).run callerA [] s₁ H ⟨[.ref a],[]⟩ [.ref a] [.ref a] _ _ hr e0 (hbind s₁ (.ref a)) (.cons rfl .nil) (hsp H hO hS)) λr s' h=>?_;cases r with
   | error e=>exact(hCX H e s' h).elim
   | ok fl=>
     cases fl with
     | next=>exact Ie h
     | brk=>exact Ie h
     | cont=>exact Ie h
     | ret u=>
       obtain⟨v,H',os,bare,un,hok',r',q⟩:=h;have q':v=.bl true:=q;subst q';obtain rfl:u=HE true:=r';refine⟨rfl,OldK.of_keep λb o e=>?_,os,bare⟩;cases q:H b with
       | none=>exact un.keep b o e q (by intro z; exact absurd (show b∈([]:List Addr) from z) (by simp)) (by simp)
       | some u=>
         rcases hO b with z | ⟨ob,xs,z⟩
         . rw[q]at z; cases z
         . have z2:=un.frzs b ob _ z;obtain⟨e1,_⟩:=hok b _ z;obtain⟨e2,_⟩:=hok' b _ z2;rw[e]at e1; cases e1;exact e2
 cases hk:K.lookup a with
 | some o=>have e:=KX a o hk;rw[ha]at e;cases e;refine core (λ_=>none) (λ_=>.inl rfl) (.inr ⟨_,vs.toArray,_,hk,rfl,rfl,rfl,by rw[Gu,lenV]; exact hl,by simpa using rv⟩) (λb u z=>by have z':(none:Option HO)=some u:=z; cases z') (λb z=>absurd rfl z) λz=>absurd rfl z
 | none=>
   refine core (λb=>if b=a then some (.frz { cls:=.type "list",data:=.seq vs.toArray } (.lst (ns.map V.int))) else none) (λb=>?_) (.inl (.inr ⟨{ cls:=.type "list",data:=.seq vs.toArray },if_pos rfl⟩)) (λb u z=>?_) (λb z=>?_) λ_=>hk
   . by_cases hb:b=a
     . exact .inr ⟨_,_,if_pos hb⟩
     . exact .inl (if_neg hb)
   . by_cases hb:b=a
     . have z':=(if_pos hb).symm.trans z;cases z';subst hb;exact⟨ha,by rw[fw]; exact hl,vs,_,rv,ha⟩
     . have z':=(if_neg hb).symm.trans z;cases z'
   . by_cases hb:b=a
     . exact hb
     . exact absurd (if_neg hb) z
theorem AG {l:KR}{n k:Nat}{q:Program}{loose:List Str}{XP:(Str->Option Value)->Heap->Prop}{YP:World->Heap->Prop}{d:DefRec}{K:Params->gV}{CX:World->CXT}{sp:World->Sp}{x:Str}
   (hn:l.most=some n) (hn2:n<=sizeLine) (hdf:d.params.defaults=[]) (hr:cK k callerA)
   (hY:∀(w:World) (h:Heap),YP w h->(K w.params).In h)
   (F:∀(w:World) (mg:Str->Option Value) (fa:Addr) (h:Heap),(K w.params).In h->h.Ns mainGlobals mg->mg d.name=some (.ref fa) ->
     ∃fd:FuncData,(∀(s:Shared) (u:Value),BindsTo s fd ⟨[u],[]⟩ [(x,u)]) /\
       ∀base:Heap,(K w.params).In base->base.Ns mainGlobals mg->aH l.prog w (K w.params) mg base (CX w) k fa fd [x] (sp w))
   (hsp:∀(w:World) (H:Hp) (a:Addr) (ns:List Int),ns.length<=n->CU H->SqL (K w.params) H a (ns.map V.int)->sp w [.ref a] H (λv _=>v=.bl true) λ_ _ _=>False)
   (hCX:∀(w:World) (H:Hp) (s:Shared) (e:Value) (s':Shared),CX w [] H s (λ_ _ _=>False) e s'->False) :
   PySem.W.WalkO q loose XP YP l.row.toRowW d [] (λf vs=>PySem.call f vs):=by
 refine Att.pX hn hdf λw s₀ s₁ mg mb fa o pm cd doc a vs ns G Y ho hd hcd hmg hobj hints hlen hg=>?_;have KX:=hY w _ Y;obtain⟨fd,hb,hF⟩:=F w mg fa _ KX G.T.g hmg;exact zc KX G.T.g G.T.b G.T.builtins G.T.nolimit hg hobj hints (GB hlen hn2) hr hF hb (λH hO hS=>hsp w H a ns hlen hO hS) λH e s'=>hCX w H s₁ e s'
noncomputable def bN (s:Stmt):Arguments:=match s with
 | .FunctionDef _ a _ _ _ _ _ _ _ _=>a
 | _=>{ posonlyargs:=[],args:=[],vararg:=none,kwonlyargs:=[],kw_defaults:=[],kwarg:=none,defaults:=[] }
noncomputable def aY (s:Stmt):List Stmt:=match s with
 | .FunctionDef _ _ b _ _ _ _ _ _ _=>b
 | _=>[]
noncomputable def ag (s:Stmt):Scope:=match s with
 | .FunctionDef _ _ _ _ _ _ sc _ _ _=>sc
 | _=>{ kind:=.function,names:=[],isGenerator:=false,isCoroutine:=false }
noncomputable abbrev CX0:CXT:=λ_ _ _ _ _ _=>False
noncomputable abbrev E0:XK:=λ_ _ _=>False
theorem jX {X:Cx}:Passes CX0 X E0:=λ_ _ _ _ _ _ _ h=>h.elim
structure Fun (K:gV)(x qual:Str)(st:Stmt)(f:Addr)(fd:FuncData):Prop where
 ex:∃(oc:Value) (od:Option Addr) (dV kV doc pm:Value) (an:Option Addr) (cdv ct:Value) (osl:Array (Option Value)),
   fd=Hr x qual (bN st) (aY st) (ag st) dV kV doc pm an cdv ct/\K.lookup f=some ⟨oc,od,.func fd,osl⟩/\HX K cdv qual=true
 kp:G9 K (.ref f)=true
section
variable {P:Program}{w:World}{K:gV}{mg:Str->Option Value}{base:Heap}
theorem Fun.ok {x qual:Str}{st:Stmt}{f:Addr}{fd:FuncData}{N ps:List Str}{k:Nat}{sp:Sp}(F:Fun K x qual st f fd)(S:aj N ps (ag st))(len:∀vs H Q E,sp vs H Q E->vs.length=ps.length)
   (hbody:∀(cdv:Value) (A:Around) (outer:List Env) (s:Shared) (H:Hp) (vs:List V) (Q:VK) (E:XK),cK k (A.deeper (envOfC qual (ag st) s.heap.objs.size f cdv))->sp vs H Q E ->
     ∃t,PSs (sL CX0 P w K mg base N qual (ag st) f cdv A outer s H E).nox (aY st) t/\t { nx:=λ_ H'=>Q .non H',rt:=Q } (start N vs) H):aH P w K mg base CX0 (k+1) f fd ps sp:=by
 obtain⟨oc,od,dV,kV,doc,pm,an,cdv,ct,osl,rfl,lk,hcd⟩:=F.ex;refine Ez lk hcd S len λA outer s H vs Q E hr hsp=>?_;obtain⟨t,h,q⟩:=hbody cdv A outer s H vs Q E hr hsp;exact⟨t,h.nox,q⟩
theorem Fun.binds {x qual:Str}{st:Stmt}{f:Addr}{fd:FuncData}{ps:List Str}(_:Fun K x qual st f fd)(h:∀us:List Value,us.length=ps.length->bindArgs fd ⟨us,[]⟩=pure (ps.zip us)):Binds K fd ps []:=.all h
theorem pw {x qual:Str}{st:Stmt}{f:Addr}{oc:Value}{od an:Option Addr}{osl:Array (Option Value)}{dV kV doc pm cdv ct:Value}(l:K.lookup f=some ⟨oc,od,.func (Hr x qual (bN st) (aY st) (ag st) dV kV doc pm an cdv ct),osl⟩)
   (c:HX K cdv qual=true) (k:G9 K (.ref f)=true):Fun K x qual st f (Hr x qual (bN st) (aY st) (ag st) dV kV doc pm an cdv ct):=⟨⟨oc,od,dV,kV,doc,pm,an,cdv,ct,osl,rfl,l,c⟩,k⟩
end
theorem nR {n:Nat}(h:n<=1000):n<sizeLine:=GX h (by decide)
section
variable {X:Cx}
theorem pv (i:Nat){x:Str}{pos:Pos}(hN:X.N[i]?=some x:=by rfl)(hv:Vis X.env.scope x:=by first | exact Hh rfl | exact G0 (Hh rfl) | exact G0 (G0 rfl))(hd:(x==("__debug__" : Str))=false:=by decide)
   (hcd:(x==("__classdict__" : Str))=false:=by decide):PE X (.Name x pos) (Dp i):=a4 hN hv hd hcd
end
theorem wu {A B:Prop}(h:B):if false=true then A else B:=by rw[if_neg xa];exact h
theorem ug {A B:Prop}(h:A):if true=true then A else B:=by rw[if_pos rfl];exact h
def ak (H H':Hp):Prop:=∀b o,H b=some o->H' b=some o
theorem ak.refl (H:Hp):ak H H:=λ_ _ h=>h
theorem ak.trans {H H1 H2:Hp}(a:ak H H1)(b:ak H1 H2):ak H H2:=λc o h=>b c o (a c o h)
theorem ak.free {H H':Hp}(e:ak H H'){l:Addr}(h:H' l=Option.none):H l=Option.none:=by
 cases q:H l with
 | none=>rfl
 | some o=>rw[e l o q]at h;cases h
theorem ak.seq {K:gV}{H H':Hp}{a:Addr}{xs:List V}(e:ak H H')(h:SqL K H a xs):SqL K H' a xs:=by
 rcases h with (h | ⟨o,h⟩) | h
 . exact .inl (.inl (e _ _ h))
 . exact .inl (.inr ⟨o,e _ _ h⟩)
 . exact .inr h
end L2
set_option linter.all false
set_option maxRecDepth 100000
namespace Ev
open PySem PySem.Spec PyProof.Rows L2
structure Bx where
 p:gV->Hp->Addr->Prop
 mono:∀{K:gV} {H H':Hp} {a:Addr},ak H H'->p K H a->p K H' a
 isd:∀{K:gV} {H:Hp} {a:Addr},p K H a->∃o:HO,H a=some o/\∀(P:Program) (w:World) (H':Hp) (h:Heap),bj P w H' h a o->∃ob,h.get? a=some ob/\ob.cls=.type "dict"
inductive D where
 | non | bl (b:Bool) | int (i:Int) | str (x:Str) | tup (xs:List D) | lst (xs:List D) | box (x:Bx)
noncomputable instance:Inhabited D:=⟨.non⟩
mutual
inductive Den (K:gV)(H:Hp):V->D->Prop where
 | non:Den K H .non .non
 | bl {b:Bool}:Den K H (.bl b) (.bl b)
 | int {i:Int}:Den K H (.int i) (.int i)
 | str {x:Str}:Den K H (.str x) (.str x)
 | tup {a:Addr} {vs:List V} {ds:List D} (h:SqT K H a vs) (r:ay K H vs ds):Den K H (.ref a) (.tup ds)
 | lst {a:Addr} {vs:List V} {ds:List D} (h:SqL K H a vs) (r:ay K H vs ds):Den K H (.ref a) (.lst ds)
 | box {a:Addr} {x:Bx} (h:x.p K H a):Den K H (.ref a) (.box x)
inductive ay (K:gV)(H:Hp):List V->List D->Prop where
 | nil:ay K H [] []
 | cons {v:V} {d:D} {vs:List V} {ds:List D} (h:Den K H v d) (r:ay K H vs ds):ay K H (v::vs) (d::ds)
end
section
variable {K:gV}{H H':Hp}
theorem aS (e:ak H H'){a:Addr}{xs:List V}(h:SqT K H a xs):SqT K H' a xs:=by
 rcases h with (h | ⟨o,h⟩) | h
 . exact .inl (.inl (e _ _ h))
 . exact .inl (.inr ⟨o,e _ _ h⟩)
 . exact .inr h
theorem aQ (e:ak H H'){a:Addr}{xs:List V}(h:SqL K H a xs):SqL K H' a xs:=e.seq h
mutual
theorem Den.mono (e:ak H H'):∀{v:V} {d:D},Den K H v d->Den K H' v d
 | _,_,.non=>.non
 | _,_,.bl=>.bl
 | _,_,.int=>.int
 | _,_,.str=>.str
 | _,_,.tup h r=>.tup (aS e h) (ay.mono e r)
 | _,_,.lst h r=>.lst (aQ e h) (ay.mono e r)
 | _,_,.box (x:=x) h=>.box (x.mono e h)
theorem ay.mono (e:ak H H'):∀{vs:List V} {ds:List D},ay K H vs ds->ay K H' vs ds
 | _,_,.nil=>.nil
 | _,_,.cons h r=>.cons (Den.mono e h) (ay.mono e r)
end
theorem ay.length:∀{vs:List V} {ds:List D},ay K H vs ds->vs.length=ds.length
 | _,_,.nil=>rfl
 | _,_,.cons _ r=>congrArg (·+1) r.length
theorem ay.get:∀{vs:List V} {ds:List D} {i:Nat} {d:D},ay K H vs ds->ds[i]?=some d->∃v,vs[i]?=some v/\Den K H v d
 | _,_,_,_,.nil,e=>by simp at e
 | _,_,0,_,.cons h _,e=>by simp at e; subst e; exact⟨_,rfl,h⟩
 | _,_,i+1,d,.cons _ r,e=>by obtain⟨v,h1,h2⟩:=ay.get (i:=i) (d:=d) r (by simpa using e);exact⟨v,by simpa using h1,h2⟩
theorem ay.append:∀{xs ys:List V} {ds es:List D},ay K H xs ds->ay K H ys es->ay K H (xs++ys) (ds++es)
 | _,_,_,_,.nil,s=>s
 | _,_,_,_,.cons h r,s=>.cons h (ay.append r s)
theorem ay.take:∀{xs:List V} {ds:List D} (n:Nat),ay K H xs ds->ay K H (xs.take n) (ds.take n)
 | _,_,0,_=>.nil
 | _,_,_+1,.nil=>.nil
 | _,_,n+1,.cons h r=>.cons h (ay.take n r)
theorem ay.drop:∀{xs:List V} {ds:List D} (n:Nat),ay K H xs ds->ay K H (xs.drop n) (ds.drop n)
 | _,_,0,r=>r
 | _,_,_+1,.nil=>.nil
 | _,_,n+1,.cons _ r=>ay.drop n r
end
def aJ (i j:Int):Prop:=i.natAbs.log2<64\/j.natAbs.log2<64\/(i.natAbs.log2<1000000/\j.natAbs.log2<1000000)
def aE (j:Int):Prop:=j≠0/\j.natAbs.log2<9000
theorem ao {H:Hp}{p:Addr}(h:H p=none)(o:HO):ak H (upd H p o):=λb u q=>by rw[ar (aR q h)]; exact q
noncomputable def Ite (K:gV)(a:Addr):L2.It:=⟨λi H=>∃xs x,SqL K H a xs/\xs[i]?=some x,λi H v H'=>∃p x,H p=none/\v=.ref p/\H'=upd H p (.tup [.int (i:Nat),x])/\∀xs,SqL K H a xs->xs[i]?=some x,λi H=>∃xs,SqL K H a xs/\xs.length<=i⟩
theorem vV {P:Program}{w:World}{K:gV}{ts:List Expr}{q:Nat}{tp:Pos}(a e it:Addr)(hne:e≠it):
   Turn P w K false (.Tuple ts q tp) (Ite K a) [e,it] e (λi h=>(∃old,IsEnum h e it (i:Nat) old)/\h.IsListIter it a i) where
 mem:=by simp
 obj:=λi h st b hb=>by
   obtain⟨⟨old,h1⟩,o,h2,h3,h4⟩:=st;rcases xb.mp hb with rfl | hb
   . exact⟨_,h1,λv z=>nomatch z⟩
   . have z:b=it:=by simpa using hb
     subst z;exact⟨o,h2,λv z=>by rw[h4]at z; cases z⟩
 keep:=λi h h' st k=>by obtain⟨⟨old,h1⟩,o,h2,h3,h4⟩:=st;exact⟨⟨old,k e (by simp) _ h1⟩,o,k it (by simp) o h2,h3,h4⟩
 item:=by
   intro X hP hw hK hc i pins s σ H E I hf st hg;subst hP hw hK;obtain⟨xs,x,hq,hx⟩:=hg;obtain⟨its,rv,p,hz⟩:=I.list hq;obtain⟨u,hu,ru⟩:=rv.get hx;obtain⟨⟨old,h1⟩,h2⟩:=st;have fe:=hf e (by simp);have fi:=hf it (by simp);refine wpAny_pyNext_enum_item h1 h2 p.isList (x:=u) (by simpa using hu) hne λh' g1 g2 g3 g4 g5=>⟨_,rfl,?_⟩;refine wpAny_letOwnedTupleGo_enum (s:={ s with heap:=h',toks:=s.toks+1 }) g1 λh2' k1 k2=>?_;have hn:H s.heap.objs.size=none:=I.hok.fresh (ia _);have le1:e<s.heap.objs.size:=Gr h1;have le2:it<s.heap.objs.size:=by obtain⟨o,z,_⟩:=h2; exact Gr z
   have kp:∀b o,b≠e->b≠it->s.heap.get? b=some o->h2'.get? b=some o:=λb o b1 b2 z=>(k2.2 b b1).trans (g5 b o b1 b2 z);have nt:h2'.get? s.heap.objs.size=some { cls:=.type "tuple",data:=.seq #[.int (i:Nat) s.toks,u] }:=(k2.2 _ (Nat.ne_of_gt le1)).trans g3;have ne1:∀b v,H b=some v->b≠e:=λb v z q=>by rw[q,fe.1]at z; cases z
   have ne2:∀b v,H b=some v->b≠it:=λb v z q=>by rw[q,fi.1]at z; cases z
   have hok0:HOk X.prog X.w H h2':=λb v z=>(I.hok b v z).lA (λc v' hc' q=>kp c v' (by
       rcases hc' with hc' | hc'
       . rw[hc']; exact ne1 b v z
       . exact ne1 c _ hc') (by
       rcases hc' with hc' | hc'
       . rw[hc']; exact ne2 b v z
       . exact ne2 c _ hc') q) (λ_ q=>q) λ_ _ q=>q
   have hok1:HOk X.prog X.w (upd H s.heap.objs.size (.tup [.int (i:Nat),x])) h2':=λb v z=>by
     by_cases hb:b=s.heap.objs.size
     . subst hb;rw[au]at z; cases z;exact⟨(by show 2<=sizeLine; decide),[.int (i:Nat) s.toks,u],.cons ⟨_,rfl⟩ (.cons ru .nil),_,nt,rfl,_,rfl⟩
     . rw[ar hb]at z;exact(hok0 b v z).lA (λc v' _ q=>q) (λc q=>by rw[ar (aR q hn)]; exact q) λc ys q=>by rw[ar (aR q hn)]; exact q
   have I1:Inv X pins σ (upd H s.heap.objs.size (.tup [.int (i:Nat),x])) { s with heap:=h2',toks:=s.toks+1 }:=by
     refine I.step (g':=s.gens) (d':=s.drawn) (ch:=[e,it]) (λb hb=>?_) (λb o _ _ hc' z _=>kp b o (λq=>hc' (by simp[q])) (λq=>hc' (by simp[q])) z)
       (λb o _ _ hc' z _=>⟨o.slots,kp b o (λq=>hc' (by simp[q])) (λq=>hc' (by simp[q])) z⟩)
       (λb o hc' z n=>by rw[ar (GR (Gr z))]; exact n) (λb o hc' z=>⟨o,kp b o (λq=>hc' (by simp[q])) (λq=>hc' (by simp[q])) z⟩)
       (λb ys z=>by rw[ar (aR z hn)]; exact z) (λb o u z=>by rw[ar (aR z hn)]; exact z) (λb ps z=>⟨#[],by rw[ar (aR z hn),z]; simp⟩) (λm hm=>?_) hok1 I.bare
     . rcases xb.mp hb with rfl | hb
       . exact⟨fe.2.2.2.1,fe.2.1,fe.2.2.2.2.1,fe.2.2.2.2.2⟩
       . have z:b=it:=by simpa using hb
         subst z;exact⟨fi.2.2.2.1,fi.2.1,fi.2.2.2.2.1,fi.2.2.2.2.2⟩
     . obtain⟨o,es,ep,ho,r⟩:=hm;exact⟨o,es,ep,kp _ o (Hi fe.2.1) (Hi fi.2.1) ho,r⟩
   refine⟨.ref s.heap.objs.size,_,I1,rfl,⟨s.heap.objs.size,x,hn,rfl,rfl,λys hy=>by rw[I.gc hy hq]; exact hx⟩,⟨⟨_,k1⟩,?_⟩,λb hb=>?_⟩
   . obtain⟨o,z1,z2,z3⟩:=g2;exact⟨o,(k2.2 it (Hi hne)).trans z1,z2,z3⟩
   . rcases xb.mp hb with rfl | hb
     . rw[ar (GR le1)]; exact fe.1
     . have z:b=it:=by simpa using hb
       subst z;rw[ar (GR le2)]; exact fi.1
 done:=by intro X hP hw hK hc i pins s σ H E I hf st hg;subst hP hw hK;obtain⟨xs,hq,hx⟩:=hg;obtain⟨its,rv,p,hz⟩:=I.list hq;obtain⟨⟨old,h1⟩,h2⟩:=st;obtain⟨f0,f1,f2,f3,f4,f5⟩:=hf it (by simp);have hl:=rv.length;exact wpAny_pyNext_enum_end (I.ok.hd hc.calm) h1 h2 p.isList (by simp; omega) λh' eb=>⟨rfl,I.turned (t':=s.toks) (λb o hb z=>eb b o hb z) f0 f1 f3 f4 f5⟩
 self:=λ_ _ _ _ _ st h=>by obtain⟨⟨old,h1⟩,_⟩:=st;exact wpAny_pyIter_enum h1 h
section
variable {X:Cx}
def Ed (K:gV)(ta:TA):TI:=λσ H R=>ta σ H λvs H1=>∃a,vs=[.ref a]/\(∃xs,SqL K H1 a xs)/\R (Ite K a) H1
theorem v5:bootBuiltins "enumerate" = some (.type "enumerate"):=by decide +kernel
theorem uD {ts:List Expr}{q:Nat}{tp:Pos}{a:Expr}{ta:TA}{p pos:Pos}(hc:X.calm=true)(hg:Gl X "enumerate")(hm:X.mg "enumerate" = none)(ha:PA X [a] ta)(hs:starEach [a] X.env=[(false,eval a X.env)]):
   PI X (.Tuple ts q tp) (.Call (.Name "enumerate" p) [a] [] pos) (Ed X.K ta):=by
 intro pins s σ H R I h;refine Call_ (dY I hg hm v5 (G4 (thn (ha pos pins s σ H _ I h) λus s1 ⟨vs,H1,I1,r1,q1⟩=>?_) hs rfl));obtain⟨l,e,⟨xs,hq⟩,q⟩:=q1;subst e;obtain⟨u,rfl,ru⟩:=vals1 r1;cases ru;obtain⟨its,rv,pl,hz⟩:=I1.list hq;refine call_enumerate_list pl.isList λh' g1 g2 g3 g4=>?_;refine wpAny_pyIter_enum (s:={ s1 with heap:=h' }) g1 ?_;have I2:Inv X pins σ H1 { s1 with heap:=h' }:=I1.kept (t':=s1.toks) g4;have n1:H1 (s1.heap.objs.size+1)=none:=I1.hok.fresh (by omega);have n2:H1 s1.heap.objs.size=none:=I1.hok.fresh (ia _);refine⟨false,s1.heap.objs.size+1,[s1.heap.objs.size+1,s1.heap.objs.size],_,_,H1,rfl,I2,.inl hc,vV l (s1.heap.objs.size+1) s1.heap.objs.size (K8 _),⟨⟨_,g1⟩,g2⟩,λb hb=>?_,q⟩;rcases xb.mp hb with rfl | hb
 . exact I1.jv (by omega) n1
 . have z:b=s1.heap.objs.size:=by simpa using hb
   subst z;exact I1.jv (ia _) n2
end
noncomputable def Itz (K:gV)(a b:Addr):L2.It:=
 ⟨λi H=>∃xs ys x y,SqL K H a xs/\SqL K H b ys/\xs[i]?=some x/\ys[i]?=some y,
  λi H v H'=>∃p x y,H p=none/\v=.ref p/\H'=upd H p (.tup [x,y])/\(∀xs,SqL K H a xs->xs[i]?=some x)/\∀ys,SqL K H b ys->ys[i]?=some y,
  λi H=>∃xs ys,SqL K H a xs/\SqL K H b ys/\(xs.length<=i\/ys.length<=i)⟩
def zSt (a b z TI TO i1 i2:Addr)(i:Nat)(h:Heap):Prop:=IsZip h z TI TO .none/\IsPair h TI (.ref i1) (.ref i2)/\(∃u v,IsPair h TO u v)/\h.IsListIter i1 a i/\h.IsListIter i2 b i
theorem nG {h:Heap}{a b z TI TO i1 i2:Addr}{i:Nat}{xs ys:Array Value}(n:TI≠TO)(m:i1≠i2)(s:zSt a b z TI TO i1 i2 i h)(l1:h.IsList a xs)(l2:h.IsList b ys):ZipApart z TI TO i1 i2 a b:=by
 obtain⟨h1,h2,⟨u,v,h3⟩,⟨o4,h4,c4,d4⟩,⟨o5,h5,c5,d5⟩⟩:=s;obtain⟨o6,h6,c6,n6,d6⟩:=l1;obtain⟨o7,h7,c7,n7,d7⟩:=l2;have kk:∀{x y:Addr} {o p:Obj},h.get? x=some o->h.get? y=some p->o.cls≠p.cls->x≠y:=λe1 e2 c q=>by subst q; rw[e1]at e2; cases e2; exact c rfl
 have cz:∀{s t:String},s≠t->KH s≠KH t:=λn q=>n (by cases q; rfl);refine⟨kk h2 h1 (cz (by decide)),kk h3 h1 (cz (by decide)),kk h4 h1 ?_,kk h5 h1 ?_,n,kk h2 h4 ?_,kk h2 h5 ?_,kk h3 h4 ?_,kk h3 h5 ?_,m,kk h6 h1 ?_,kk h6 h3 ?_,kk h6 h4 ?_,kk h6 h5 ?_,kk h7 h1 ?_,kk h7 h3 ?_,kk h7 h4 ?_,kk h7 h5 ?_⟩
 all_goals first | (rw[c4]; exact cz (by decide)) | (rw[c5]; exact cz (by decide)) | (rw[c6]; exact cz (by decide)) | (rw[c7]; exact cz (by decide)) | (rw[c6,c4]; exact cz (by decide)) | (rw[c6,c5]; exact cz (by decide)) | (rw[c7,c4]; exact cz (by decide)) | (rw[c7,c5]; exact cz (by decide))
theorem y6 {P:Program}{w:World}{K:gV}{ts:List Expr}{q:Nat}{tp:Pos}(a b z TI TO i1 i2:Addr)(nT:TI≠TO)(nI:i1≠i2):
   Turn P w K false (.Tuple ts q tp) (Itz K a b) [z,TI,TO,i1,i2] z (zSt a b z TI TO i1 i2) where
 mem:=by simp
 obj:=λi h st c hb=>by
   obtain⟨h1,h2,⟨u,v,h3⟩,⟨o4,h4,c4,d4⟩,⟨o5,h5,c5,d5⟩⟩:=st;simp only[xb,Hl,or_false]at hb;rcases hb with rfl | rfl | rfl | rfl | rfl
   . exact⟨_,h1,λv z=>nomatch z⟩
   . exact⟨_,h2,λv z=>nomatch z⟩
   . exact⟨_,h3,λv z=>nomatch z⟩
   . exact⟨_,h4,λv z=>by rw[d4]at z; cases z⟩
   . exact⟨_,h5,λv z=>by rw[d5]at z; cases z⟩
 keep:=λi h h' st k=>by obtain⟨h1,h2,⟨u,v,h3⟩,⟨o4,h4,c4,d4⟩,⟨o5,h5,c5,d5⟩⟩:=st;exact⟨k z (by simp) _ h1,k TI (by simp) _ h2,⟨u,v,k TO (by simp) _ h3⟩,⟨o4,k i1 (by simp) _ h4,c4,d4⟩,⟨o5,k i2 (by simp) _ h5,c5,d5⟩⟩
 item:=by
   intro X hP hw hK hc i pins s σ H E I hf st hg;subst hP hw hK;obtain⟨xs,ys,x,y,hq1,hq2,hx,hy⟩:=hg;obtain⟨its1,rv1,p1,hz1⟩:=I.list hq1;obtain⟨its2,rv2,p2,hz2⟩:=I.list hq2;obtain⟨u1,hu1,ru1⟩:=rv1.get hx;obtain⟨u2,hu2,ru2⟩:=rv2.get hy;have D:=nG nT nI st p1.isList p2.isList;obtain⟨h1,h2,⟨u,v,h3⟩,h4,h5⟩:=st;refine wpAny_pyNext_zip_item D h1 h2 h3 h4 h5 p1.isList p2.isList (x:=u1) (y:=u2) (by simpa using hu1) (by simpa using hu2) λh' g1 g2 g3 g4 g5 g6 g7=>⟨_,rfl,?_⟩;refine wpAny_letOwnedTupleGo_zip (s:={ s with heap:=h' }) g1 λh2' k1 k2=>?_;have hn:H s.heap.objs.size=none:=I.hok.fresh (ia _);have le1:z<s.heap.objs.size:=Gr h1;have lt2:TI<s.heap.objs.size:=Gr h2;have lt3:TO<s.heap.objs.size:=Gr h3;have lt4:i1<s.heap.objs.size:=by obtain⟨o,z,_⟩:=h4; exact Gr z
   have lt5:i2<s.heap.objs.size:=by obtain⟨o,z,_⟩:=h5; exact Gr z
   have kp:∀c o,c≠z->c≠TO->c≠i1->c≠i2->s.heap.get? c=some o->h2'.get? c=some o:=λc o b1 b2 b3 b4 e=>(k2.2 c b1).trans (g7 c o b1 b2 b3 b4 e);have nt:IsPair h2' s.heap.objs.size u1 u2:=(k2.2 _ (Nat.ne_of_gt le1)).trans g5;have ne:∀c,c∈[z,TI,TO,i1,i2]->∀d v,H d=some v->d≠c:=λc hc d v e q=>by have:=(hf c hc).1;rw[q,this]at e; cases e
   have hok0:HOk X.prog X.w H h2':=λd v e=>(I.hok d v e).lA (λc v' hc' q=>kp c v'
       (by rcases hc' with hc' | hc'
           . rw[hc']; exact ne z (by simp) d v e
           . exact ne z (by simp) c _ hc')
       (by rcases hc' with hc' | hc'
           . rw[hc']; exact ne TO (by simp) d v e
           . exact ne TO (by simp) c _ hc')
       (by rcases hc' with hc' | hc'
           . rw[hc']; exact ne i1 (by simp) d v e
           . exact ne i1 (by simp) c _ hc')
       (by rcases hc' with hc' | hc'
           . rw[hc']; exact ne i2 (by simp) d v e
           . exact ne i2 (by simp) c _ hc') q) (λ_ q=>q) λ_ _ q=>q
   have hok1:HOk X.prog X.w (upd H s.heap.objs.size (.tup [x,y])) h2':=λd v e=>by
     by_cases hb:d=s.heap.objs.size
     . subst hb;rw[au]at e; cases e;exact⟨(by show 2<=sizeLine; decide),[u1,u2],.cons ru1 (.cons ru2 .nil),_,nt,rfl,_,rfl⟩
     . rw[ar hb]at e;exact(hok0 d v e).lA (λc v' _ q=>q) (λc q=>by rw[ar (aR q hn)]; exact q) λc ys q=>by rw[ar (aR q hn)]; exact q
   have I1:Inv X pins σ (upd H s.heap.objs.size (.tup [x,y])) { s with heap:=h2' }:=by
     refine I.step (t':=s.toks) (g':=s.gens) (d':=s.drawn) (ch:=[z,TO,i1,i2]) (λc hb=>?_) (λc o _ _ hc' e _=>kp c o (λq=>hc' (by simp[q])) (λq=>hc' (by simp[q])) (λq=>hc' (by simp[q])) (λq=>hc' (by simp[q])) e)
       (λc o _ _ hc' e _=>⟨o.slots,kp c o (λq=>hc' (by simp[q])) (λq=>hc' (by simp[q])) (λq=>hc' (by simp[q])) (λq=>hc' (by simp[q])) e⟩)
       (λc o hc' e n=>by rw[ar (GR (Gr e))]; exact n) (λc o hc' e=>⟨o,kp c o (λq=>hc' (by simp[q])) (λq=>hc' (by simp[q])) (λq=>hc' (by simp[q])) (λq=>hc' (by simp[q])) e⟩)
       (λc ys e=>by rw[ar (aR e hn)]; exact e) (λc o u e=>by rw[ar (aR e hn)]; exact e) (λc ps e=>⟨#[],by rw[ar (aR e hn),e]; simp⟩) (λm hm=>?_) hok1 I.bare
     . have hb':c∈[z,TI,TO,i1,i2]:=by simp only[xb,Hl,or_false]at hb ⊢;rcases hb with h | h | h | h <;> simp[h]
       have fe:=hf c hb';exact⟨fe.2.2.2.1,fe.2.1,fe.2.2.2.2.1,fe.2.2.2.2.2⟩
     . obtain⟨o,es,ep,ho,r⟩:=hm;exact⟨o,es,ep,kp _ o (Hi (hf z (by simp)).2.1) (Hi (hf TO (by simp)).2.1) (Hi (hf i1 (by simp)).2.1) (Hi (hf i2 (by simp)).2.1) ho,r⟩
   refine⟨.ref s.heap.objs.size,_,I1,rfl,⟨s.heap.objs.size,x,y,hn,rfl,rfl,λzs hy'=>by rw[I.gc hy' hq1]; exact hx,λzs hy'=>by rw[I.gc hy' hq2]; exact hy⟩,⟨k1,?_,⟨u1,u2,(k2.2 TO D.TOz).trans g2⟩,?_,?_⟩,λc hb=>?_⟩
   . exact kp TI _ D.TIz D.TITO D.TIi1 D.TIi2 h2
   . obtain⟨o,z1,z2,z3⟩:=g3;exact⟨o,(k2.2 i1 D.i1z).trans z1,z2,z3⟩
   . obtain⟨o,z1,z2,z3⟩:=g4;exact⟨o,(k2.2 i2 D.i2z).trans z1,z2,z3⟩
   . have fc:=(hf c hb).1;have lt:c<s.heap.objs.size:=by simp only[xb,Hl,or_false]at hb;rcases hb with rfl | rfl | rfl | rfl | rfl <;> assumption
     rw[ar (GR lt)];exact fc
 done:=by
   intro X hP hw hK hc i pins s σ H E I hf st hg;subst hP hw hK;obtain⟨xs,ys,hq1,hq2,hx⟩:=hg;obtain⟨its1,rv1,p1,hz1⟩:=I.list hq1;obtain⟨its2,rv2,p2,hz2⟩:=I.list hq2;have D:=nG nT nI st p1.isList p2.isList;obtain⟨h1,h2,⟨u,v,h3⟩,h4,h5⟩:=st;have hl1:=rv1.length;have hl2:=rv2.length
   refine wpAny_pyNext_zip_end (I.ok.hd hc.calm) D h1 h2 h3 h4 h5 p1.isList p2.isList (by
     rcases hx with hx | hx
     . left; simp; omega
     . right; simp; omega) λh' eb=>⟨rfl,?_⟩
   have ne:∀c,c∈[z,TI,TO,i1,i2]->∀d v,H d=some v->d≠c:=λc hc d v e q=>by have:=(hf c hc).1;rw[q,this]at e; cases e
   have hok0:HOk X.prog X.w H h':=λd v e=>(I.hok d v e).lA (λc v' hc' q=>eb c v'
       (by rcases hc' with hc' | hc'
           . rw[hc']; exact ne z (by simp) d v e
           . exact ne z (by simp) c _ hc')
       (by rcases hc' with hc' | hc'
           . rw[hc']; exact ne TO (by simp) d v e
           . exact ne TO (by simp) c _ hc')
       (by rcases hc' with hc' | hc'
           . rw[hc']; exact ne i1 (by simp) d v e
           . exact ne i1 (by simp) c _ hc')
       (by rcases hc' with hc' | hc'
           . rw[hc']; exact ne i2 (by simp) d v e
           . exact ne i2 (by simp) c _ hc') q) (λ_ q=>q) λ_ _ q=>q
   refine I.step (t':=s.toks) (g':=s.gens) (d':=s.drawn) (ch:=[z,TO,i1,i2]) (λc hb=>?_) (λc o _ _ hc' e _=>eb c o (λq=>hc' (by simp[q])) (λq=>hc' (by simp[q])) (λq=>hc' (by simp[q])) (λq=>hc' (by simp[q])) e)
       (λc o _ _ hc' e _=>⟨o.slots,eb c o (λq=>hc' (by simp[q])) (λq=>hc' (by simp[q])) (λq=>hc' (by simp[q])) (λq=>hc' (by simp[q])) e⟩)
       (λc o hc' e n=>n) (λc o hc' e=>⟨o,eb c o (λq=>hc' (by simp[q])) (λq=>hc' (by simp[q])) (λq=>hc' (by simp[q])) (λq=>hc' (by simp[q])) e⟩)
       (λc ys e=>e) (λc o u e=>e) (λc ps e=>⟨#[],by rw[e]; simp⟩) (λm hm=>?_) hok0 I.bare
   . have hb':c∈[z,TI,TO,i1,i2]:=by simp only[xb,Hl,or_false]at hb ⊢;rcases hb with h | h | h | h <;> simp[h]
     have fe:=hf c hb';exact⟨fe.2.2.2.1,fe.2.1,fe.2.2.2.2.1,fe.2.2.2.2.2⟩
   . obtain⟨o,es,ep,ho,r⟩:=hm;exact⟨o,es,ep,eb _ o (Hi (hf z (by simp)).2.1) (Hi (hf TO (by simp)).2.1) (Hi (hf i1 (by simp)).2.1) (Hi (hf i2 (by simp)).2.1) ho,r⟩
 self:=λ_ _ _ _ _ st h=>wpAny_pyIter_zip st.1 h
section
variable {X:Cx}
def C9 (K:gV)(ta:TA):TI:=λσ H R=>ta σ H λvs H1=>∃a b,vs=[.ref a,.ref b]/\(∃xs,SqL K H1 a xs)/\(∃ys,SqL K H1 b ys)/\R (Itz K a b) H1
theorem tM {ts:List Expr}{q:Nat}{tp:Pos}{a b:Expr}{ta:TA}{p pos:Pos}(hc:X.calm=true)(hg:Gl X "zip")(hm:X.mg "zip" = none)(ha:PA X [a,b] ta)(hs:starEach [a,b] X.env=(false,eval a X.env)::starEach [b] X.env)(hs2:starEach [b] X.env=[(false,eval b X.env)]):
   PI X (.Tuple ts q tp) (.Call (.Name "zip" p) [a,b] [] pos) (C9 X.K ta):=by
 intro pins s σ H R I h;refine Call_ (dY I hg hm boot_zip (G4 (thn (ha pos pins s σ H _ I h) λus s1 ⟨vs,H1,I1,r1,q1⟩=>?_) hs (by rw[hs2]; rfl)));obtain⟨l,l',e,⟨xs,hq1⟩,⟨ys,hq2⟩,q⟩:=q1;subst e;obtain⟨u,u',rfl,ru,ru'⟩:=vals2 r1;cases ru;cases ru';obtain⟨its1,rv1,pl1,hz1⟩:=I1.list hq1;obtain⟨its2,rv2,pl2,hz2⟩:=I1.list hq2;refine call_zip_2 pl1.isList pl2.isList λh' g1 g2 g3 g4 g5 g6 g7=>?_;refine wpAny_pyIter_zip (s:={ s1 with heap:=h' }) g1 ?_;have I2:Inv X pins σ H1 { s1 with heap:=h' }:=I1.kept (t':=s1.toks) g7;have nn:∀j,H1 (s1.heap.objs.size+j)=none:=λj=>I1.hok.fresh (by omega);refine⟨false,s1.heap.objs.size+4,[s1.heap.objs.size+4,s1.heap.objs.size+2,s1.heap.objs.size+3,s1.heap.objs.size,s1.heap.objs.size+1],_,_,H1,rfl,I2,.inl hc,y6 l l' (s1.heap.objs.size+4) (s1.heap.objs.size+2) (s1.heap.objs.size+3) s1.heap.objs.size (s1.heap.objs.size+1) (by simp) (Hi (K8 _)),⟨g1,g2,⟨_,_,g3⟩,g4,g5⟩,λc hb=>?_,q⟩
 have hb':∃j,c=s1.heap.objs.size+j:=by
   simp only[xb,Hl,or_false]at hb;rcases hb with h | h | h | h | h
   . exact⟨_,h⟩
   . exact⟨_,h⟩
   . exact⟨_,h⟩
   . exact⟨0,h⟩
   . exact⟨_,h⟩
 obtain⟨j,rfl⟩:=hb';exact I1.jv (Nat.le_add_right _ _) (nn j)
end
noncomputable def Itv (K:gV)(a:Addr)(n:Nat):L2.It:=⟨λi H=>i<n/\∃xs x,SqL K H a xs/\xs[n-1-i]?=some x,λi H x H'=>H'=H/\∀xs,SqL K H a xs->xs[n-1-i]?=some x,λi _=>n<=i⟩
theorem yX {P:Program}{w:World}{K:gV}{tg:Expr}(a it:Addr)(n:Nat):
   Turn P w K false tg (Itv K a n) [it] it (λi h=>i<=n/\h.IsRevIter it a ((n:Int)-1-(i:Int))) where
 mem:=by simp
 obj:=λi h st b hb=>by
   have e:b=it:=by simpa using hb
   subst e;obtain⟨o,e,c,d⟩:=st.2;exact⟨o,e,λv z=>by rw[d]at z; cases z⟩
 keep:=λi h h' st k=>⟨st.1,st.2.at λo e=>k it (by simp) o e⟩
 item:=by intro X hP hw hK hc i pins s σ H E I hf st hg;subst hP hw hK;obtain⟨hi,xs,x,hq,hx⟩:=hg;obtain⟨its,rv,p,hz⟩:=I.list hq;obtain⟨u,hu,ru⟩:=rv.get hx;obtain⟨f0,f1,f2,f3,f4,f5⟩:=hf it (by simp);have st2:=st.2;rw[show (n:Int)-1-(i:Int)=((n-1-i:Nat):Int) by omega]at st2;refine wpAny_pyNext_rev_item st2 p.isList (x:=u) (by simpa using hu) λh' st' sb=>?_;have I1:Inv X pins σ H { s with heap:=h' }:=I.turned (t':=s.toks) (λb o hb e=>(sb.2 b hb).trans e) f0 f1 f3 f4 f5;obtain⟨o,e,c,d⟩:=id st';refine⟨u,rfl,iH (s:={ s with heap:=h' }) e c d (by decide) ⟨x,H,I1,ru,⟨rfl,λys hy=>by rw[I.gc hy hq]; exact hx⟩,⟨hi,?_⟩,λb hb=>(hf b hb).1⟩⟩;rw[show (n:Int)-1-((i+1:Nat):Int)=((n-1-i:Nat):Int)-1 by omega];exact st'
 done:=by intro X hP hw hK hc i pins s σ H E I hf st hg;subst hP hw hK;obtain⟨f0,f1,f2,f3,f4,f5⟩:=hf it (by simp);have st2:=st.2;have hg:n<=i:=hg;rw[show (n:Int)-1-(i:Int)=-1 by have:=st.1; omega]at st2;exact wpAny_pyNext_rev_end (I.ok.hd hc.calm) st2 λh' eb=>⟨rfl,I.turned (t':=s.toks) (λb o hb e=>eb b o hb e) f0 f1 f3 f4 f5⟩
 self:=λ_ _ _ _ _ st h=>wpAny_pyIter_revIter st.2 h
section
variable {X:Cx}{tg:Expr}
def BY (K:gV)(ta:TA):TI:=λσ H R=>ta σ H λvs H1=>∃a xs,vs=[.ref a]/\SqL K H1 a xs/\R (Itv K a xs.length) H1
theorem qA:bootBuiltins "reversed" = some (.type "reversed"):=by decide +kernel
theorem uf {a:Expr}{ta:TA}{p pos:Pos}(hc:X.calm=true)(hg:Gl X "reversed")(hm:X.mg "reversed" = none)(ha:PA X [a] ta)(hs:starEach [a] X.env=[(false,eval a X.env)]):PI X tg (.Call (.Name "reversed" p) [a] [] pos) (BY X.K ta):=by
 intro pins s σ H R I h;refine Call_ (dY I hg hm qA (G4 (thn (ha pos pins s σ H _ I h) λus s1 ⟨vs,H1,I1,r1,q1⟩=>?_) hs rfl));obtain⟨l,xs,e,hq,q⟩:=q1;subst e;obtain⟨u,rfl,ru⟩:=vals1 r1;cases ru;obtain⟨its,rv,pl,hz⟩:=I1.list hq;have hl:=rv.length;refine call_reversed_list pl.isList ?_;have st:({ s1 with heap:=s1.heap.push (revObj l ((its.toArray.size:Int)-1)) }:Shared).heap.IsRevIter s1.heap.objs.size l ((its.toArray.size:Int)-1):=⟨_,Et _ rfl,rfl,rfl⟩;refine wpAny_pyIter_revIter st ?_;refine⟨false,s1.heap.objs.size,[s1.heap.objs.size],_,_,H1,rfl,I1.kept (t':=s1.toks) (λb o e=>ip _ e),.inl hc,yX l _ xs.length,⟨G5 _,?_⟩,λb hb=>?_,q⟩
 . rw[show (xs.length:Int)-1-((0:Nat):Int)=(its.toArray.size:Int)-1 by rw[Gu,<- hl]; omega];exact st
 . have e:b=s1.heap.objs.size:=by simpa using hb
   subst e;exact I1.jv (ia _) (I1.hok.fresh (ia _))
end
theorem xo:∀(names:List (Str×NameKind)) (n:Nat) (acc:List (Str×Addr)) (x:Str) (c:Addr),(cellsFrom n names acc).lookup x=some c->n<=c\/acc.lookup x=some c
 | [],_,_,_,_,h=>.inr h
 | (y,k)::r,n,acc,x,c,h=>by
   unfold cellsFrom at h;split at h
   . rcases xo r (n+1) _ x c h with q | q
     . exact .inl (by omega)
     . rw[G6]at q;split at q
       . cases q; exact .inl (ia _)
       . exact .inr q
   . exact xo r n acc x c h
theorem lN:∀(names:List (Str×NameKind)) (n:Nat) (acc:List (Str×Addr)) (x:Str),(x,HG)∉names->(cellsFrom n names acc).lookup x=acc.lookup x
 | [],_,_,_,_=>rfl
 | (y,k)::r,n,acc,x,h=>by
   have h1:(x,HG)∉r:=λz=>h (pq _ z);unfold cellsFrom;split
   . rename_i hk;rw[lN r _ _ x h1,G6];have:(x==y)=false:=by rw[beq_eq_false_iff_ne];rintro rfl;exact h (by rw[eq_of_beq hk]; exact rp)
     rw[this]
   . exact lN r n acc x h1
theorem pd:∀(names:List (Str×NameKind)) (n:Nat) (acc:List (Str×Addr)) (x:Str),(x,HG)∈names->∃c,(cellsFrom n names acc).lookup x=some c/\n<=c
 | (y,k)::r,n,acc,x,h=>by
   unfold cellsFrom;by_cases hr:(x,HG)∈r
   . split
     . obtain⟨c,e,l⟩:=pd r (n+1) ((y,n)::acc) x hr;exact⟨c,e,by omega⟩
     . exact pd r n acc x hr
   . rcases xb.mp h with q | q
     . cases q;rw[if_pos (by rfl),lN r _ _ _ hr];exact⟨n,by simp[G6],ia _⟩
     . exact absurd q hr
theorem ue:∀(names:List (Str×NameKind)) (n:Nat) (acc:List (Str×Addr)),(∀x c,acc.lookup x=some c->c<n)->(∀x y c,acc.lookup x=some c->acc.lookup y=some c->x=y) ->
   ∀x y c,(cellsFrom n names acc).lookup x=some c->(cellsFrom n names acc).lookup y=some c->x=y
 | [],_,_,_,h=>h
 | (z,k)::r,n,acc,hl,h=>by
   unfold cellsFrom;split
   . refine ue r (n+1) _ (λx c e=>?_) (λx y c e1 e2=>?_)
     . rw[G6]at e;split at e
       . cases e; exact La _
       . exact JR (hl x c e)
     . rw[G6]at e1 e2;split at e1
       . rename_i q1;cases e1;split at e2
         . rename_i q2;exact(eq_of_beq q1).trans (eq_of_beq q2).symm
         . exact absurd (hl y _ e2) (Hs _)
       . split at e2
         . cases e2;exact absurd (hl x _ e1) (Hs _)
         . exact h x y c e1 e2
   . exact ue r n acc hl h
theorem pV:∀(names:List (Str×NameKind)) (h:Heap) (acc:List (Str×Addr)),(∀x c,acc.lookup x=some c->∃v,h.IsCell c v)->∀x c,(cellsFrom h.objs.size names acc).lookup x=some c->∃v,(pushCells h names).IsCell c v
 | [],_,_,ha,x,c,e=>ha x c e
 | (z,k)::r,h,acc,ha,x,c,e=>by
   unfold cellsFrom at e;unfold pushCells;split at e
   . rename_i hk;rw[if_pos hk];refine pV r _ ((z,h.objs.size)::acc) (λy d q=>?_) x c (by rw[HC]; exact e);rw[G6]at q;split at q
     . cases q;exact⟨none,_,Et _ rfl,rfl⟩
     . obtain⟨v,o,ho,hd⟩:=ha y d q;exact⟨v,o,ip _ ho,hd⟩
   . rename_i hk;rw[if_neg hk];exact pV r h acc ha x c e
noncomputable def cM (env:Js):List (Str×NameKind)->List (Str×Addr)->List (Str×Addr)
 | [],acc=>acc
 | (n,k)::r,acc=>if k==.free then (match env.cells.lookup n with | some c=>cM env r ((n,c)::acc) | none=>cM env r acc) else cM env r acc
theorem lr (env:Js):∀(names:List (Str×NameKind)) (acc:List (Str×Addr)),(∀x∈names,x.2=.free->∃c,env.cells.lookup x.1=some c) ->
   (forIn (m:=Sem) names acc λx cs=>do
     let (name,kind):=x
     if kind==.free then do
       let c <- cellOf env name
       pure (II ((name,c)::cs))
     else pure (II cs))=pure (cM env names acc)
 | [],acc,_=>rfl
 | (n,k)::r,acc,h=>by
   rw[List.forIn_cons];unfold cM;by_cases hk:(k==.free)=true
   . obtain⟨c,hc⟩:=h (n,k) rp (eq_of_beq hk);simp only[hk,if_true,cellOf,hc,pure_bind];exact lr env r _ λx hx=>h x (pq _ hx)
   . simp only[hk,HZ,if_false,pure_bind];exact lr env r _ λx hx=>h x (pq _ hx)
theorem vG {env:Js}{scope:Scope}(h:∀x∈scope.names,x.2=.free->∃c,env.cells.lookup x.1=some c):closureFor scope env=pure (cM env scope.names []):=by unfold closureFor;have:=lr env scope.names [] h;simp only[bind_pure];exact this
theorem fj (env:Js):∀(names:List (Str×NameKind)) (acc:List (Str×Addr)) (x:Str) (c:Addr),(∀y d,acc.lookup y=some d->env.cells.lookup y=some d)->(cM env names acc).lookup x=some c->env.cells.lookup x=some c
 | [],_,x,c,ha,h=>ha x c h
 | (n,k)::r,acc,x,c,ha,h=>by
   unfold cM at h;split at h
   . split at h
     . rename_i c' hc;refine fj env r _ x c (λy d q=>?_) h;rw[G6]at q;split at q
       . rename_i qq;cases q;rw[eq_of_beq qq]; exact hc
       . exact ha y d q
     . exact fj env r acc x c ha h
   . exact fj env r acc x c ha h
theorem da (env:Js):∀(names:List (Str×NameKind)) (acc:List (Str×Addr)) (x:Str) (c:Addr),(∀y d,acc.lookup y=some d->env.cells.lookup y=some d)->env.cells.lookup x=some c->((x,Hu)∈names\/acc.lookup x=some c)->(cM env names acc).lookup x=some c
 | [],_,x,c,_,_,h=>h.elim (λz=>absurd z (by simp)) id
 | (n,k)::r,acc,x,c,ha,hc,h=>by
   unfold cM;split
   . split
     . rename_i c' hc';refine da env r _ x c (λy d q=>?_) hc ?_
       . rw[G6]at q;split at q
         . rename_i qq;cases q;rw[eq_of_beq qq]; exact hc'
         . exact ha y d q
       . by_cases q:x=n
         . subst q;rw[hc]at hc'; cases hc';exact .inr (by simp[G6])
         . rcases h with h | h
           . rcases xb.mp h with z | z
             . cases z; exact absurd rfl q
             . exact .inl z
           . refine .inr ?_;rw[G6,beq_eq_false_iff_ne.mpr q];exact h
     . rename_i hc';refine da env r acc x c ha hc ?_;rcases h with h | h
       . rcases xb.mp h with z | z
         . cases z; rw[hc]at hc'; cases hc'
         . exact .inl z
       . exact .inr h
   . rename_i hk;refine da env r acc x c ha hc ?_;rcases h with h | h
     . rcases xb.mp h with z | z
       . cases z; exact absurd rfl hk
       . exact .inl z
     . exact .inr h
theorem nB {M:Model}{A:Around}{E:Value->Shared->Prop}{s:Shared}{scope:Scope}{cl:List (Str×Addr)}{env:Js}{Q:Js->Shared->Prop}
   (h:Q (newEnv scope s.heap.objs.size env.globals (cellsFrom (s.heap.objs.size+1) scope.names cl) env.qual none .none (some env) builtinsNs) { s with heap:=pushCells (s.heap.push { cls:=.type "dict",data:=.dict #[] }) scope.names }) :
   wpAny M A (newFunctionEnv scope env.globals cl [] env.qual none .none (some env)) Q E s:=by
 simp only[newFunctionEnv,Option.isSome_some,if_true];refine wpAny_bind (wpAny_alloc ?_);refine wpAny_bind (wpAny_layCells _ (λname kind cells=>by cases hkc:kind==HG <;> simp[hkc]) _ _ _ _ ?_);rw[show ({ s with heap:=s.heap.push { cls:=.type "dict",data:=.dict #[] } }:Shared).heap.objs.size=s.heap.objs.size+1 from HC ..];exact wpAny_bind (wpAny_pure (wpAny_pure h))
noncomputable def aM (X:Cx)(s:Shared)(H:Hp)(scope:Scope)(N:List Str)(fp:List Addr):Cx:=
 { prog:=X.prog,w:=X.w,K:=X.K,mg:=X.mg,base:=X.base,A:=X.A,N:=N,s₀:=s,H₀:=H
   env:=compEnvC scope (cellsFrom (s.heap.objs.size+1+1) scope.names (cM X.env scope.names [])) (s.heap.objs.size+1) X.env
   outer:=X.stack,stack:=X.stack,ex:=fp,fn:=λx=>decide ((x,HG)∈scope.names),calm:=X.calm,pn:=[],xe:=λ_ _=>False }
noncomputable def fU (σ:L2.St)(caps:List (Option Nat)):L2.St:=caps.map λo=>o.bind λi=>(σ[i]?).join
structure dD (X:Cx)(scope:Scope)(N:List Str)(caps:List (Option Nat)):Prop where
 kind:scope.kind=.function
 loc:∀x∈scope.names,x.2=.local->scope.names.lookup x.1=some .local
 fre:∀x∈scope.names,x.2=.free->X.env.kindOf x.1=some .cell
 one:∀x,(x,Hu)∈scope.names->(x,HG)∉scope.names
 noboth:∀x,(x,Hu)∈scope.names->(x,NameKind.local)∉scope.names
 len:N.length=caps.length+1
 cap:∀(j i:Nat),caps[j]?=some (some i)->∃x,N[j]?=some x/\X.N[i]?=some x/\(x,Hu)∈scope.names
 acc:∃z,N[caps.length]?=some z/\¬Vis (relabel scope X.env) z
section
variable {X:Cx}{pins:List (Addr×Obj)}{σ:L2.St}{H:Hp}{s:Shared}{scope:Scope}{N:List Str}{caps:List (Option Nat)}{fp:List Addr}
theorem fo {env:Js}{x:Str}{names:List (Str×NameKind)}(h:∀y,(y,Hu)∈names->env.kindOf y=some .cell)(hk:env.scope.kind=.function){k:NameKind}
   (e:(names.map λ(n,k)=>if (k==Hu&&env.scope.kind==.function&&env.kindOf n==some .cell) then (n,HG) else (n,k)).lookup x=some k) :
   (x,k)∈names\/((x,Hu)∈names/\k=.cell):=by
 induction names with
 | nil=>cases e
 | cons p r ih=>
   obtain⟨n,q⟩:=p;rw[GP]at e;have hr:∀y,(y,Hu)∈r->env.kindOf y=some .cell:=λy hy=>h y (pq _ hy);have sub:((x,k)∈r\/((x,Hu)∈r/\k=.cell))->(x,k)∈(n,q)::r\/((x,Hu)∈(n,q)::r/\k=.cell):=λz=>z.elim (λy=>.inl (pq _ y)) λy=>.inr ⟨pq _ y.1,y.2⟩;dsimp only at e;split at e
   . rename_i c;rw[G6]at e;split at e
     . rename_i qq;cases e;rw[Hc,Hc]at c;rw[eq_of_beq qq,eq_of_beq c.1.1];exact .inr ⟨rp,rfl⟩
     . exact sub (ih hr e)
   . rename_i c;rw[G6]at e;split at e
     . rename_i qq;cases e;rw[eq_of_beq qq];exact .inl rp
     . exact sub (ih hr e)
theorem ir (I:Inv X pins σ H s)(c:dD X scope N caps):∀x∈scope.names,x.2=.free->∃d,X.env.cells.lookup x.1=some d:=λx hx hf=>I.ok.has x.1 (.inl (c.fre x hx hf))
theorem qK (I:Inv X pins σ H s)(hf:∀b∈fp,mP X pins H b)(ho:∀b∈fp,∃o,s.heap.get? b=some o)(c:dD X scope N caps):
   Inv (aM X s H scope N fp) [] (fU σ caps++[some (.ref s.heap.objs.size)]) (upd H s.heap.objs.size (.lst []))
     { s with heap:=pushCells ((s.heap.push { cls:=.type "list",data:=.seq ([]:List Value).toArray }).push { cls:=.type "dict",data:=.dict #[] }) scope.names }:=by
 have hcl:∀x d,(cM X.env scope.names []).lookup x=some d->X.env.cells.lookup x=some d:=λx d=>fj X.env scope.names [] x d (λy d z=>by simp at z);have kp:∀b o,s.heap.get? b=some o->(pushCells ((s.heap.push { cls:=.type "list",data:=.seq ([]:List Value).toArray }).push { cls:=.type "dict",data:=.dict #[] }) scope.names).get? b=some o:=λb o e=>pushCells_keeps _ _ b o (ip _ (ip _ e));have sz2:((s.heap.push { cls:=.type "list",data:=.seq ([]:List Value).toArray }).push { cls:=.type "dict",data:=.dict #[] }).objs.size=s.heap.objs.size+1+1:=by rw[HC,HC]
 have oldc:∀x d,X.env.cells.lookup x=some d->d<s.heap.objs.size:=λx d e=>by obtain⟨v,o,q,_⟩:=I.cell x d e;exact Gr q
 have cel:∀x d,(aM X s H scope N fp).env.cells.lookup x=some d->s.heap.objs.size+1+1<=d\/X.env.cells.lookup x=some d:=λx d e=>by
   rcases xo _ _ _ x d e with q | q
   . exact .inl q
   . exact .inr (hcl x d q)
 have ok:(aM X s H scope N fp).Ok:=by
   refine⟨I.ok.mod,c.kind,I.ok.glob,I.ok.blt,HH _,?_,?_,?_,I.ok.hd,I.ok.frames,.inl rfl,?_,I.bs,GB I.ok.bsz I.sz,?_,?_,I.stack,I.uY⟩
   . exact ue _ _ _ (λx d e=>Gz (oldc x d (hcl x d e)) (by omega)) λx y d e1 e2=>I.ok.inj x y d (hcl x d e1) (hcl y d e2)
   . intro x hx;have hfk:∀y,(y,Hu)∈scope.names->X.env.kindOf y=some .cell:=λy hy=>c.fre _ hy rfl
     have fre:(x,Hu)∈scope.names->∃d,(aM X s H scope N fp).env.cells.lookup x=some d:=λhm=>by
       obtain⟨d,hd⟩:=ir I c _ hm rfl
       exact⟨d,by
         show (cellsFrom _ scope.names _).lookup x=_;rw[lN _ _ _ x (c.one x hm)];exact da X.env scope.names [] x d (λy e z=>by simp at z) hd (.inl hm)⟩
     have own:(x,HG)∈scope.names->∃d,(aM X s H scope N fp).env.cells.lookup x=some d:=λhm=>by obtain⟨d,e,_⟩:=pd scope.names (s.heap.objs.size+1+1) (cM X.env scope.names []) x hm;exact⟨d,e⟩
     rcases hx with hx | hx
     . rcases fo hfk I.ok.kind (show (scope.names.map _).lookup x=some .cell from hx) with q | q
       . exact own q
       . exact fre q.1
     . rcases fo hfk I.ok.kind (show (scope.names.map _).lookup x=some .free from hx) with q | q
       . exact fre q
       . exact fre q.1
   . intro x d hfn e;have hm:(x,HG)∈scope.names:=of_decide_eq_true hfn;obtain⟨d',e',l⟩:=pd scope.names (s.heap.objs.size+1+1) (cM X.env scope.names []) x hm;have e2:(cellsFrom (s.heap.objs.size+1+1) scope.names (cM X.env scope.names [])).lookup x=some d:=e;rw[e']at e2; cases e2;exact GB (GB (HH _) (HH _)) l
   . intro b hb;obtain⟨o,q⟩:=ho b hb;have bl:=Gr q;refine⟨λz=>?_,λx d e z=>?_⟩
     . have z':b=s.heap.objs.size+1:=z;rw[z']at bl;exact absurd bl (Nat.not_lt.mpr (HH _))
     . subst z;rcases cel x d e with q | q
       . exact absurd (Gz bl (GB (GB (HH _) (HH _)) q)) (Hs _)
       . exact(hf d hb).2.2.2.2.1 x d q rfl
   . intro b o e hb;rcases(hf b hb).2.2.2.1 with q | q
     . exact I.ok.noex b o e q
     . have:=Gz (Gr e) I.ok.bsz;exact absurd (Gz this q) (Hs _)
   . intro b hb hm;rcases xb.mp (I.sX b hm) with q | q
     . exact(hf b hb).2.1 q
     . exact(hf b hb).2.2.1 q
 have hD:(pushCells ((s.heap.push { cls:=.type "list",data:=.seq ([]:List Value).toArray }).push { cls:=.type "dict",data:=.dict #[] }) scope.names).get? s.heap.objs.size=some { cls:=.type "list",data:=.seq ([]:List Value).toArray }:=pushCells_keeps _ _ _ _ (ip _ (Et _ rfl));have fr:∀a,s.heap.objs.size<=a->a≠s.heap.objs.size->(upd H s.heap.objs.size (.lst [])) a=none:=λa h1 h2=>by rw[ar h2]; exact I.hok.fresh h1
 refine⟨ok,rfl,I.bare,Un.laid kp (ia _) (I.hok.fresh (ia _)),⟨λ_=>none,?_,λi x v e1 e2 e3=>?_⟩,λx d e=>?_,?_,λx d e=>?_,λp hp=>absurd (show p∈([]:List (Addr×Obj)) from hp) (by simp),?_,?_⟩
 . have:=Heap.Ns.new (s.heap.push { cls:=.type "list",data:=.seq ([]:List Value).toArray }) (.type "dict");rw[HC]at this;exact this.keeps (pushCells_keeps _ _)
 . by_cases hi:i<caps.length
   . rw[Gw (by unfold fU; rw[fw]; exact hi)]at e2;unfold fU at e2;rw[GL]at e2;cases hc:caps[i]? with
     | none=>rw[hc]at e2; cases e2
     | some o=>
       rw[hc]at e2;cases o with
       | none=>cases e2
       | some j=>
         have e2':(σ[j]?).join=some v:=GS e2
         have e4:σ[j]?=some (some v):=by
           cases q:σ[j]? with
           | none=>rw[q]at e2'; cases e2'
           | some y=>rw[q]at e2'; exact congrArg some e2'
         obtain⟨x',g1,g2,g3⟩:=c.cap i j hc;rw[show (aM X s H scope N fp).N=N from rfl,g1]at e1;cases e1;have hkc:=c.fre _ g3 rfl;obtain⟨m,_,hl⟩:=I.loc;obtain⟨u,ru,look⟩:=hl j x v g2 e4 (.inr (.inl hkc));refine⟨u,ru,?_⟩;rcases look with ⟨k,_⟩ | ⟨k,d,hd,hcell⟩
         . rw[hkc]at k; cases k
         . have e5:(aM X s H scope N fp).env.cells.lookup x=some d:=by show (cellsFrom _ scope.names _).lookup x=_;rw[lN _ _ _ x (c.one x g3)];exact da X.env scope.names [] x d (λy e z=>by simp at z) hd (.inl g3)
           have hcell':Heap.IsCell (pushCells ((s.heap.push { cls:=.type "list",data:=.seq ([]:List Value).toArray }).push { cls:=.type "dict",data:=.dict #[] }) scope.names) d (some u):=by obtain⟨o,q1,q2⟩:=hcell;exact⟨o,kp _ _ q1,q2⟩
           refine .inr ⟨?_,d,e5,hcell'⟩;rcases e3 with e3 | e3 | e3
           . exfalso;rcases fo (λy hy=>c.fre _ hy rfl) I.ok.kind (show (scope.names.map _).lookup x=some .local from e3) with q | q
             . have q1:=c.loc _ q rfl;exact c.noboth x g3 q
             . cases q.2
           . exact .inl e3
           . exact .inr e3
   . exfalso;obtain⟨z,z1,z2⟩:=c.acc;have hl:i<N.length:=(GD.mp e1).1;have:i=caps.length:=by have:=c.len; omega
     subst this;rw[show (aM X s H scope N fp).N=N from rfl,z1]at e1;cases e1;exact z2 e3
 . rw[show (aM X s H scope N fp).env.cells=cellsFrom (s.heap.objs.size+1+1) scope.names (cM X.env scope.names []) from rfl,<- sz2]at e;refine pV scope.names _ _ (λy d' q=>?_) x d e;obtain⟨v,o,q1,q2⟩:=I.cell y d' (hcl y d' q);exact⟨v,o,ip _ (ip _ q1),q2⟩
 . exact fr _ (HH _) (K8 _)
 . rcases cel x d e with q | q
   . exact fr d (by omega) (by intro z; omega)
   . rw[ar (GR (oldc x d q))]; exact I.freeC x d q
 . exact I.hok.laid kp (ia _) ⟨G5 _,[],0,.nil,hD⟩
 . rw[vp];unfold fU;rw[fw,show (aM X s H scope N fp).N=N from rfl,c.len];rfl
end
def PTs (X:Cx)(ifs:List Expr)(t:TT):Prop:=
 ∀(pins:List (Addr×Obj)) (s:Shared) (σ:L2.St) (H:Hp) (Q:Bool->Hp->Prop),Inv X pins σ H s->t σ H Q ->
   wpAny (model X.prog X.w) X.A (forIn ifs true λc r=>if r=true then do let ok <- isTrue c X.env (eval c X.env); pure (II ok) else pure (II r)) (TP X pins σ Q) X.xe s
section
variable {prog:Program}{w:World}{A:Around}{R:Result->Shared->Prop}{s:Shared}
theorem kS {elt target iter:Expr}{ifs:List Expr}{scope:Scope}{pos:Pos}{it acc:Value}{env:Js}(Iv:Nat->Shared->Prop)
   (step:∀n s,Iv n s->wpAny (model prog w) A (pyNext it) (λr s₁=>match r with
     | none=>R (.ok .next) s₁
     | some v=>wpAny (model prog w) A (letOwnedTupleGo target it v) (λ_ s₀=>wpAny (model prog w) A (assign target env v) (λ_ s₂=>
         wpAny (model prog w) A (forIn ifs true λc r=>if r=true then do let ok <- isTrue c env (eval c env); pure (II ok) else pure (II r)) (λok s₃=>
           if ok=true then wpAny (model prog w) A (eval elt env) (λx s₄=>
             wpAny (model prog w) A (call (.builtin "list.append") [acc,x]) (λ_ s₅=>∃m,m<n/\Iv m s₅) (λ_ _=>False) s₄) (λ_ _=>False) s₃
           else ∃m,m<n/\Iv m s₃) (λ_ _=>False) s₂) (λ_ _=>False) s₀) (λ_ _=>False) s₁) (λ_ _=>False) s)
   (n:Nat) (h:Iv n s):codeAny (model prog w) A (.compLoop (.ListComp elt [⟨target,iter,ifs,0⟩] scope pos) 0 it acc env) R s:=by
 have no:∀{α:Type} {t:Sem α} {Q:α->Shared->Prop} {s:Shared} {E:Value->Shared->Prop},wpAny (model prog w) A t Q (λ_ _=>False) s->wpAny (model prog w) A t Q E s:=λh=>wpAny_mono h (λ_ _ q=>q) λ_ _ q=>q.elim;refine codeAny_loop rfl Iv (λn s hI=>?_) n h;show wpAny _ A (Sem.onRaise (compTurn (.ListComp elt [⟨target,iter,ifs,0⟩] scope pos) 0 it acc env) (λx=>do noteFrame x env; theTreesLotGoes x)) _ _ s;refine wpAny_noted ?_;rw[compTurn_list];refine wpAny_bind (wpAny_standAt (wpAny_bind (thn (no (step n s hI)) λr s₁ h₁=>?_)));cases r with
 | none=>exact wpAny_pure h₁
 | some v=>
   refine wpAny_bind (thn (no h₁) λ_ s₀ h₀=>wpAny_bind (thn (no h₀) λ_ s₂ h₂=>wpAny_bind (thn (no h₂) λok s₃ h₃=>?_)));cases ok with
   | false=>exact wpAny_pure ⟨rfl,h₃⟩
   | true=>exact wpAny_bind (wpAny_bind (thn (no h₃) λx s₄ h₄=>wpAny_bind (thn (no h₄) λ_ s₅ h₅=>wpAny_pure (wpAny_pure ⟨rfl,h₅⟩))))
end
theorem vE {X:Cx}{kd:Bool}{pins:List (Addr×Obj)}{σ:L2.St}{H:Hp}{s:Shared}{scope:Scope}{N:List Str}{fp:List Addr}(h:Ck kd X)(I:Inv X pins σ H s):Ck kd (aM X s H scope N fp):=by
 rcases h with h | ⟨hk,q,o,u,vs,e1,e2,e3,e4⟩
 . exact .inl h
 . exact .inr ⟨hk,q,o,u,vs,e1,I.base.frzs q o u e2,e3,e4⟩
def eJ (In:TG->TT->TE->Prop)(caps:List (Option Nat))(wi:TI):TE:=λσ H Q=>wi σ H λJ H1=>∃g tt te,In g tt te/\∀D,H1 D=none ->
 ∃Z:Nat->Nat->L2.St->Hp->Prop,(∃m,Z 0 m (fU σ caps++[some (.ref D)]) (upd H1 D (.lst [])))/\∀i m σ' H',Z i m σ' H' ->
   (J.stop i H'/\Q (.ref D) H')\/(J.go i H'/\∀x H2,J.yld i H' x H2->g x σ' H2 λσ2 H3=>tt σ2 H3 λb H4=>
     if b=true then te σ2 H4 λv H5=>∃vs m',H5 D=some (.lst vs)/\vs.length<sizeLine/\m'<m/\Z (i+1) m' σ2 (upd H5 D (.lst (vs++[v]))) else ∃m',m'<m/\Z (i+1) m' σ2 H4)
theorem cC {X:Cx}{elt tg iter:Expr}{ifs:List Expr}{scope:Scope}{N:List Str}{caps:List (Option Nat)}{pos:Pos}{wi:TI}{In:TG->TT->TE->Prop}(c:dD X scope N caps)(hi:PI X tg iter wi)
   (hs:∀x,foldedSetIterable iter X.env x=pure x)
   (hin:∀g tt te,In g tt te->∀s H fp,PG (aM X s H scope N fp) tg g/\PTs (aM X s H scope N fp) ifs tt/\PE (aM X s H scope N fp) elt te) :
   PE X (.ListComp elt [⟨tg,iter,ifs,0⟩] scope pos) (eJ In caps wi):=by
 intro pins s σ H Q I h;rw[eval_ListComp];have hcl:=vG (ir I c);refine wpAny_comprehension_free (use:=none) (g:=⟨tg,iter,ifs,0⟩) (gs:=[]) rfl hs hcl c.kind c.loc ?_;show wpAny _ _ (eval iter X.env) _ _ s;refine thn (hi pins s σ H _ I h) λv s1 h1=>thn h1 λitv s2 h2=>?_;obtain⟨kd,it,fp,tn,J,H2,e,I2,hck,T,st2,f2,g,tt,te,hI,q⟩:=h2;have hc:=vE (scope:=scope) (N:=N) (fp:=fp) hck I2;subst e;obtain⟨Z,⟨m0,z0⟩,turn⟩:=q s2.heap.objs.size (I2.hok.fresh (ia _));have ho:∀b∈fp,∃o,s2.heap.get? b=some o:=λb hb=>let ⟨o,e,_⟩:=T.obj _ _ st2 b hb; ⟨o,e⟩
 have I4:=qK (scope:=scope) (N:=N) (caps:=caps) I2 f2 ho c;obtain⟨hg,ht,he⟩:=hin g tt te hI s2 H2 fp;refine wpAny_newObj_type (nB ?_) (by show 0<=sizeLine; decide);have hC:(s2.heap.push { cls:=.type "list",dict:=none,data:=.seq ([]:List Value).toArray }).objs.size=s2.heap.objs.size+1:=HC ..;dsimp only;rw[hC];have kp:∀b o,s2.heap.get? b=some o->(pushCells ((s2.heap.push { cls:=.type "list",data:=.seq ([]:List Value).toArray }).push { cls:=.type "dict",data:=.dict #[] }) scope.names).get? b=some o:=λb o e=>pushCells_keeps _ _ b o (ip _ (ip _ e));have st4:tn 0 (pushCells ((s2.heap.push { cls:=.type "list",data:=.seq ([]:List Value).toArray }).push { cls:=.type "dict",data:=.dict #[] }) scope.names):=T.keep _ _ _ st2 λb _ o e=>kp b o e;have stat:∀{H':Hp},(∀b∈fp,H' b=none)->∀b∈fp,mP (aM X s2 H2 scope N fp) [] H' b:=λhn b hb=>⟨hn b hb,(I4.ok.exf b hb).1,I4.ok.exfs b hb,.inl hb,(I4.ok.exf b hb).2,λp hp=>absurd (show p∈([]:List (Addr×Obj)) from hp) (by simp)⟩;have fr4:∀b∈fp,(upd H2 s2.heap.objs.size (.lst [])) b=none:=λb hb=>by obtain⟨o,e⟩:=ho b hb;rw[ar (GR (Gr e))]; exact(f2 b hb).1
 have loop:codeAny (model X.prog X.w) X.A (.compLoop (.ListComp elt [⟨tg,iter,ifs,0⟩] scope pos) 0 (.ref it) (.ref s2.heap.objs.size) (aM X s2 H2 scope N fp).env)
     (compPost (model X.prog X.w) X.A X.xe none (EP X pins σ Q) (.ref s2.heap.objs.size) (s2.heap.objs.size+1))
     { s2 with heap:=pushCells ((s2.heap.push { cls:=.type "list",data:=.seq ([]:List Value).toArray }).push { cls:=.type "dict",data:=.dict #[] }) scope.names }:=by
   refine kS (λn s'=>∃i σ' H',Inv (aM X s2 H2 scope N fp) [] σ' H' s'/\tn i s'.heap/\(∀b∈fp,H' b=none)/\Z i n σ' H') ?_ m0 ⟨0,_,_,I4,st4,fr4,z0⟩;rintro n s3 ⟨i,σ3,H3,I3,st3,fr3,w3⟩;rcases turn i n σ3 H3 w3 with ⟨stop,qn⟩ | ⟨go,step⟩
   . refine thn (T.done (aM X s2 H2 scope N fp) rfl rfl rfl hc i [] s3 σ3 H3 _ I3 (stat fr3) st3 stop) λr s5 ⟨hr,I5⟩=>?_;subst hr;obtain⟨m,hn,_⟩:=id I5.loc;refine⟨m,hn,λh' sb=>⟨.ref s2.heap.objs.size,H3,?_,rfl,qn⟩⟩;have lt:∀b o,s2.heap.get? b=some o->b≠s2.heap.objs.size+1:=λb o e=>GR (JR (Gr e));have u:=I5.base
     have u':Un (frs X.stack) fp H2 H3 s2.heap h':=⟨λb o e n1 n2 n3=>(sb.2 b (lt b o e)).trans (u.keep b o e n1 n2 n3),λb o e n1 n2 n3=>let ⟨sl,z⟩:=u.slot b o e n1 n2 n3; ⟨sl,(sb.2 b (lt b o e)).trans z⟩,
       u.free,λb o e n1=>let ⟨o',z⟩:=u.there b o e n1; ⟨o',(sb.2 b (lt b o e)).trans z⟩,u.tups,u.frzs,u.tbls⟩
     have fC:H3 (s2.heap.objs.size+1)=none:=I5.free;refine I2.Bz (s':={ s5 with heap:=h' }) I5.os u' (λb o e=>(I5.hok b o e).lA (λd v hd z=>(sb.2 d ?_).trans z) (λ_ z=>z) λ_ _ z=>z) I5.bare λb hb=>⟨(f2 b hb).2.2.2.1,(f2 b hb).2.1,(f2 b hb).2.2.2.2.1,(f2 b hb).2.2.2.2.2⟩;rcases hd with hd | hd
     . rw[hd]; exact aR e fC
     . exact aR hd fC
   . refine thn (T.item (aM X s2 H2 scope N fp) rfl rfl rfl hc i [] s3 σ3 H3 _ I3 (stat fr3) st3 go) λr s4 ⟨u,hr,h4⟩=>?_;subst hr;refine thn h4 λ_ s5 ⟨x,H5,I5,r5,y5,st5,fr5⟩=>?_;have I5':=I5.pinned (stat fr5) (T.obj _ _ st5);refine thn (hg _ s5 σ3 H5 x u _ I5' r5 (step x H5 y5)) λ_ s6 ⟨σ6,H6,I6,q6⟩=>?_
     have again:∀{s7:Shared} {σ7:L2.St} {H7:Hp} {m':Nat},Inv (aM X s2 H2 scope N fp) ([]++iu fp s5.heap) σ7 H7 s7->m'<n->Z (i+1) m' σ7 H7 ->
         ∃m,m<n/\∃i σ' H',Inv (aM X s2 H2 scope N fp) [] σ' H' s7/\tn i s7.heap/\(∀b∈fp,H' b=none)/\Z i m σ' H':=λ{s7 σ7 H7 m'} I7 hm z7=>by
       refine⟨m',hm,i+1,σ7,H7,I7.eO,T.keep _ _ _ st5 λb hb o e=>(I7.pin (b,o) (tf _ (tf _ (bU hb e)))).1,λb hb=>?_,z7⟩;obtain⟨o,e,d⟩:=T.obj _ _ st5 b hb;exact(I7.pin (b,o) (tf _ (tf _ (bU hb e)))).2.1
     refine thn (ht _ s6 σ6 H6 _ I6 q6) λok s7 ⟨H7,I7,q7⟩=>?_;cases ok with
     | false=>rw[if_neg (by decide)]at q7;obtain⟨m',hm,z7⟩:=q7;exact again I7 hm z7
     | true=>rw[if_pos rfl]at q7;refine thn (he _ s7 σ6 H7 _ I7 q7) λv' s8 ⟨v,H8,I8,r8,vs,m',q8,l8,hm,z8⟩=>?_;refine thn (gL (X:=aM X s2 H2 scope N fp) _ s8 σ6 H8 (.ref s2.heap.objs.size) [v] (.ref s2.heap.objs.size) [v'] (λ_ H9=>H9=upd H8 s2.heap.objs.size (.lst (vs++[v]))) I8 rfl (.cons r8 .nil) ⟨_,vs,v,rfl,rfl,q8,l8,rfl⟩) λ_ s9 ⟨_,H9,I9,_,e9⟩=>?_;subst e9;exact again I9 hm z8
 exact codeAny_compStart_list loop (T.self _ 0 _ _ _ st4 loop)
end Ev
namespace Hy
open PySem PySem.Spec PyProof.Rows L2
open Ev (D Den ay)
open Classical in
noncomputable def hd (H:Hp)(M:Addr->Prop):Hp:=λb=>if M b then none else H b
theorem ax {H:Hp}{M:Addr->Prop}{b:Addr}{o:HO}:hd H M b=some o↔¬M b/\H b=some o:=by
 unfold hd;by_cases h:M b
 . rw[if_pos h]; exact⟨λz=>(nomatch z),λz=>absurd h z.1⟩
 . rw[if_neg h]; exact⟨λz=>⟨h,z⟩,λz=>z.2⟩
theorem aw {H H':Hp}{M M':Addr->Prop}(e:ak H H')(m:∀b,M' b->M b):ak (hd H M) (hd H' M'):=λb _ h=>ax.mpr ⟨λz=>(ax.mp h).1 (m b z),e b _ (ax.mp h).2⟩
theorem aG {H:Hp}{M:Addr->Prop}:ak (hd H M) H:=λ_ _ h=>(ax.mp h).2
inductive Nd where
 | d (x:D) | l (xs:List Nd) | t (xs:List Nd)
structure Ex where
 p:gV->Hp->HO->Addr->Prop
 mono:∀{K:gV} {G G':Hp} {o:HO} {a:Addr},ak G G'->p K G o a->p K G' o a
 ext:∀{K:gV} {G:Hp} {o:HO} {a:Addr},p K G o a->(∃φ,o=.ext φ)\/(∃ob φ,o=.frz ob (.ext φ))\/∃kvs,o=.dK kvs\/∃ob,o=.frz ob (.dK kvs)
noncomputable def F9:HO->Prop
 | .lst _=>True
 | .ins _ _ _=>True
 | .own _=>True
 | .dK _=>True
 | _=>False
structure Wx where
 p:gV->Hp->Hp->V->List Addr->Prop
 fr:∀{K:gV} {G G' H H':Hp} {u:V} {bs:List Addr},ak G G'->(∀b∈bs,H' b=H b)->p K G H u bs->p K G' H' u bs
 al:∀{K:gV} {G H:Hp} {u:V} {bs:List Addr},p K G H u bs->∀b∈bs,∃o,H b=some o/\F9 o
inductive Sl where
 | un | d (x:D) | o (xs:List D) | n (t:Nd) | x (E:Ex) | w (W:Wx)
mutual
inductive bR (K:gV)(G H:Hp):V->List Addr->Nd->Prop where
 | d {u:V} {x:D} (h:Den K G u x):bR K G H u [] (.d x)
 | l {a:Addr} {vs:List V} {bs:List Addr} {xs:List Nd} (h:H a=some (.lst vs)) (r:aZ K G H vs bs xs):bR K G H (.ref a) (a::bs) (.l xs)
 | t {a:Addr} {vs:List V} {bs:List Addr} {xs:List Nd} (h:H a=some (.tup vs)) (r:aZ K G H vs bs xs):bR K G H (.ref a) (a::bs) (.t xs)
inductive aZ (K:gV)(G H:Hp):List V->List Addr->List Nd->Prop where
 | nil:aZ K G H [] [] []
 | cons {v:V} {vs:List V} {b1 b2:List Addr} {s:Nd} {ss:List Nd} (h:bR K G H v b1 s) (r:aZ K G H vs b2 ss):aZ K G H (v::vs) (b1++b2) (s::ss)
end
noncomputable def bO (K:gV)(G H:Hp)(v:Option V)(bs:List Addr):Sl->Prop
 | .un=>bs=[]
 | .d x=>bs=[]/\∃u,v=some u/\Den K G u x
 | .o xs=>∃a vs,bs=[a]/\v=some (.ref a)/\H a=some (.lst vs)/\ay K G vs xs
 | .n t=>bs.Nodup/\∃u,v=some u/\bR K G H u bs t
 | .x E=>∃a o,bs=[a]/\v=some (.ref a)/\H a=some o/\E.p K G o a
 | .w W=>bs.Nodup/\∃u,v=some u/\W.p K G H u bs
section
variable {K:gV}{G G' H H':Hp}
mutual
theorem bR.frame (g:ak G G'):∀{u:V} {bs:List Addr} {t:Nd},(∀b∈bs,H' b=H b)->bR K G H u bs t->bR K G' H' u bs t
 | _,_,_,_,.d h=>.d (h.mono g)
 | _,_,_,e,.l h r=>.l (by rw[e _ (rp ..)]; exact h) (aZ.frame g (λb hb=>e b (pq _ hb)) r)
 | _,_,_,e,.t h r=>.t (by rw[e _ (rp ..)]; exact h) (aZ.frame g (λb hb=>e b (pq _ hb)) r)
theorem aZ.frame (g:ak G G'):∀{vs:List V} {bs:List Addr} {xs:List Nd},(∀b∈bs,H' b=H b)->aZ K G H vs bs xs->aZ K G' H' vs bs xs
 | _,_,_,_,.nil=>.nil
 | _,_,_,e,.cons h r=>.cons (bR.frame g (λb hb=>e b (GF _ hb)) h) (aZ.frame g (λb hb=>e b (tf _ hb)) r)
end
mutual
theorem bR.some_of:∀{u:V} {bs:List Addr} {t:Nd},bR K G H u bs t->∀b∈bs,∃o,H b=some o
 | _,_,_,.d _,_,z=>nomatch z
 | _,_,_,.l h r,b,z=>(xb.mp z).elim (λe=>e▸⟨_,h⟩) λz=>aZ.some_of r b z
 | _,_,_,.t h r,b,z=>(xb.mp z).elim (λe=>e▸⟨_,h⟩) λz=>aZ.some_of r b z
theorem aZ.some_of:∀{vs:List V} {bs:List Addr} {xs:List Nd},aZ K G H vs bs xs->∀b∈bs,∃o,H b=some o
 | _,_,_,.nil,_,z=>nomatch z
 | _,_,_,.cons h r,b,z=>(Gv.mp z).elim (λz=>bR.some_of h b z) λz=>aZ.some_of r b z
end
theorem bR.mono (g:ak G G')(e:ak H H'){u:V}{bs:List Addr}{t:Nd}(h:bR K G H u bs t):bR K G' H' u bs t:=h.frame g λb hb=>by obtain⟨o,q⟩:=h.some_of b hb;rw[q,e b o q]
theorem bO.mono (g:ak G G')(e:ak H H'){v:Option V}{bs:List Addr}:∀{s:Sl},bO K G H v bs s->bO K G' H' v bs s
 | .un,h=>h
 | .d _,⟨h,u,e1,h2⟩=>⟨h,u,e1,h2.mono g⟩
 | .o _,⟨a,vs,h1,h2,h3,h4⟩=>⟨a,vs,h1,h2,e _ _ h3,h4.mono g⟩
 | .n _,⟨h0,u,h1,h2⟩=>⟨h0,u,h1,h2.mono g e⟩
 | .x E,⟨a,o,h1,h2,h3,h4⟩=>⟨a,o,h1,h2,e _ _ h3,E.mono g h4⟩
 | .w W,⟨h0,u,h1,h2⟩=>⟨h0,u,h1,W.fr g (λb hb=>by obtain⟨o,q,_⟩:=W.al h2 b hb; rw[q,e b o q]) h2⟩
end
def own (A:Addr->Prop)(B:Nat->List Addr)(b:Addr):Prop:=A b\/∃i,b∈B i
noncomputable def vw (C:Bool)(A:Addr->Prop)(B:Nat->List Addr):Addr->Prop:=match C with
 | true=>own A B
 | false=>A
structure Sta (K:gV)(A:Addr->Prop)(H₀:Hp)(τ:List Sl)(B:Nat->List Addr)(σ:L2.St)(H:Hp):Prop where
 same:ak H₀ H
 len:σ.length=τ.length
 sl:∀i s,τ[i]?=some s->bO K (hd H (own A B)) H (σ[i]?).join (B i) s
 fr:∀i b,b∈B i->H₀ b=none
 uq:∀i j b,b∈B i->b∈B j->i=j
 ad:∀b,A b->∃o,H₀ b=some o
 bd:∀i b,b∈B i->∃o,H b=some o
noncomputable def upB (B:Nat->List Addr)(i:Nat)(bs:List Addr):Nat->List Addr:=λj=>if j=i then bs else B j
section
variable {K:gV}{A:Addr->Prop}{H₀ H H':Hp}{τ:List Sl}{B:Nat->List Addr}{σ:L2.St}
theorem Sta.dm (S:Sta K A H₀ τ B σ H)(b:Addr)(h:own A B b):∃o,H b=some o:=h.elim (λz=>let ⟨o,q⟩:=S.ad b z; ⟨o,S.same _ _ q⟩) λ⟨i,z⟩=>S.bd i b z
theorem Sta.mono (S:Sta K A H₀ τ B σ H)(e:ak H H'):Sta K A H₀ τ B σ H' where
 same:=S.same.trans e
 len:=S.len
 sl:=λi s h=>(S.sl i s h).mono (aw e λ_ z=>z) e
 fr:=S.fr
 uq:=S.uq
 ad:=S.ad
 bd:=λi b h=>let ⟨o,q⟩:=S.bd i b h; ⟨o,e _ _ q⟩
theorem bo {i j:Nat}{bs:List Addr}{b:Addr}(h:b∈upB B i bs j):(j=i/\b∈bs)\/(j≠i/\b∈B j):=by
 unfold upB at h;by_cases e:j=i
 . rw[if_pos e]at h; exact .inl ⟨e,h⟩
 . rw[if_neg e]at h; exact .inr ⟨e,h⟩
theorem Sta.set (S:Sta K A H₀ τ B σ H)(e:ak H H'){i:Nat}{v:V}{s:Sl}{bs:List Addr}(hf:∀b∈bs,H b=none/\∃o,H' b=some o)(h:bO K (hd H' λb=>own A B b\/b∈bs) H' (some v) bs s):
   Sta K A H₀ (τ.set i s) (upB B i bs) (σ.set i (some v)) H':=by
 have sub:∀b,own A (upB B i bs) b->own A B b\/b∈bs:=λb z=>z.elim (λz=>.inl (.inl z)) λ⟨j,z⟩=>(bo z).elim (λz=>.inr z.2) λz=>.inl (.inr ⟨j,z.2⟩);have some_of:∀b j,b∈B j->∃o,H b=some o:=λb j z=>S.dm b (.inr ⟨j,z⟩);refine⟨S.same.trans e,by rw[G7,G7,S.len],λj t hj=>?_,λj b hb=>?_,λj k b h1 h2=>?_,S.ad,λj b hb=>?_⟩
 . by_cases ej:j=i
   . subst ej
     have hl:j<τ.length:=by
       have:=(GD.mp hj).1
       rwa [G7]at this
     rw[G1 hl]at hj;cases hj;rw[G1 (by rw[S.len]; exact hl)];unfold upB;rw[if_pos rfl];exact h.mono (aw (ak.refl _) sub) (ak.refl _)
   . rw[GW (λz=>ej z.symm)]at hj;rw[GW (λz=>ej z.symm)];unfold upB;rw[if_neg ej];have q:=S.sl j t hj;refine q.mono (λb o z=>?_) e;obtain⟨z1,z2⟩:=ax.mp z;refine ax.mpr ⟨λy=>?_,e _ _ z2⟩;rcases sub b y with y | y
     . exact z1 y
     . rw[(hf b y).1]at z2; cases z2
 . rcases bo hb with ⟨_,z⟩ | ⟨_,z⟩
   . exact S.same.free (hf b z).1
   . exact S.fr j b z
 . rcases bo h1 with ⟨e1,z1⟩ | ⟨e1,z1⟩ <;> rcases bo h2 with ⟨e2,z2⟩ | ⟨e2,z2⟩
   . exact e1.trans e2.symm
   . obtain⟨o,q⟩:=some_of b k z2; rw[(hf b z1).1]at q; cases q
   . obtain⟨o,q⟩:=some_of b j z1; rw[(hf b z2).1]at q; cases q
   . exact S.uq j k b z1 z2
 . rcases bo hb with ⟨_,z⟩ | ⟨_,z⟩
   . exact(hf b z).2
   . obtain⟨o,q⟩:=S.bd j b z; exact⟨o,e _ _ q⟩
theorem Sta.less (S:Sta K A H₀ τ B σ H){i:Nat}{s:Sl}{bs:List Addr}(hb:∀b∈bs,b∈B i)(h:∀G:Hp,ak (hd H (own A B)) G->(∀b o,b∈B i->b∉bs->H b=some o->G b=some o)->bO K G H (σ[i]?).join bs s):Sta K A H₀ (τ.set i s) (upB B i bs) σ H:=by
 have sub:∀b,own A (upB B i bs) b->own A B b:=λb z=>z.elim .inl λ⟨j,z⟩=>(bo z).elim (λz=>.inr ⟨i,hb b z.2⟩) λz=>.inr ⟨j,z.2⟩;refine⟨S.same,by rw[G7,S.len],λj t hj=>?_,λj b h=>?_,λj k b h1 h2=>?_,S.ad,λj b h=>(bo h).elim (λz=>S.bd i b (hb b z.2)) λz=>S.bd j b z.2⟩
 . by_cases ej:j=i
   . subst ej
     have hl:j<τ.length:=by
       have:=(GD.mp hj).1
       rwa [G7]at this
     rw[G1 hl]at hj;cases hj;unfold upB;rw[if_pos rfl];refine h _ (aw (ak.refl _) sub) λb o z1 z2 z3=>ax.mpr ⟨λy=>?_,z3⟩;rcases y with y | ⟨m,y⟩
     . obtain⟨_,q⟩:=S.ad b y;rw[S.fr j b z1]at q; cases q
     . rcases bo y with ⟨e,y⟩ | ⟨e,y⟩
       . exact z2 y
       . exact e (S.uq m j b y z1)
   . rw[GW (λz=>ej z.symm)]at hj;unfold upB;rw[if_neg ej];exact(S.sl j t hj).mono (aw (ak.refl _) sub) (ak.refl _)
 . rcases bo h with ⟨e,z⟩ | ⟨_,z⟩
   . exact S.fr i b (hb b z)
   . exact S.fr j b z
 . rcases bo h1 with ⟨e1,z1⟩ | ⟨e1,z1⟩ <;> rcases bo h2 with ⟨e2,z2⟩ | ⟨e2,z2⟩
   . exact e1.trans e2.symm
   . exact absurd (S.uq k i b z2 (hb b z1)) e2
   . exact absurd (S.uq j i b z1 (hb b z2)) e1
   . exact S.uq j k b z1 z2
end
end Hy
namespace Hy
open PySem PySem.Spec PyProof.Rows L2
open Ev (D Den ay aJ aE ao aS aQ)
def Fr (H H':Hp)(bs:List Addr):Prop:=∀b∈bs,H b=none/\∃o,H' b=some o
def dE (K:gV)(C:Bool)(τ:List Sl)(s:Sl):TE:=λσ H Q=>∃A H₀ B,Sta K A H₀ τ B σ H /\
 ∀v H' bs,ak H H'->Fr H H' bs->bO K (hd H' λb=>vw C A B b\/b∈bs) H' (some v) bs s->Q v H'
def dA (K:gV)(C:Bool)(τ:List Sl)(ds:List D):TA:=λσ H Q=>∃A H₀ B,Sta K A H₀ τ B σ H /\
 ∀vs H',ak H H'->ay K (hd H' (vw C A B)) vs ds->Q vs H'
def dT (K:gV)(τ:List Sl)(c:Bool):TT:=λσ H Q=>∃A H₀ B,Sta K A H₀ τ B σ H/\∀H',ak H H'->Q c H'
structure Po where
 nx:List Sl->Prop
 rt:Sl->Prop
 bk:List Sl->Prop:=λ_=>False
 ct:List Sl->Prop:=λ_=>False
 xc:Hp->Prop:=λ_=>True
structure Meets (K:gV)(A:Addr->Prop)(H₀:Hp)(N:Po)(D:Ends):Prop where
 nx:∀τ B σ H,N.nx τ->Sta K A H₀ τ B σ H->D.nx σ H
 bk:∀τ B σ H,N.bk τ->Sta K A H₀ τ B σ H->D.bk σ H
 ct:∀τ B σ H,N.ct τ->Sta K A H₀ τ B σ H->D.ct σ H
 rt:∀v H bs s,N.rt s->ak H₀ H->Fr H₀ H bs->bO K (hd H λb=>A b\/b∈bs) H (some v) bs s->D.rt v H
 xc:∀H,ak H₀ H->N.xc H
def dS (K:gV)(τ:List Sl)(N:Po):TS:=λD σ H=>∃A H₀ B,Sta K A H₀ τ B σ H/\Meets K A H₀ N D
theorem peW {X:Cx}{e:Expr}{t t':TE}(h:PE X e t)(f:∀σ H Q,t' σ H Q->t σ H Q):PE X e t':=λpins s σ H Q I q=>h pins s σ H Q I (f σ H Q q)
theorem ptW {X:Cx}{e:Expr}{t t':TT}(h:PT X e t)(f:∀σ H Q,t' σ H Q->t σ H Q):PT X e t':=λpins s σ H Q I q=>h pins s σ H Q I (f σ H Q q)
theorem pwW {X:Cx}{e:Expr}{t t':TT}(h:PW X e t)(f:∀σ H Q,t' σ H Q->t σ H Q):PW X e t':=λwh pins s σ H Q I q=>h wh pins s σ H Q I (f σ H Q q)
theorem paW {X:Cx}{e:List Expr}{t t':TA}(h:PA X e t)(f:∀σ H Q,t' σ H Q->t σ H Q):PA X e t':=λp pins s σ H Q I q=>h p pins s σ H Q I (f σ H Q q)
theorem psW {X:Cx}{e:Stmt}{t t':TS}(h:PS X e t)(f:∀D σ H,t' D σ H->t D σ H):PS X e t':=λpins s σ H D I q=>h pins s σ H D I (f D σ H q)
theorem tE {X:Cx}{e:List Stmt}{t t':TS}(h:PSs X e t)(f:∀D σ H,t' D σ H->t D σ H):PSs X e t':=λpins s σ H D I q=>h pins s σ H D I (f D σ H q)
section
variable {K:gV}{C:Bool}{τ:List Sl}{A:Addr->Prop}{H₀ H H':Hp}{B:Nat->List Addr}{σ:L2.St}{x y z:D}{Q:VK}
theorem jl {b:Addr}(h:vw C A B b):own A B b:=by
 cases C with
 | true=>exact h
 | false=>exact .inl h
theorem Sta.vd (S:Sta K A H₀ τ B σ H)(b:Addr)(h:vw C A B b):∃o,H b=some o:=S.dm b (jl h)
theorem aF (S:Sta K A H₀ τ B σ H)(k:∀v H',ak H H'->Den K (hd H' (vw C A B)) v x->Q v H'):dE K C τ (.d x) σ H Q:=
 ⟨A,H₀,B,S,λv H' bs e _ ⟨hb,u,eu,h⟩=>by
   cases eu;exact k v H' e (h.mono (aw (ak.refl _) λ_ z=>.inl z))⟩
theorem ck (h:dE K C τ (.d x) σ H Q):∃A H₀ B,Sta K A H₀ τ B σ H/\∀v H',ak H H'->Den K (hd H' (vw C A B)) v x->Q v H':=by obtain⟨A,H₀,B,S,k⟩:=h;exact⟨A,H₀,B,S,λv H' e d=>k v H' [] e (λ_ z=>nomatch z) ⟨rfl,v,rfl,d.mono (aw (ak.refl _) λ_ z=>z.elim id λz=>nomatch z)⟩⟩
theorem c9 {ds:List D}{Q:List V->Hp->Prop}(S:Sta K A H₀ τ B σ H)(k:∀vs H',ak H H'->ay K (hd H' (vw C A B)) vs ds->Q vs H'):dA K C τ ds σ H Q:=⟨A,H₀,B,S,k⟩
theorem lK {M:Addr->Prop}{p:Addr}{o:HO}(hM:∀b,M b->∃o,H b=some o)(hp:H p=none):hd (upd H p o) M p=some o:=ax.mpr ⟨λz=>(by obtain⟨o,q⟩:=hM p z; rw[hp]at q; cases q),au⟩
mutual
noncomputable def ndD:Nd->D
 | .d x=>x
 | .l xs=>.lst (mG xs)
 | .t xs=>.tup (mG xs)
noncomputable def mG:List Nd->List D
 | []=>[]
 | x::xs=>ndD x::mG xs
end
noncomputable def fzD:Sl->Option D
 | .un=>none
 | .d x=>some x
 | .o xs=>some (.lst xs)
 | .n t=>some (ndD t)
 | .x _=>none
 | .w _=>none
mutual
theorem bR.den {G G':Hp}(g:ak G G'):∀{u:V} {bs:List Addr} {t:Nd},(∀b∈bs,∀o,H b=some o->G' b=some o)->bR K G H u bs t->Den K G' u (ndD t)
 | _,_,_,_,.d h=>h.mono g
 | _,_,_,e,.l h r=>.lst (SqL.of (e _ (rp ..) _ h)) (aZ.den g (λb hb=>e b (pq _ hb)) r)
 | _,_,_,e,.t h r=>.tup (SqT.of (e _ (rp ..) _ h)) (aZ.den g (λb hb=>e b (pq _ hb)) r)
theorem aZ.den {G G':Hp}(g:ak G G'):∀{vs:List V} {bs:List Addr} {xs:List Nd},(∀b∈bs,∀o,H b=some o->G' b=some o)->aZ K G H vs bs xs->ay K G' vs (mG xs)
 | _,_,_,_,.nil=>.nil
 | _,_,_,e,.cons h r=>.cons (bR.den g (λb hb=>e b (GF _ hb)) h) (aZ.den g (λb hb=>e b (tf _ hb)) r)
end
theorem bO.den {G G':Hp}{v:Option V}{bs:List Addr}{s:Sl}(h:bO K G H v bs s)(g:ak G G')(hv:∀b∈bs,∀o,H b=some o->G' b=some o)(e:fzD s=some x):∃u,v=some u/\Den K G' u x:=by
 cases s with
 | un=>cases e
 | d y=>cases e; obtain⟨_,u,e,q⟩:=h; exact⟨u,e,q.mono g⟩
 | o xs=>cases e;obtain⟨a,vs,rfl,h2,h3,h4⟩:=h;exact⟨_,h2,.lst (SqL.of (hv a (rp ..) _ h3)) (h4.mono g)⟩
 | n t=>cases e;obtain⟨_,u,e,q⟩:=h;exact⟨u,e,q.den g hv⟩
 | x E=>cases e
 | w W=>cases e
theorem slot_of {i:Nat}{u:V}(h:(σ[i]?).join=some u):σ[i]?=some (some u):=by
 cases e:σ[i]? with
 | none=>rw[e]at h; cases h
 | some o=>rw[e]at h; exact congrArg some h
end
section
variable {X:Cx}{C:Bool}{τ:List Sl}{x y z:D}{a b e:Expr}{es:List Expr}{pos:Pos}
theorem aa (i:Nat){n:Str}{x:D}(h:τ[i]?=some (.d x):=by rfl)(hN:X.N[i]?=some n:=by rfl)(hv:Vis X.env.scope n:=by first | exact Hh rfl | exact G0 (Hh rfl) | exact G0 (G0 rfl))
   (hd:(n==("__debug__" : Str))=false:=by decide) (hcd:(n==("__classdict__" : Str))=false:=by decide):PE X (.Name n pos) (dE X.K C τ (.d x)):=peW (a4 hN hv hd hcd) λσ H Q q=>by
 obtain⟨A,H₀,B,S,k⟩:=ck q;obtain⟨_,u,e,d⟩:=S.sl i _ h;exact⟨u,slot_of e,k u H (ak.refl _) (d.mono (aw (ak.refl _) λ_ z=>jl z))⟩
theorem gu (i:Nat){n:Str}{s:Sl}{x:D}(h:τ[i]?=some s:=by rfl)(hx:fzD s=some x:=by rfl)(hN:X.N[i]?=some n:=by rfl)(hv:Vis X.env.scope n:=by first | exact Hh rfl | exact G0 (Hh rfl) | exact G0 (G0 rfl))
   (hd:(n==("__debug__" : Str))=false:=by decide) (hcd:(n==("__classdict__" : Str))=false:=by decide):PE X (.Name n pos) (dE X.K false τ (.d x)):=peW (a4 hN hv hd hcd) λσ H Q q=>by
 obtain⟨A,H₀,B,S,k⟩:=ck q;obtain⟨u,e,d⟩:=(S.sl i _ h).den (G':=Hy.hd H A) (aw (ak.refl _) λ_ z=>.inl z) (λb hb o ho=>ax.mpr ⟨λz=>(by obtain⟨_,q⟩:=S.ad b z; rw[S.fr i b hb]at q; cases q),ho⟩) hx;exact⟨u,slot_of e,k u H (ak.refl _) d⟩
theorem nJ {v:V}(h:PE X e (tC v))(d:∀H,Den X.K H v x):PE X e (dE X.K C τ (.d x)):=peW h λσ H Q q=>by obtain⟨A,H₀,B,S,k⟩:=ck q;exact k v H (ak.refl _) (d _)
theorem ae {i j}:PE X (.Constant (.int i) j pos) (dE X.K C τ (.d (.int i))):=nJ jr λ_=>.int
theorem Di {b j}:PE X (.Constant (.bool b) j pos) (dE X.K C τ (.d (.bl b))):=nJ D7 λ_=>.bl
theorem Bn {j}:PE X (.Constant .none j pos) (dE X.K C τ (.d .non)):=nJ CO λ_=>.non
theorem b5 {s j}:PE X (.Constant (.str s) j pos) (dE X.K C τ (.d (.str s))):=nJ C8 λ_=>.str
theorem jq {n:Str}{i:Int}(hm:∃t,X.mg n=some (.int i t))(hg:Gl X n:=by rfl)(hd:(n==("__debug__" : Str))=false:=by decide):PE X (.Name n pos) (dE X.K C τ (.d (.int i))):=by obtain⟨t,hm⟩:=hm;exact nJ (uS (v:=.int i) hg hm ⟨t,rfl⟩ hd) λ_=>.int
theorem a7 {s:Sl}(h:PE X e (dE X.K C τ s))(hx:fzD s=some x:=by rfl):PE X e (dE X.K C τ (.d x)):=peW h λσ H Q q=>by obtain⟨A,H₀,B,S,k⟩:=ck q;refine⟨A,H₀,B,S,λv H' bs e hf q=>?_⟩;have vd:=S.vd (C:=C);obtain⟨u,e1,d⟩:=q.den (G':=Hy.hd H' (vw C A B)) (aw (ak.refl _) λ_ z=>.inl z) (λb hb o ho=>ax.mpr ⟨λz=>(by obtain⟨_,q⟩:=vd b z; rw[(hf b hb).1]at q; cases q),ho⟩) hx;cases e1;exact k v H' e d
noncomputable def flat:D->Bool
 | .tup _=>false
 | .lst _=>false
 | .box _=>false
 | _=>true
theorem yG {K:gV}{G G':Hp}{v:V}(h:Den K G v x)(f:flat x=true):Den K G' v x:=by
 cases h with
 | non=>exact .non
 | bl=>exact .bl
 | int=>exact .int
 | str=>exact .str
 | tup _ _=>cases f
 | lst _ _=>cases f
 | box _=>cases f
def bW (X:Cx)(f:Value->Value->Sem Value)(x y z:D):Prop:=∃r:R2,OpR X f r /\
 ∀(M:Addr->Prop) (v w:V) (H:Hp) (Q:VK),(∀b,M b->∃o,H b=some o)->Den X.K (hd H M) v x->Den X.K (hd H M) w y->(∀u H',ak H H'->Den X.K (hd H' M) u z->Q u H')->r v w H Q
theorem two {r:R2}(hr:∀(M:Addr->Prop) (v w:V) (H:Hp) (Q:VK),(∀b,M b->∃o,H b=some o)->Den X.K (hd H M) v x->Den X.K (hd H M) w y->(∀u H',ak H H'->Den X.K (hd H' M) u z->Q u H')->r v w H Q):
   ∀σ H Q,dE X.K C τ (.d z) σ H Q->tOp r (dE X.K C τ (.d x)) (dE X.K C τ (.d y)) σ H Q:=by
 intro σ H Q h;obtain⟨A,H₀,B,S,k⟩:=ck h;refine aF S λv H1 e1 d1=>aF (S.mono e1) λw H2 e2 d2=>hr (vw C A B) v w H2 Q ((S.mono e1).mono e2).vd (d1.mono (aw e2 λ_ z=>z)) d2 λu H' e3 d3=>k u H' (e1.trans (e2.trans e3)) d3
theorem aB {op:Operator}(ha:PE X a (dE X.K C τ (.d x)))(hb:PE X b (dE X.K C τ (.d y)))(ho:bW X (binaryOp op) x y z):PE X (.BinOp a op b pos) (dE X.K C τ (.d z)):=by obtain⟨r,h1,h2⟩:=ho;exact peW (zw h1 ha hb) (two h2)
theorem cc {op:CmpOp}(ha:PE X a (dE X.K C τ (.d x)))(hb:PE X b (dE X.K C τ (.d y)))(ho:bW X (compareOp op) x y z)(hm:behindInMarks op b=false:=by first | exact tL _ | rfl):PE X (.Compare a [op] [b] pos) (dE X.K C τ (.d z)):=by obtain⟨r,h1,h2⟩:=ho;exact peW (AI h1 ha hb hm) (two h2)
theorem xg {t:TE}{c:Bool}(h:∀σ H Q,dE X.K false τ (.d (.bl c)) σ H Q->t σ H Q):∀σ H Q,dT X.K τ c σ H Q->t σ H λx H'=>∃k,x=.bl k/\Q k H':=λσ H Q ⟨A,H₀,B,S,k⟩=>h σ H _ (aF S λv H' e d=>by cases d; exact⟨c,rfl,k H' e⟩)
theorem aX {op:CmpOp}{c:Bool}(ha:PE X a (dE X.K false τ (.d x)))(hb:PE X b (dE X.K false τ (.d y)))(ho:bW X (compareOp op) x y (.bl c))(hm:behindInMarks op b=false:=by first | exact tL _ | rfl):PT X (.Compare a [op] [b] pos) (dT X.K τ c):=by obtain⟨r,h1,h2⟩:=ho;exact ptW (vo h1 ha hb hm) (xg (two h2))
theorem a6 {c:Bool}(h:PE X e (dE X.K false τ (.d (.bl c))))(he:∀whole,isTrue e X.env whole=(do let v <- whole; standAt e.pos; holding [v] (truthy v)):=by intro _; rfl):PT X e (dT X.K τ c):=ptW (Ca h he) (xg λ_ _ _ q=>q)
theorem m6 {g:Int->Int->V}{P:Int->Int->Prop}{i j:Int}(hc:P i j)(hz:∀K H,Den K H (g i j) z):∀(M:Addr->Prop) (v w:V) (H:Hp) (Q:VK),(∀b,M b->∃o,H b=some o)->Den X.K (hd H M) v (.int i)->Den X.K (hd H M) w (.int j) ->
   (∀u H',ak H H'->Den X.K (hd H' M) u z->Q u H')->rI P g v w H Q:=λ_ v w H Q _ d1 d2 k=>by
 cases d1;cases d2;exact⟨i,j,rfl,rfl,hc,k _ H (ak.refl _) (hz _ _)⟩
theorem jZ {g:Int->Int->V}{i j:Int}(hz:∀K H,Den K H (g i j) z):∀(M:Addr->Prop) (v w:V) (H:Hp) (Q:VK),(∀b,M b->∃o,H b=some o)->Den X.K (hd H M) v (.int i)->Den X.K (hd H M) w (.int j) ->
   (∀u H',ak H H'->Den X.K (hd H' M) u z->Q u H')->rI0 g v w H Q:=λ_ v w H Q _ d1 d2 k=>by
 cases d1;cases d2;exact⟨i,j,rfl,rfl,k _ H (ak.refl _) (hz _ _)⟩
variable {i j:Int}
theorem bp:bW X (binaryOp .Add) (.int i) (.int j) (.int (i+j)):=⟨_,C3,jZ λ_ _=>.int⟩
theorem hU:bW X (binaryOp .Sub) (.int i) (.int j) (.int (i-j)):=⟨_,DP,jZ λ_ _=>.int⟩
theorem Er:bW X (binaryOp .BitAnd) (.int i) (.int j) (.int (K7 i j)):=⟨_,Cp,jZ λ_ _=>.int⟩
theorem FY:bW X (binaryOp .BitOr) (.int i) (.int j) (.int (Li i j)):=⟨_,D8,jZ λ_ _=>.int⟩
theorem aJ.ok' {i j:Int}(h:aJ i j):IntMulOk i j:=by
 have b:∀{k:Int} {n:Nat},k.natAbs.log2<n->Builtin.Int.intBits k<=n:=λ{k n} q=>by
   unfold Builtin.Int.intBits;split
   . exact G5 _
   . exact q
 rcases h with h | h | ⟨h1,h2⟩
 . exact .of_left (b h)
 . exact .of_right (b h)
 . exact .of_bits (GB (b h1) (by decide)) (GB (b h2) (by decide))
theorem bf (h:aJ i j):bW X (binaryOp .Mult) (.int i) (.int j) (.int (i*j)):=⟨rI aJ λi j=>.int (i*j),opI λ_ _ _ _ _ _ _ hc q=>mul_int q (aJ.ok' hc),m6 h λ_ _=>.int⟩
theorem bg (h:aE j):bW X (binaryOp .FloorDiv) (.int i) (.int j) (.int (i.fdiv j)):=⟨rI (λ_ j=>aE j) λi j=>.int (i.fdiv j),opI λ_ _ _ _ _ _ _ hc q=>floordiv_int hc.1 q (.inl (PyProof.noPylong_of_log2 hc.2)),m6 h λ_ _=>.int⟩
theorem bP (h:j≠0):bW X (binaryOp .Mod) (.int i) (.int j) (.int (i.fmod j)):=⟨_,Bg,m6 h λ_ _=>.int⟩
theorem xu (h:wo i j):bW X (binaryOp .Pow) (.int i) (.int j) (.int (i^j.toNat)):=⟨_,BV,m6 h λ_ _=>.int⟩
theorem Fz (h:wo i j):bW X (binaryOp .LShift) (.int i) (.int j) (.int (i*2^j.toNat)):=⟨_,CB,m6 h λ_ _=>.int⟩
theorem Fb (h:0<=j):bW X (binaryOp .RShift) (.int i) (.int j) (.int (i/2^j.toNat)):=⟨_,BW,m6 h λ_ _=>.int⟩
theorem wj:bW X (compareOp .Lt) (.int i) (.int j) (.bl (decide (i<j))):=⟨_,Es,jZ λ_ _=>.bl⟩
theorem oH:bW X (compareOp .LtE) (.int i) (.int j) (.bl (decide (i<=j))):=⟨_,EX,jZ λ_ _=>.bl⟩
theorem qQ:bW X (compareOp .Gt) (.int i) (.int j) (.bl (decide (j<i))):=⟨_,EO,jZ λ_ _=>.bl⟩
theorem yq:bW X (compareOp .GtE) (.int i) (.int j) (.bl (decide (j<=i))):=⟨_,Fy,jZ λ_ _=>.bl⟩
theorem gN:bW X (compareOp .Eq) (.int i) (.int j) (.bl (decide (i=j))):=⟨_,BD,λ_ v w H Q _ d1 d2 k=>by
 cases d1;cases d2;exact⟨rfl,by rw[show decide (V.int i=V.int j)=decide (i=j) by simp]; exact k _ H (ak.refl _) .bl⟩⟩
theorem oR:bW X (compareOp .NotEq) (.int i) (.int j) (.bl (!decide (i=j))):=⟨_,Bl,λ_ v w H Q _ d1 d2 k=>by
 cases d1;cases d2;exact⟨rfl,by rw[show decide (V.int i=V.int j)=decide (i=j) by simp]; exact k _ H (ak.refl _) .bl⟩⟩
theorem vH (h:PE X a (dE X.K C τ (.d (.int i)))):PE X (.UnaryOp .USub a pos) (dE X.K C τ (.d (.int (-i)))):=peW (EH Dd h) λσ H Q q=>by obtain⟨A,H₀,B,S,k⟩:=ck q;refine aF S λv H1 e1 d1=>?_;cases d1;exact⟨i,rfl,k _ H1 e1 .int⟩
theorem zD {e:Expr}:PE X e λ_ _ _=>False:=λ_ _ _ _ _ _ h=>h.elim
theorem pw_no {e:Expr}:PW X e λ_ _ _=>False:=λ_ _ _ _ _ _ _ h=>h.elim
variable {p q:Bool}{c:Expr}{rest:List Expr}
theorem gC {op}{s:Sl}(h:PE X a (dE X.K C τ s)):PE X (.BoolOp op [a] pos) (dE X.K C τ s):=BR h
theorem fQ (ha:PE X a (dE X.K C τ (.d (.bl p))))(hb:p=true->PE X (.BoolOp .And (b::rest) pos) (dE X.K C τ (.d (.bl q)))):PE X (.BoolOp .And (a::b::rest) pos) (dE X.K C τ (.d (.bl (p&&q)))):=by
 cases p with
 | false=>refine peW (yZ ha zD) λσ H Q z=>?_;obtain⟨A,H₀,B,S,k⟩:=ck z;exact aF S λv H' e d=>by cases d; exact⟨_,rfl,k _ H' e .bl⟩
 | true=>refine peW (yZ ha (hb rfl)) λσ H Q z=>?_;obtain⟨A,H₀,B,S,k⟩:=ck z;exact aF S λv H' e d=>by cases d; exact⟨_,rfl,aF (S.mono e) λv H2 e2 d2=>k v H2 (e.trans e2) d2⟩
theorem Bj (ha:PE X a (dE X.K C τ (.d (.bl p)))):PE X (.UnaryOp .Not a pos) (dE X.K C τ (.d (.bl (!p)))):=peW (C5 ha) λσ H Q z=>by obtain⟨A,H₀,B,S,k⟩:=ck z;exact aF S λv H' e d=>by cases d; exact⟨_,rfl,k _ H' e .bl⟩
theorem tD (ha:PT X a (dT X.K τ p)):PW X (.BoolOp .And [a] pos) (dT X.K τ p):=pw_and1 ha
theorem cg (ha:PT X a (dT X.K τ p)):PW X (.BoolOp .Or [a] pos) (dT X.K τ p):=pw_or1 ha
theorem ze (ha:PT X a (dT X.K τ p))(hb:p=true->PW X (.BoolOp .And (b::rest) pos) (dT X.K τ q)):PW X (.BoolOp .And (a::b::rest) pos) (dT X.K τ (p&&q)):=by
 cases p with
 | false=>exact pwW (pw_and ha pw_no) λσ H Q ⟨A,H₀,B,S,k⟩=>⟨A,H₀,B,S,λH' e=>wu (k H' e)⟩
 | true=>exact pwW (pw_and ha (hb rfl)) λσ H Q ⟨A,H₀,B,S,k⟩=>⟨A,H₀,B,S,λH' e=>ug (⟨A,H₀,B,S.mono e,λH2 e2=>k H2 (e.trans e2)⟩)⟩
theorem cn (ha:PT X a (dT X.K τ p))(hb:p=false->PW X (.BoolOp .Or (b::rest) pos) (dT X.K τ q)):PW X (.BoolOp .Or (a::b::rest) pos) (dT X.K τ (p||q)):=by
 cases p with
 | true=>exact pwW (pw_or ha pw_no) λσ H Q ⟨A,H₀,B,S,k⟩=>⟨A,H₀,B,S,λH' e=>ug (k H' e)⟩
 | false=>exact pwW (pw_or ha (hb rfl)) λσ H Q ⟨A,H₀,B,S,k⟩=>⟨A,H₀,B,S,λH' e=>wu (⟨A,H₀,B,S.mono e,λH2 e2=>k H2 (e.trans e2)⟩)⟩
theorem a5 (ha:PT X a (dT X.K τ p)):PT X (.UnaryOp .Not a pos) (dT X.K τ (!p)):=ptW (CK ha) λσ H Q ⟨A,H₀,B,S,k⟩=>⟨A,H₀,B,S,λH' e=>k H' e⟩
theorem qo {s:Sl}(hc:PT X c (dT X.K τ p))(ha:p=true->PE X a (dE X.K C τ s))(hb:p=false->PE X b (dE X.K C τ s)):PE X (.IfExp c a b pos) (dE X.K C τ s):=by
 have fin:∀{σ H H' Q} {A:Addr->Prop} {H₀ B},Sta X.K A H₀ τ B σ H->(∀v H' bs,ak H H'->Fr H H' bs->bO X.K (hd H' λb=>vw C A B b\/b∈bs) H' (some v) bs s->Q v H')->ak H H'->dE X.K C τ s σ H' Q:=λS k e=>⟨_,_,_,S.mono e,λv H2 bs e2 hf h=>k v H2 bs (e.trans e2) (λb hb=>⟨e.free (hf b hb).1,(hf b hb).2⟩) h⟩;cases p with
 | true=>exact peW (qS hc (ha rfl) zD) λσ H Q ⟨A,H₀,B,S,k⟩=>⟨A,H₀,B,S,λH' e=>ug (fin S k e)⟩
 | false=>exact peW (qS hc zD (hb rfl)) λσ H Q ⟨A,H₀,B,S,k⟩=>⟨A,H₀,B,S,λH' e=>wu (fin S k e)⟩
theorem jd {op op':CmpOp}(ha:PE X a (dE X.K C τ (.d x)))(hb:PE X b (dE X.K C τ (.d y)))(hc:PE X c (dE X.K C τ (.d z)))(h1:bW X (compareOp op) x y (.bl p))(h2:bW X (compareOp op') y z (.bl q))
   (hm:lastMarks [op,op'] [b,c]=false:=by with_unfolding_all rfl):PE X (.Compare a [op,op'] [b,c] pos) (dE X.K C τ (.d (.bl (p&&q))))/\(C=false->PT X (.Compare a [op,op'] [b,c] pos) (dT X.K τ (p&&q))):=by
 obtain⟨r,o1,k1⟩:=h1;obtain⟨r',o2,k2⟩:=h2
 have key:∀σ H Q,dE X.K C τ (.d (.bl (p&&q))) σ H Q->sH r r' (dE X.K C τ (.d x)) (dE X.K C τ (.d y)) (dE X.K C τ (.d z)) σ H Q:=λσ H Q h=>by
   obtain⟨A,H₀,B,S,k⟩:=ck h;refine aF S λv H1 e1 d1=>aF (S.mono e1) λw H2 e2 d2=>k1 (vw C A B) v w H2 _ ((S.mono e1).mono e2).vd (d1.mono (aw e2 λ_ z=>z)) d2 λu H3 e3 d3=>?_;cases d3;refine⟨p,rfl,?_⟩;cases p with
   | false=>exact wu (k _ H3 (e1.trans (e2.trans e3)) .bl)
   | true=>exact ug (aF (((S.mono e1).mono e2).mono e3) λw' H4 e4 d4=>k2 (vw C A B) w w' H4 Q ((((S.mono e1).mono e2).mono e3).mono e4).vd (d2.mono (aw (e3.trans e4) λ_ z=>z)) d4 λu H5 e5 d5=>k u H5 (e1.trans (e2.trans (e3.trans (e4.trans e5)))) d5)
 exact⟨peW (yI o1 o2 ha hb hc hm) key,λhC=>by subst hC; exact ptW (zm o1 o2 ha hb hc hm) (xg key)⟩
theorem af:PA X [] (dA X.K C τ []):=paW c8 λσ H Q ⟨A,H₀,B,S,k⟩=>k [] H (ak.refl _) .nil
theorem ab {ds:List D}(ha:PE X e (dE X.K C τ (.d x)))(hr:PA X es (dA X.K C τ ds))(hs:starEach (e::es) X.env=(false,eval e X.env)::starEach es X.env:=by rfl):PA X (e::es) (dA X.K C τ (x::ds)):=paW (bw ha hr hs) λσ H Q ⟨A,H₀,B,S,k⟩=>aF S λv H1 e1 d1=>c9 (S.mono e1) λvs H2 e2 d2=>k _ H2 (e1.trans e2) (.cons (d1.mono (aw e2 λ_ z=>z)) d2)
theorem bz {ds:List D}{m}(h:PA X es (dA X.K C τ ds))(hl:Nat.ble ds.length 1000=true:=by rfl):PE X (.Tuple es m pos) (dE X.K C τ (.d (.tup ds))):=peW (yR h) λσ H Q q=>by obtain⟨A,H₀,B,S,k⟩:=ck q;refine c9 S λvs H1 e1 d1=>⟨by rw[d1.length]; exact Ia (nR (Nat.le_of_ble_eq_true hl)),λp hp=>k _ _ (e1.trans (ao hp _)) ?_⟩;exact .tup (SqT.of (lK (S.mono e1).vd hp)) (d1.mono (aw (ao hp _) λ_ z=>z))
theorem bY {ds:List D}(h:PA X es (dA X.K C τ ds))(hl:Nat.ble ds.length 1000=true:=by rfl):PE X (.List es pos) (dE X.K C τ (.o ds)):=peW (xV h) λσ H Q ⟨A,H₀,B,S,k⟩=>
 c9 S λvs H1 e1 d1=>⟨by rw[d1.length]; exact Ia (nR (Nat.le_of_ble_eq_true hl)),λp hp=>k _ _ [p] (e1.trans (ao hp _)) (λb hb=>by
   obtain rfl:=ib.mp hb
   exact⟨e1.free hp,_,au⟩) ⟨p,vs,rfl,rfl,au,d1.mono λb o z=>by
     obtain⟨z1,z2⟩:=ax.mp z;refine ax.mpr ⟨λy=>?_,ao hp _ _ _ z2⟩;rcases y with y | y
     . exact z1 y
     . rw[ib.mp y]at z2; rw[hp]at z2; cases z2⟩⟩
end
def spD (K:gV)(Φ:List D->Sl->Prop):Sp:=λvs H Q _=>∃A ds s,(∀b,A b->∃o,H b=some o)/\ay K (hd H A) vs ds/\Φ ds s /\
 ∀v H' bs,ak H H'->Fr H H' bs->bO K (hd H' λb=>A b\/b∈bs) H' (some v) bs s->Q v H'
def Cal (P:Program)(w:World)(K:gV)(mg:Str->Option Value)(base:Heap)(k:Nat)(n:Str)(Φ:List D->Sl->Prop):Prop:=∃f fd ps,aH P w K mg base CX0 k f fd ps (spD K Φ)/\mg n=some (.ref f)/\G9 K (.ref f)=true/\Binds K fd ps []
theorem Cal.mono {P:Program}{w:World}{K:gV}{mg:Str->Option Value}{base:Heap}{j k:Nat}{n:Str}{Φ:List D->Sl->Prop}(c:Cal P w K mg base j n Φ)(h:j<=k):Cal P w K mg base k n Φ:=let ⟨f,fd,ps,F,r⟩:=c; ⟨f,fd,ps,F.mono h,r⟩
noncomputable def ah:List Str:=["len","abs","max","min","int","bool","list","tuple","str","isinstance","range","enumerate","all","zip","sorted","sum","any","reversed"]
structure Bk (X:Cx)(k:Nat):Prop where
 room:cK k X.A
 calm:X.calm=true
 blt:∀x∈ah,X.mg x=none
 po:PassesOwn (model X.prog X.w) X.A X.env X.xe
section
variable {X:Cx}{C:Bool}{τ:List Sl}{x y z:D}{a b e:Expr}{es:List Expr}{pos p:Pos}{k:Nat}{s:Sl}{ds:List D}{i j:Int}
theorem x_call {n:Str}{Φ:List D->Sl->Prop}(B:Bk X k)(c:Cal X.prog X.w X.K X.mg X.base k n Φ)(ha:PA X (e::es) (dA X.K C τ ds))(h:Φ ds s)(hg:Gl X n:=by rfl)(hdb:(n==("__debug__" : Str))=false:=by decide)
   (he:starEach (e::es) X.env=(false,eval e X.env)::starEach es X.env:=by rfl) (hpl:(backTo pos (starEach es X.env)).any (·.1)=false:=by rfl):PE X (.Call (.Name n p) (e::es) [] pos) (dE X.K C τ s):=by
 obtain⟨f,fd,ps,F,hm,hk,hb⟩:=c;refine peW (ky F B.room hg hm hk hb .nil jX ha hdb he hpl) λσ H Q ⟨A,H₀,B,S,q⟩=>c9 S λvs H1 e1 d1=>?_;rw[G3];exact⟨vw C A B,ds,s,(S.mono e1).vd,d1,h,λv H' bs e2 hf h2=>q v H' bs (e1.trans e2) (λb hb=>⟨e1.free (hf b hb).1,(hf b hb).2⟩) h2⟩
def iy (X:Cx)(f:Value)(ds:List D)(s:Sl):Prop:=∃r:List V->Hp->VK->Prop,cX X f r /\
 ∀(M:Addr->Prop) (vs:List V) (H:Hp) (Q:VK),(∀b,M b->∃o,H b=some o)->ay X.K (hd H M) vs ds->(∀u H' bs,ak H H'->Fr H H' bs->bO X.K (hd H' λb=>M b\/b∈bs) H' (some u) bs s->Q u H')->r vs H Q
theorem xP {r:List V->Hp->VK->Prop}(hr:∀(M:Addr->Prop) (vs:List V) (H:Hp) (Q:VK),(∀b,M b->∃o,H b=some o)->ay X.K (hd H M) vs ds->(∀u H' bs,ak H H'->Fr H H' bs->bO X.K (hd H' λb=>M b\/b∈bs) H' (some u) bs s->Q u H')->r vs H Q):
   ∀σ H Q,dE X.K C τ s σ H Q->tCB r (dA X.K C τ ds) σ H Q:=λσ H Q ⟨A,H₀,B,S,q⟩=>
 c9 S λvs H1 e1 d1=>hr (vw C A B) vs H1 Q (S.mono e1).vd d1 λv H' bs e2 hf h2=>q v H' bs (e1.trans e2) (λb hb=>⟨e1.free (hf b hb).1,(hf b hb).2⟩) h2
theorem bq {n:Str}{id:String}(B:Bk X k)(ha:PA X (e::es) (dA X.K C τ ds))(c:iy X (.builtin id) ds s)(hn:n∈ah:=by decide)(hg:Gl X n:=by rfl)(hv:bootBuiltins n=some (.builtin id):=by decide +kernel)(h1:n ≠ "__name__":=by decide)(hdb:(n==("__debug__" : Str))=false:=by decide)
   (he:starEach (e::es) X.env=(false,eval e X.env)::starEach es X.env:=by rfl) (hpl:(backTo pos (starEach es X.env)).any (·.1)=false:=by rfl):PE X (.Call (.Name n p) (e::es) [] pos) (dE X.K C τ s):=by
 obtain⟨r,h1,h2⟩:=c;exact peW (lu h1 hg (B.blt _ hn) hv ha (by assumption) hdb he hpl) (xP h2)
theorem kR {n:Str}{T:String}(B:Bk X k)(ha:PA X (e::es) (dA X.K C τ ds))(c:iy X (.type T) ds s)(hn:n∈ah:=by decide)(hg:Gl X n:=by rfl)(hv:bootBuiltins n=some (.type T):=by decide +kernel)(h1:n ≠ "__name__":=by decide)(hdb:(n==("__debug__" : Str))=false:=by decide)
   (he:starEach (e::es) X.env=(false,eval e X.env)::starEach es X.env:=by rfl) (hpl:(backTo pos (starEach es X.env)).any (·.1)=false:=by rfl):PE X (.Call (.Name n p) (e::es) [] pos) (dE X.K C τ s):=by
 obtain⟨r,h1,h2⟩:=c;exact peW (nO h1 hg (B.blt _ hn) hv ha (by assumption) hdb he hpl) (xP h2)
theorem i7 {K:gV}{H:Hp}{M:Addr->Prop}{v:V}(h:Den K (hd H M) v x):bO K (hd H λb=>M b\/b∈([]:List Addr)) H (some v) [] (.d x):=⟨rfl,v,rfl,h.mono (aw (ak.refl _) λ_ z=>z.elim id λz=>nomatch z)⟩
theorem eP {H H':Hp}:Fr H H' []:=λ_ z=>nomatch z
theorem gf {xs:List D}:iy X (.builtin "len") [.lst xs] (.d (.int xs.length)):=⟨_,iT,λM vs H Q _ d q=>by
 cases d with
 | cons d r=>
   cases r;cases d with
   | lst h r=>
     refine⟨_,_,rfl,.inl (aQ aG h),?_⟩;rw[r.length];exact q _ H [] (ak.refl _) eP (i7 .int)⟩
theorem fA {xs:List D}:iy X (.builtin "len") [.tup xs] (.d (.int xs.length)):=⟨_,iT,λM vs H Q _ d q=>by
 cases d with
 | cons d r=>
   cases r;cases d with
   | tup h r=>
     refine⟨_,_,rfl,.inr (aS aG h),?_⟩;rw[r.length];exact q _ H [] (ak.refl _) eP (i7 .int)⟩
noncomputable def Av (i:Int):Int:=if i<0 then -i else i
theorem rN:iy X (.builtin "abs") [.int i] (.d (.int (Av i))):=⟨_,yD,λM vs H Q _ d q=>by
 cases d with
 | cons d r=>
   cases r;cases d;exact⟨_,rfl,q _ H [] (ak.refl _) eP (i7 .int)⟩⟩
theorem BH (hc:X.calm=true):iy X (.builtin "max") [.int i,.int j] (.d (.int (if j>i then j else i))):=⟨_,wm hc,λM vs H Q _ d q=>by
 cases d with
 | cons d r=>
   cases r with
   | cons d' r=>
     cases r;cases d;cases d';exact⟨_,_,rfl,q _ H [] (ak.refl _) eP (i7 .int)⟩⟩
theorem yy (hc:X.calm=true):iy X (.builtin "min") [.int i,.int j] (.d (.int (if j<i then j else i))):=⟨_,wb hc,λM vs H Q _ d q=>by
 cases d with
 | cons d r=>
   cases r with
   | cons d' r=>
     cases r;cases d;cases d';exact⟨_,_,rfl,q _ H [] (ak.refl _) eP (i7 .int)⟩⟩
theorem qh {c:Bool}:iy X (.type "int") [.bl c] (.d (.int (if c then 1 else 0))):=⟨_,wA,λM vs H Q _ d q=>by
 cases d with
 | cons d r=>
   cases r;cases d;exact .inr ⟨_,rfl,q _ H [] (ak.refl _) eP (i7 .int)⟩⟩
theorem jz {K:gV}{H:Hp}{M:Addr->Prop}{p:Addr}{vs:List V}{xs:List D}(hp:H p=none)(d:ay K (hd H M) vs xs):
   ak H (upd H p (.lst vs))/\Fr H (upd H p (.lst vs)) [p]/\bO K (hd (upd H p (.lst vs)) λb=>M b\/b∈[p]) (upd H p (.lst vs)) (some (.ref p)) [p] (.o xs):=
 ⟨ao hp _,λb hb=>by
   obtain rfl:=ib.mp hb
   exact⟨hp,_,au⟩,p,vs,rfl,rfl,au,d.mono λb o z=>by
     obtain⟨z1,z2⟩:=ax.mp z;refine ax.mpr ⟨λy=>?_,ao hp _ _ _ z2⟩;rcases y with y | y
     . exact z1 y
     . rw[ib.mp y]at z2; rw[hp]at z2; cases z2⟩
theorem pP {xs:List D}:iy X (.type "list") [.lst xs] (.o xs):=⟨_,jb,λM vs H Q _ d q=>by
 cases d with
 | cons d r=>
   cases r;cases d with
   | lst h r=>
     refine⟨_,_,rfl,.inl (aQ aG h),λp hp=>?_⟩;obtain⟨z1,z2,z3⟩:=jz (K:=X.K) (M:=M) hp r;exact q _ _ [p] z1 z2 z3⟩
theorem uo {xs:List D}:iy X (.type "list") [.tup xs] (.o xs):=⟨_,jb,λM vs H Q _ d q=>by
 cases d with
 | cons d r=>
   cases r;cases d with
   | tup h r=>
     refine⟨_,_,rfl,.inr (aS aG h),λp hp=>?_⟩;obtain⟨z1,z2,z3⟩:=jz (K:=X.K) (M:=M) hp r;exact q _ _ [p] z1 z2 z3⟩
theorem sJ {K:gV}{H:Hp}{vs:List V}{ds:List D}{i:Int}{d:D}(r:ay K H vs ds)(h:atI ds i=some d):∃v,atI vs i=some v/\Den K H v d:=by
 unfold atI at h ⊢;rw[r.length];cases e:ixN ds.length i with
 | none=>rw[e]at h; cases h
 | some j=>rw[e]at h; exact r.get h
def Aw (X:Cx)(x y z:D):Prop:=∃r:R2,IxR X r /\
 ∀(M:Addr->Prop) (v w:V) (H:Hp) (Q:VK),(∀b,M b->∃o,H b=some o)->Den X.K (hd H M) v x->Den X.K (hd H M) w y->(∀u H',ak H H'->Den X.K (hd H' M) u z->Q u H')->r v w H Q
theorem av (ha:PE X a (dE X.K C τ (.d x)))(hb:PE X b (dE X.K C τ (.d y)))(ho:Aw X x y z)(hs:je b:=by exact λ_ _=>rfl):PE X (.Subscript a b pos) (dE X.K C τ (.d z)):=by obtain⟨r,h1,h2⟩:=ho;exact peW (l6 h1 ha hb hs) (two h2)
theorem aV {xs:List D}(h:atI xs i=some z):Aw X (.lst xs) (.int i) z:=⟨_,oy,λM v w H Q _ d1 d2 q=>by
 cases d2;cases d1 with
 | lst hs r=>
   obtain⟨v,e,d⟩:=sJ r h;exact⟨_,_,_,_,rfl,rfl,aQ aG hs,e,q _ H (ak.refl _) d⟩⟩
theorem aq {xs:List D}(h:atI xs i=some z):Aw X (.tup xs) (.int i) z:=⟨_,me,λM v w H Q _ d1 d2 q=>by
 cases d2;cases d1 with
 | tup hs r=>
   obtain⟨v,e,d⟩:=sJ r h;exact⟨_,_,_,_,rfl,rfl,aS aG hs,e,q _ H (ak.refl _) d⟩⟩
theorem gZ (n:Nat){nm:Str}{xs:List D}(hb:PE X b (dE X.K false τ (.d (.int i))))(hz:atI xs i=some z)(h:τ[n]?=some (.o xs):=by rfl)(hs:je b:=by exact λ_ _=>rfl)(hN:X.N[n]?=some nm:=by rfl)
   (hv:Vis X.env.scope nm:=by first | exact Hh rfl | exact G0 (Hh rfl) | exact G0 (G0 rfl)) (hd:(nm==("__debug__" : Str))=false:=by decide) (hcd:(nm==("__classdict__" : Str))=false:=by decide):PE X (.Subscript (.Name nm p) b pos) (dE X.K C τ (.d z)):=
 peW (l6 oy (a4 (i:=n) hN hv hd hcd) hb hs) λσ H Q q=>by obtain⟨A,H₀,B,S,k⟩:=ck q;obtain⟨l,vs,hb,e1,e2,d⟩:=S.sl n _ h;refine⟨_,slot_of e1,aF S λw H1 e3 d1=>?_⟩;cases d1;obtain⟨v,e4,d4⟩:=sJ d hz;exact⟨l,vs,i,v,rfl,rfl,SqL.of (e3 _ _ e2),e4,k v H1 e3 (d4.mono (aw e3 λ_ z=>jl z))⟩
def dO (K:gV)(τ:List Sl)(c:Option Int):TO:=λσ H Q=>∃A H₀ B,Sta K A H₀ τ B σ H/\∀H',ak H H'->Q c H'
theorem Ew {e:Option Expr}{t t':TO}(h:PO X e t)(f:∀σ H Q,t' σ H Q->t σ H Q):PO X e t':=λpins s σ H Q I q=>h pins s σ H Q I (f σ H Q q)
theorem dH:PO X none (dO X.K τ none):=Ew zY λσ H Q ⟨A,H₀,B,S,k⟩=>k H (ak.refl _)
theorem cL (h:PE X e (dE X.K false τ (.d (.int i)))):PO X (some e) (dO X.K τ (some i)):=Ew (AQ h) λσ H Q ⟨A,H₀,B,S,k⟩=>aF S λv H1 e1 d1=>by cases d1;exact⟨_,rfl,k H1 e1⟩
noncomputable def cutD (xs:List D)(lo hi:Option Int):List D:=(xs.drop (HT.sIx xs.length 0 lo)).take (HT.sIx xs.length xs.length hi-HT.sIx xs.length 0 lo)
theorem vP {lo hi:Option Expr}{l u:Option Int}{xs:List D}{p2:Pos}(ha:PE X a (dE X.K C τ (.d (.lst xs))))(hl:PO X lo (dO X.K τ l))(hu:PO X hi (dO X.K τ u)):PE X (.Subscript a (.Slice lo hi none p2) pos) (dE X.K C τ (.o (cutD xs l u))):=
 peW (p6 AL ha hl hu) λσ H Q ⟨A,H₀,B,S,k⟩=>aF S λv H1 e1 d1=>⟨A,H₀,B,S.mono e1,λH2 e2=>⟨A,H₀,B,(S.mono e1).mono e2,λH3 e3=>by
   cases d1 with
   | @lst _ ws _ h r=>
     have h:=aQ (e2.trans e3) (aQ aG h);refine⟨_,_,rfl,h,λp hp=>?_⟩;have r:=r.mono (aw (e2.trans e3) λ_ z=>z);have r':ay X.K (hd H3 (vw C A B)) (ma ws l u) (cutD xs l u):=by unfold ma cutD;rw[r.length];exact(r.drop _).take _
     obtain⟨z1,z2,z3⟩:=jz (K:=X.K) hp r';exact k _ _ [p] (e1.trans (e2.trans (e3.trans z1))) (λb hb=>⟨(e1.trans (e2.trans e3)).free (z2 b hb).1,(z2 b hb).2⟩) z3⟩⟩
inductive Ty where
 | int | bool | str | list | tuple
noncomputable def tyN:Ty->String
 | .int=>"int" | .bool=>"bool" | .str=>"str" | .list=>"list" | .tuple=>"tuple"
noncomputable def Ef:D->String
 | .non=>"NoneType" | .bl _=>"bool" | .int _=>"int" | .str _=>"str" | .tup _=>"tuple" | .lst _=>"list" | .box _=>"dict"
noncomputable def mr:Ty->D->Bool
 | .int,.int _=>true
 | .int,.bl _=>true
 | .bool,.bl _=>true
 | .str,.str _=>true
 | .list,.lst _=>true
 | .tuple,.tup _=>true
 | _,_=>false
theorem CV (K:gV)(d:D)(t:Ty):PySem.W.kitOne K (.type (Ef d)) (.type (tyN t))=some (mr t d):=by cases d <;> cases t <;> (show PySem.W.kitOne K (.type _) (.type _)=some _) <;> with_unfolding_all rfl
theorem B7 (t:Ty):cX X (.builtin "isinstance") (λxs H Q=>∃G x d,ak G H/\xs=[x,.ty (tyN t)]/\Den X.K G x d/\Q (.bl (mr t d)) H):=by
 intro pins s σ H xs us Q I r q;obtain⟨G,x,d,sg,rfl,dx,q⟩:=q
 obtain⟨u,w,rfl,rx,rt⟩:∃u w,us=[u,w]/\RelV x u/\RelV (.ty (tyN t)) w:=by
   cases r with
   | cons r1 r=>cases r with
     | cons r2 r=>cases r; exact⟨_,_,rfl,r1,r2⟩
 cases (show w=KH (tyN t) from rt);have kt:=CV X.K d t;have fin:∀tk,EP X pins σ Q (.bool (mr t d)) { s with toks:=tk }:=λtk=>⟨.bl _,H,I.tok _,rfl,q⟩;cases dx with
 | non=>cases (show u=Hz from rx); exact Ip PySem.W.kitx_none I.kIn HL kt (λz=>nomatch z) fin
 | bl=>cases (show u=HE _ from rx); exact Ip PySem.W.kitx_bool I.kIn HL kt (λz=>nomatch z) fin
 | int=>obtain⟨t',z⟩:=(show ∃t,u=K6 _ t from rx); cases z; exact Ip PySem.W.kitx_int I.kIn HL kt (λz=>nomatch z) fin
 | str=>obtain⟨t',z⟩:=(show ∃t,u=K5 _ t from rx); cases z; exact Ip PySem.W.kitx_str I.kIn HL kt (λz=>nomatch z) fin
 | tup h r1=>cases (show u=GI _ from rx);obtain⟨its,_,⟨o,h1,h2,_⟩,_⟩:=I.tuple (aS sg h);exact Ip PySem.W.kitx_tuple I.kIn ⟨o,h1,h2⟩ kt (λz=>nomatch z) fin
 | lst h r1=>cases (show u=GI _ from rx);obtain⟨its,_,⟨o,n,h1,h2,_⟩,_⟩:=I.list (aQ sg h);exact Ip PySem.W.kitx_list I.kIn ⟨o,h1,h2⟩ kt (λz=>nomatch z) fin
 | @box a x h=>cases (show u=GI _ from rx);obtain⟨o',h1,h2⟩:=x.isd h;obtain⟨o,h3,h4⟩:=h2 _ _ _ _ (I.hok a _ (sg _ _ h1));exact Ip PySem.W.kitx_dict I.kIn ⟨o,h3,h4⟩ kt (λz=>nomatch z) fin
theorem cE {n:Str}{q:Pos}(t:Ty)(B:Bk X k)(ha:PE X a (dE X.K false τ (.d x)))(hn:n∈ah:=by decide)(ht:bootBuiltins n=some (.type (tyN t)):=by decide +kernel)(hg:Gl X "isinstance":=by rfl)(hg':Gl X n:=by rfl)(h1:n ≠ "__name__":=by decide)(hdb:(n==("__debug__" : Str))=false:=by decide)
   (he:starEach [a,.Name n q] X.env=(false,eval a X.env)::starEach [.Name n q] X.env:=by rfl) (hpl:(backTo pos (starEach [.Name n q] X.env)).any (·.1)=false:=by rfl):PE X (.Call (.Name "isinstance" p) [a,.Name n q] [] pos) (dE X.K C τ (.d (.bl (mr t x)))):=by
 refine peW (lu (B7 t) hg (B.blt _ (by decide)) (by decide +kernel) (bw ha (bw (A0 (v:=.ty (tyN t)) hg' (B.blt _ hn) ht rfl h1 hdb) c8) he) (by decide) (by decide) he hpl) λσ H Q q=>?_;obtain⟨A,H₀,B,S,k⟩:=ck q;exact aF S λv H1 e1 d1=>⟨_,v,x,aG,rfl,d1,k _ H1 e1 .bl⟩
end
section
variable {K:gV}{A:Addr->Prop}{H₀ H:Hp}{τ:List Sl}{B:Nat->List Addr}{σ:L2.St}
theorem Sta.put (S:Sta K A H₀ τ B σ H){i:Nat}{a:Addr}{xs ys:List D}{vs:List V}(hi:τ[i]?=some (.o xs))(hB:B i=[a])(d:ay K (hd H (own A B)) vs ys):Sta K A H₀ (τ.set i (.o ys)) B σ (upd H a (.lst vs)):=by
 have ha:own A B a:=.inr ⟨i,by rw[hB]; exact ib.mpr rfl⟩;have ne:∀b,b≠a->upd H a (.lst vs) b=H b:=λb h=>ar h;have sm:ak (hd H (own A B)) (hd (upd H a (.lst vs)) (own A B)):=λb o z=>by obtain⟨z1,z2⟩:=ax.mp z;exact ax.mpr ⟨z1,by rw[ne b (λe=>z1 (e▸ha))]; exact z2⟩
 have f0:H₀ a=none:=S.fr i a (by rw[hB]; exact ib.mpr rfl);have hs:ak H₀ (upd H a (.lst vs)):=λb o z=>by rw[ne b (λe=>by rw[e,f0]at z; cases z)]; exact S.same b o z
 refine⟨hs,by rw[G7,S.len],λj t hj=>?_,S.fr,S.uq,S.ad,λj b hb=>?_⟩
 . by_cases ej:j=i
   . subst ej;have hl:=(GD.mp hi).1;rw[G1 hl]at hj;cases hj;obtain⟨a',vs',e1,e2,_,_⟩:=S.sl j _ hi;rw[hB]at e1;cases e1;exact⟨a,vs,hB,e2,au,d.mono sm⟩
   . rw[GW (λz=>ej z.symm)]at hj;have q:=S.sl j t hj;have off:∀b∈B j,b≠a:=λb hb e=>ej (S.uq j i a (e▸hb) (by rw[hB]; exact ib.mpr rfl));cases t with
     | un=>exact q
     | d x=>obtain⟨z,u,e,d⟩:=q; exact⟨z,u,e,d.mono sm⟩
     | o zs=>obtain⟨c,ws,z1,z2,z3,z4⟩:=q;exact⟨c,ws,z1,z2,by rw[ne c (off c (by rw[z1]; exact ib.mpr rfl))]; exact z3,z4.mono sm⟩
     | n t=>obtain⟨z0,u,z1,z2⟩:=q;exact⟨z0,u,z1,z2.frame sm λb hb=>ne b (off b hb)⟩
     | x E=>obtain⟨c,o,z1,z2,z3,z4⟩:=q;exact⟨c,o,z1,z2,by rw[ne c (off c (by rw[z1]; exact ib.mpr rfl))]; exact z3,E.mono sm z4⟩
     | w W=>obtain⟨z0,u,z1,z2⟩:=q;exact⟨z0,u,z1,W.fr sm (λb hb=>ne b (off b hb)) z2⟩
 . by_cases e:b=a
   . subst e; exact⟨_,au⟩
   . rw[ne b e]; exact S.bd j b hb
theorem Sta.fz (S:Sta K A H₀ τ B σ H){i:Nat}{s:Sl}{x:D}(hi:τ[i]?=some s)(hx:fzD s=some x):Sta K A H₀ (τ.set i (.d x)) (upB B i []) σ H:=S.less (λ_ z=>nomatch z) λG g hv=>by obtain⟨u,e,d⟩:=(S.sl i s hi).den (G':=G) g (λb hb o ho=>hv b o hb (λz=>nomatch z) ho) hx;exact⟨rfl,u,e,d⟩
end
section
variable {X:Cx}{τ:List Sl}{x z:D}{b e c:Expr}{pos p:Pos}{s:Sl}{ds:List D}{N:Po}{st:Stmt}{rest body els:List Stmt}
theorem aK (h:N.nx τ):PSs X [] (dS X.K τ N):=tE zK λD σ H ⟨A,H₀,B,S,M⟩=>M.nx τ B σ H h S
theorem bh {M:List Sl->Prop}(h1:PS X st (dS X.K τ { N with nx:=M }))(h2:∀τ',M τ'->PSs X rest (dS X.K τ' N)):PSs X (st::rest) (dS X.K τ N):=by have h:PSs X rest λD σ H=>∃τ',M τ'/\dS X.K τ' N D σ H:=λpins s σ H D I ⟨τ',m,q⟩=>h2 τ' m pins s σ H D I q;exact tE (qC h1 h) λD σ H ⟨A,H₀,B,S,Me⟩=>⟨A,H₀,B,S,λτ' B' σ' H' m S'=>⟨τ',m,A,H₀,B',S',Me⟩,Me.bk,Me.ct,Me.rt,Me.xc⟩
theorem jE (i:Nat){s:Sl}{x:D}(h:PSs X rest (dS X.K (τ.set i (.d x)) N))(hi:τ[i]?=some s:=by rfl)(hx:fzD s=some x:=by rfl):PSs X rest (dS X.K τ N):=tE h λD σ H ⟨A,H₀,B,S,Me⟩=>⟨A,H₀,_,S.fz hi hx,Me⟩
theorem aA (i:Nat){n:Str}{p:Pos}(hN:X.N.Nodup)(he:PE X e (dE X.K true τ s))(hr:PSs X rest (dS X.K (τ.set i s) N))(hi:X.N[i]?=some n:=by rfl)(hx:Loc X.env.scope n:=by first | exact .inl rfl | exact .inr rfl)(hs:swapsWith e (some (.Name n p)) pos.line X.env=pure false:=by rfl)
   (hf:X.fn n=true\/X.env.scope.names.lookup n=some .local:=by first | exact .inl rfl | exact .inr rfl | assumption):PSs X (.Assign [.Name n p] e pos::rest) (dS X.K τ N):=
 bh (M:=(·=τ.set i s)) (psW (w6 hN hi hx he hs hf) λD σ H ⟨A,H₀,B,S,Me⟩=>⟨A,H₀,B,S,λv H' bs e hf h=>Me.nx _ _ _ _ rfl (S.set e hf h)⟩) λ_ e=>e▸hr
theorem dM (he:PE X e (dE X.K true τ s))(hr:PSs X rest (dS X.K τ N))(hs:swapsWith e none pos.line X.env=pure false:=by rfl):PSs X (.Expr e pos::rest) (dS X.K τ N):=bh (M:=(·=τ)) (psW (fF he hs) λD σ H ⟨A,H₀,B,S,Me⟩=>⟨A,H₀,B,S,λv H' bs e hf h=>Me.nx _ _ _ _ rfl (S.mono e)⟩) λ_ e=>e▸hr
theorem aL (he:PE X e (dE X.K false τ s))(h:N.rt s):PSs X (.Return (some e) pos::rest) (dS X.K τ N):=bh (M:=λ_=>False) (psW (k9 he) λD σ H ⟨A,H₀,B,S,Me⟩=>⟨A,H₀,B,S,λv H' bs e hf q=>Me.rt v H' bs s h (S.same.trans e) (λb hb=>⟨S.same.free (hf b hb).1,(hf b hb).2⟩) q⟩) λ_ e=>e.elim
theorem zz (i:Nat){n:Str}(h:N.rt s)(hi:τ[i]?=some s:=by rfl)(h0:s≠.un:=by exact nofun)(hN:X.N[i]?=some n:=by rfl)(hv:Vis X.env.scope n:=by first | exact Hh rfl | exact G0 (Hh rfl) | exact G0 (G0 rfl))
   (hd:(n==("__debug__" : Str))=false:=by decide) (hcd:(n==("__classdict__" : Str))=false:=by decide):PSs X (.Return (some (.Name n p)) pos::rest) (dS X.K τ N):=
 bh (M:=λ_=>False) (psW (k9 (a4 hN hv hd hcd)) λD σ H ⟨A,H₀,B,S,Me⟩=>by
   have q:=S.sl i s hi
   obtain⟨u,e⟩:∃u,(σ[i]?).join=some u:=by
     cases s with
     | un=>exact absurd rfl h0
     | d x=>obtain⟨_,u,e,_⟩:=q; exact⟨u,e⟩
     | o xs=>obtain⟨_,_,_,e,_⟩:=q; exact⟨_,e⟩
     | n t=>obtain⟨_,u,e,_⟩:=q; exact⟨u,e⟩
     | x E=>obtain⟨_,_,_,e,_⟩:=q; exact⟨_,e⟩
     | w W=>obtain⟨_,u,e,_⟩:=q; exact⟨u,e⟩
   rw[e]at q;exact⟨u,slot_of e,Me.rt u H (B i) s h S.same (λb hb=>⟨S.fr i b hb,S.bd i b hb⟩) (q.mono (aw (ak.refl _) λb z=>z.elim .inl λz=>.inr ⟨i,z⟩) (ak.refl _))⟩) λ_ e=>e.elim
theorem By {H H':Hp}{σ:L2.St}{D:Ends}{A:Addr->Prop}{H₀:Hp}{B:Nat->List Addr}(S:Sta X.K A H₀ τ B σ H)(Me:Meets X.K A H₀ N D)(e:ak H H'):dS X.K τ N D σ H':=⟨A,H₀,B,S.mono e,Me⟩
theorem FZ {t:Bool}(hc:PT X c (dT X.K τ t))(ha:t=true->PSs X body (dS X.K τ N))(hb:t=false->PSs X els (dS X.K τ N)):PS X (.If c body els pos) (dS X.K τ N):=by
 cases t with
 | true=>exact psW (BI hc (ha rfl) mW) λD σ H ⟨A,H₀,B,S,Me⟩=>⟨A,H₀,B,S,λH' e=>ug (By S Me e)⟩
 | false=>exact psW (BI hc mW (hb rfl)) λD σ H ⟨A,H₀,B,S,Me⟩=>⟨A,H₀,B,S,λH' e=>wu (By S Me e)⟩
theorem jJ {t:Bool}{M:List Sl->Prop}(hc:PT X c (dT X.K τ t))(ha:t=true->PSs X body (dS X.K τ { N with nx:=M }))(hb:t=false->PSs X els (dS X.K τ { N with nx:=M }))(hr:∀τ',M τ'->PSs X rest (dS X.K τ' N)):PSs X (.If c body els pos::rest) (dS X.K τ N):=bh (FZ hc ha hb) hr
theorem hJ {t:Bool}(hc:PT X c (dT X.K τ t))(ha:t=true->PSs X body (dS X.K τ { N with nx:=λ_=>False }))(hr:t=false->PSs X rest (dS X.K τ N)):PSs X (.If c body [] pos::rest) (dS X.K τ N):=by
 cases t with
 | true=>exact jJ (M:=λ_=>False) hc ha (λz=>nomatch z) λ_ z=>z.elim
 | false=>exact jJ (M:=(·=τ)) hc (λz=>nomatch z) (λ_=>aK rfl) λ_ e=>e▸hr rfl
theorem bE {t:Bool}(hc:PT X c (dT X.K τ t))(ht:t=false)(hr:PSs X rest (dS X.K τ N)):PSs X (.If c body [] pos::rest) (dS X.K τ N):=hJ hc (λz=>by rw[ht]at z; cases z) λ_=>hr
theorem qx (i:Nat){n:Str}{xs:List D}{ap cp:Pos}(he:PE X e (dE X.K true τ (.d x)))(hl:xs.length<1000000)(hr:PSs X rest (dS X.K (τ.set i (.o (xs++[x]))) N))(hi:τ[i]?=some (.o xs):=by rfl)(hN:X.N[i]?=some n:=by rfl)
   (hv:Vis X.env.scope n:=by first | exact Hh rfl | exact G0 (Hh rfl) | exact G0 (G0 rfl)) (hd:(n==("__debug__" : Str))=false:=by decide) (hcd:(n==("__classdict__" : Str))=false:=by decide)
   (hfew:((backTo cp (starEach [e] X.env)).all (λx=>!x.1)&&(backToKw cp (keywordEach [] X.env)).all (λx=>x.1.isSome)&&decide (([e]:List Expr).length+([]:List Keyword).length+(if ([]:List Keyword).isEmpty then 0 else 1)<30))=true:=by rfl)
   (hline:(ap.endLine==cp.line)=true:=by rfl) (hst:starEach [e] X.env=(false,eval e X.env)::starEach [] X.env:=by rfl) (hpl:(backTo cp (starEach [] X.env)).any (·.1)=false:=by rfl)
   (hs:swapsWith (.Call (.Attribute (.Name n p) "append" ap) [e] [] cp) none pos.line X.env=pure false:=by rfl) (hbase:attributeBase (.Name n p) "append" X.env (eval (.Name n p) X.env)=eval (.Name n p) X.env:=by rfl) :
   PSs X (.Expr (.Call (.Attribute (.Name n p) "append" ap) [e] [] cp) pos::rest) (dS X.K τ N):=
 bh (M:=(·=τ.set i (.o (xs++[x])))) (psW (fF (vC Ih JY Lc gL (a4 hN hv hd hcd) (bw he c8 hst) hbase hfew hline hst hpl) hs) λD σ H ⟨A,H₀,B,S,Me⟩=>by
   obtain⟨l,vs,hb,e1,e2,d⟩:=S.sl i _ hi;refine⟨_,slot_of e1,.inl ⟨rfl,_,SqL.of e2⟩,aF S λv H1 e3 d1=>⟨l,vs,v,rfl,rfl,e3 _ _ e2,by rw[d.length]; exact HP hl (by decide),?_⟩⟩;exact Me.nx _ _ _ _ rfl ((S.mono e3).put hi hb ((d.mono (aw e3 λ_ z=>z)).append (.cons d1 .nil)))) λ_ e=>e▸hr
theorem uR {K:gV}{H:Hp}:∀{vs:List V} {ds:List D} {v:V} {d:D} (j:Nat),ay K H vs ds->Den K H v d->ay K H (vs.set j v) (ds.set j d)
 | _,_,_,_,_,.nil,_=>.nil
 | _,_,_,_,0,.cons _ r,h=>.cons h r
 | _,_,_,_,j+1,.cons h' r,h=>.cons h' (uR j r h)
theorem nA (i:Nat){n:Str}{xs:List D}{m:Int}{j:Nat}{ix:Expr}{sp:Pos}(hx:PE X ix (dE X.K false τ (.d (.int m))))(he:PE X e (dE X.K true τ (.d x)))(hj:ixN xs.length m=some j)(hr:PSs X rest (dS X.K (τ.set i (.o (xs.set j x))) N))(hi:τ[i]?=some (.o xs):=by rfl)(hN:X.N[i]?=some n:=by rfl)
   (hv:Vis X.env.scope n:=by first | exact Hh rfl | exact G0 (Hh rfl) | exact G0 (G0 rfl)) (hd:(n==("__debug__" : Str))=false:=by decide) (hcd:(n==("__classdict__" : Str))=false:=by decide)
   (hs:swapsWithSole [.Subscript (.Name n p) ix sp] e pos.line X.env=pure false:=by rfl) (hw:swappedStores [.Subscript (.Name n p) ix sp] e X.env=pure none:=by rfl) (h1:(assignEach [.Subscript (.Name n p) ix sp] X.env).map (·.2)=[assign (.Subscript (.Name n p) ix sp) X.env]:=by rfl)
   (ha:∀v,assign (.Subscript (.Name n p) ix sp) X.env v=(do
     let ov <- holding [v] (eval (.Name n p) X.env)
     let iv <- holding [v,ov] (eval ix X.env)
     standAt sp
     holding [v,ov,iv] (setItem ov iv v)
     release [v,ov,iv] []):=by intro _; rfl) :
   PSs X (.Assign [.Subscript (.Name n p) ix sp] e pos::rest) (dS X.K τ N):=
 bh (M:=(·=τ.set i (.o (xs.set j x)))) (psW (sA he (DB (a4 hN hv hd hcd) hx set_list ha) hs hw h1) λD σ H ⟨A,H₀,B,S,Me⟩=>aF S λv H1 e1 d1=>by
   obtain⟨l,vs,hb,f1,f2,d⟩:=(S.mono e1).sl i _ hi;refine⟨_,slot_of f1,aF (S.mono e1) λw H2 e2 d2=>?_⟩;cases d2;refine⟨l,vs,m,j,rfl,rfl,e2 _ _ f2,by rw[d.length]; exact hj,?_⟩;exact Me.nx _ _ _ _ rfl (((S.mono e1).mono e2).put hi hb (uR j (d.mono (aw e2 λ_ z=>z)) (d1.mono (aw e2 λ_ z=>z))))) λ_ e=>e▸hr
end
end Hy
namespace Hy
open PySem PySem.Spec PyProof.Rows L2
open Ev (D Den ay ao aS aQ Ite Itz Itv Ed C9 BY uD tM uf aM fU dD PTs cC eJ)
def Yl (K:gV)(J:L2.It)(xs:List D)(G:Hp):Prop:=∀H,ak G H->(∀i,xs.length<=i->J.stop i H)/\∀(i:Nat) (h:i<xs.length),J.go i H /\
 ∀x H',J.yld i H x H'->ak H H'/\∀M:Addr->Prop,(∀b,M b->∃o,H b=some o)->ak G (hd H M)->Den K (hd H' M) x xs[i]
def dI (K:gV)(τ:List Sl)(xs:List D):TI:=λσ H R=>∃A H₀ B,Sta K A H₀ τ B σ H/\∀J H',ak H H'->Yl K J xs (hd H' (own A B))->R J H'
def dG (K:gV)(τ:List Sl)(x:D)(τ':List Sl):TG:=λv σ H Q=>∃A H₀ B,Sta K A H₀ τ B σ H/\Den K (hd H (own A B)) v x/\∀σ' B',Sta K A H₀ τ' B' σ' H->Q σ' H
theorem piW {X:Cx}{tg e:Expr}{t t':TI}(h:PI X tg e t)(f:∀σ H Q,t' σ H Q->t σ H Q):PI X tg e t':=λpins s σ H Q I q=>h pins s σ H Q I (f σ H Q q)
theorem pgW {X:Cx}{e:Expr}{t t':TG}(h:PG X e t)(f:∀v σ H Q,t' v σ H Q->t v σ H Q):PG X e t':=λpins s σ H v u Q I r q=>h pins s σ H v u Q I r (f v σ H Q q)
section
variable {K:gV}{G:Hp}{a:Addr}{vs:List V}{xs:List D}
theorem AA (h:SqL K G a vs)(r:ay K G vs xs):Yl K (Itl K a) xs G:=by
 intro H sg;have hl:=r.length;refine⟨λi hi=>⟨vs,aQ sg h,by omega⟩,λi hi=>?_⟩;obtain⟨v,hv,dv⟩:=r.get (ph hi);refine⟨⟨vs,v,aQ sg h,hv⟩,λx H' ⟨e1,e2⟩=>?_⟩;subst e1;have ex:x=v:=by have:=e2 vs (aQ sg h); rw[hv]at this; exact(GS this).symm
 subst ex;exact⟨ak.refl _,λM _ sv=>dv.mono sv⟩
theorem CH (h:SqT K G a vs)(r:ay K G vs xs):Yl K (Itt K a) xs G:=by
 intro H sg;have hl:=r.length;refine⟨λi hi=>⟨vs,aS sg h,by omega⟩,λi hi=>?_⟩;obtain⟨v,hv,dv⟩:=r.get (ph hi);refine⟨⟨vs,v,aS sg h,hv⟩,λx H' ⟨e1,e2⟩=>?_⟩;subst e1;have ex:x=v:=by have:=e2 vs (aS sg h); rw[hv]at this; exact(GS this).symm
 subst ex;exact⟨ak.refl _,λM _ sv=>dv.mono sv⟩
noncomputable def jB (lo:Int)(n:Nat):List D:=(ox n).map λk=>D.int (lo+(k:Nat))
theorem aN (lo:Int)(n:Nat):(jB lo n).length=n:=by simp[jB]
theorem kB (lo:Int)(n i:Nat)(h:i<(jB lo n).length):(jB lo n)[i]=.int (lo+(i:Nat)):=by simp[jB]
theorem xh (lo:Int)(n:Nat):Yl K (Itr lo n) (jB lo n) G:=by
 intro H sg;refine⟨λi hi=>by rw[aN]at hi; exact hi,λi hi=>?_⟩;have hi':i<n:=by rw[aN]at hi; exact hi
 refine⟨hi',λx H' ⟨e1,e2⟩=>?_⟩;subst e1 e2;refine⟨ak.refl _,λM _ sv=>?_⟩;rw[kB];exact .int
noncomputable def pS (xs:List D):List D:=(ox xs.length).map λi=>D.tup [.int (i:Nat),xs.getD i .non]
theorem iX (xs:List D):(pS xs).length=xs.length:=by simp[pS]
theorem vx (xs:List D)(i:Nat)(h:i<(pS xs).length):(pS xs)[i]=.tup [.int (i:Nat),xs.getD i .non]:=by simp[pS]
theorem CQ (h:SqL K G a vs)(r:ay K G vs xs):Yl K (Ite K a) (pS xs) G:=by
 intro H sg;have hl:=r.length;have el:=iX xs;refine⟨λi hi=>⟨vs,aQ sg h,by omega⟩,λi hi=>?_⟩;have hi':i<xs.length:=by omega
 obtain⟨v,hv,dv⟩:=r.get (ph hi');refine⟨⟨vs,v,aQ sg h,hv⟩,λy H' ⟨p,x,hp,e0,e1,e2⟩=>?_⟩;subst e0 e1;have ex:x=v:=by have:=e2 vs (aQ sg h); rw[hv]at this; exact(GS this).symm
 subst ex;refine⟨ao hp _,λM hM sv=>?_⟩;rw[vx,show xs.getD i .non=xs[i] by simp[JN,hi']];exact .tup (SqT.of (lK hM hp)) (.cons .int (.cons (dv.mono (sv.trans (aw (ao hp _) λ_ z=>z))) .nil))
end
section
variable {X:Cx}{τ:List Sl}{x y z:D}{a b e tg it:Expr}{pos p q:Pos}{k:Nat}{s:Sl}{xs:List D}{N:Po}{rest body:List Stmt}
theorem a9 (h:PE X it (dE X.K true τ (.d (.lst xs))))(hc:X.calm=true:=by first | rfl | assumption):PI X tg it (dI X.K τ xs):=piW (Ab hc h) λσ H R ⟨A,H₀,B,S,k⟩=>aF S λv H1 e1 d1=>by
 cases d1 with
 | lst h r=>exact⟨_,rfl,⟨_,aQ aG h⟩,k _ H1 e1 (AA h r)⟩
theorem EW (h:PE X it (dE X.K true τ (.d (.tup xs))))(hc:X.calm=true:=by first | rfl | assumption):PI X tg it (dI X.K τ xs):=piW (DA hc h) λσ H R ⟨A,H₀,B,S,k⟩=>aF S λv H1 e1 d1=>by
 cases d1 with
 | tup h r=>exact⟨_,rfl,⟨_,aS aG h⟩,k _ H1 e1 (CH h r)⟩
theorem fK {n:Int}(B:Bk X k)(h:PE X a (dE X.K false τ (.d (.int n))))(h1:-(2^62)<=n)(h2:n<2^62)(hg:Gl X "range":=by rfl)(hs:starEach [a] X.env=[(false,eval a X.env)]:=by rfl):PI X tg (.Call (.Name "range" p) [a] [] pos) (dI X.K τ (jB 0 n.toNat)):=
 piW (wt (.inl B.calm) hg (B.blt _ (by decide)) (ab h af hs) hs) λσ H R ⟨A,H₀,B,S,k⟩=>c9 S λvs H1 e1 d1=>by
   cases d1 with
   | cons d r=>cases r;cases d;exact⟨n,rfl,h1,h2,k _ H1 e1 (xh 0 _)⟩
theorem xA {m n:Int}(B:Bk X k)(h:PE X a (dE X.K false τ (.d (.int m))))(h':PE X b (dE X.K false τ (.d (.int n))))(h1:-(2^62)<=m/\m<2^62/\-(2^62)<=n/\n<2^62)(hg:Gl X "range":=by rfl)(hs:starEach [a,b] X.env=[(false,eval a X.env),(false,eval b X.env)]:=by rfl)
   (hs2:starEach [b] X.env=[(false,eval b X.env)]:=by rfl):PI X tg (.Call (.Name "range" p) [a,b] [] pos) (dI X.K τ (jB m (n-m).toNat)):=
 piW (vM (.inl B.calm) hg (B.blt _ (by decide)) (ab h (ab h' af hs2) (by rw[hs,hs2])) hs hs2) λσ H R ⟨A,H₀,B,S,k⟩=>c9 S λvs H1 e1 d1=>by
   cases d1 with
   | cons d r=>
     cases r with
     | cons d' r=>cases r;cases d;cases d';exact⟨m,n,rfl,h1,k _ H1 e1 (xh m _)⟩
theorem FA {ts:List Expr}{m:Nat}{tp:Pos}(B:Bk X k)(h:PE X a (dE X.K true τ (.d (.lst xs))))(hg:Gl X "enumerate":=by rfl)(hs:starEach [a] X.env=[(false,eval a X.env)]:=by rfl):PI X (.Tuple ts m tp) (.Call (.Name "enumerate" p) [a] [] pos) (dI X.K τ (pS xs)):=
 piW (uD B.calm hg (B.blt _ (by decide)) (ab h af hs) hs) λσ H R ⟨A,H₀,B,S,k⟩=>c9 S λvs H1 e1 d1=>by
   cases d1 with
   | cons d r=>
     cases r;cases d with
     | lst h r=>exact⟨_,rfl,⟨_,aQ aG h⟩,k _ H1 e1 (CQ h r)⟩
theorem BP (i:Nat){n:Str}(hN:X.N.Nodup)(hi:X.N[i]?=some n:=by rfl)(hx:Loc X.env.scope n:=by first | exact .inl rfl | exact .inr rfl)(hf:X.fn n=true\/X.env.scope.names.lookup n=some .local:=by first | exact .inl rfl | exact .inr rfl | assumption):PG X (.Name n p) (dG X.K τ x (τ.set i (.d x))):=pgW (iU (i:=i) hN hi hx hf) λv σ H Q ⟨A,H₀,B,S,d,k⟩=>k _ _ (S.set (ak.refl _) (bs:=[]) (λ_ z=>nomatch z) (i7 d))
theorem Bp (i j:Nat){n m:Str}{p2 pt:Pos}{md:Nat}(hc:X.calm=true)(hN:X.N.Nodup)(hi:X.N[i]?=some n:=by rfl)(hj:X.N[j]?=some m:=by rfl)(hx:Loc X.env.scope n:=by first | exact .inl rfl | exact .inr rfl)(hy:Loc X.env.scope m:=by first | exact .inl rfl | exact .inr rfl)
   (hf:X.fn n=true\/X.env.scope.names.lookup n=some .local:=by first | exact .inl rfl | exact .inr rfl | assumption) (hf':X.fn m=true\/X.env.scope.names.lookup m=some .local:=by first | exact .inl rfl | exact .inr rfl | assumption) :
   PG X (.Tuple [.Name n p,.Name m p2] md pt) (dG X.K τ (.tup [x,y]) ((τ.set i (.d x)).set j (.d y))):=by
 refine pgW (yW hc (kW (iU (i:=i) hN hi hx hf) (kW (iU (i:=j) hN hj hy hf') u9))) λv σ H Q ⟨A,H₀,B,S,d,k⟩=>?_;cases d with
 | tup h r=>
   cases r with
   | cons d1 r=>
     cases r with
     | cons d2 r=>cases r;have S1:=S.set (i:=i) (ak.refl _) (bs:=[]) (λ_ z=>nomatch z) (i7 d1);have sub:∀b,own A (upB B i []) b->own A B b:=λb z=>z.elim .inl λ⟨j,z⟩=>(bo z).elim (λz=>nomatch z.2) λz=>.inr ⟨j,z.2⟩;exact⟨_,_,rfl,aS aG h,rfl,_,_,rfl,_,_,rfl,rfl,k _ _ (S1.set (i:=j) (ak.refl _) (bs:=[]) (λ_ z=>nomatch z) (i7 (d2.mono (aw (ak.refl _) sub))))⟩
theorem Sta.base {K:gV}{A:Addr->Prop}{H₀ H:Hp}{τ:List Sl}{B:Nat->List Addr}{σ:L2.St}(S:Sta K A H₀ τ B σ H):ak H₀ (hd H λb=>∃i,b∈B i)/\Sta K A (hd H λb=>∃i,b∈B i) τ B σ H:=by
 have s0:ak H₀ (hd H λb=>∃i,b∈B i):=λb o h=>ax.mpr ⟨λ⟨i,z⟩=>(by rw[S.fr i b z]at h; cases h),S.same _ _ h⟩
 exact⟨s0,aG,S.len,S.sl,λi b hb=>by
   cases e:hd H (λb=>∃i,b∈B i) b with
   | none=>rfl
   | some o=>exact absurd ⟨i,hb⟩ (ax.mp e).1,S.uq,λb hb=>let ⟨o,q⟩:=S.ad b hb; ⟨o,s0 _ _ q⟩,S.bd⟩
theorem Sta.back {K:gV}{A:Addr->Prop}{H₀ G H:Hp}{τ:List Sl}{B:Nat->List Addr}{σ:L2.St}(S:Sta K A G τ B σ H)(s:ak H₀ G)(ad:∀b,A b->∃o,H₀ b=some o):Sta K A H₀ τ B σ H:=⟨s.trans S.same,S.len,S.sl,λi b hb=>s.free (S.fr i b hb),S.uq,ad,S.bd⟩
theorem xM {M:Nat->List Sl->Prop}{T:Nat->List Sl->List Sl}(B:Bk X k)(hi:PI X tg it (dI X.K τ xs))(h0:M 0 τ)(hg:∀i (h:i<xs.length) τ',M i τ'->PG X tg (dG X.K τ' xs[i] (T i τ')))
   (hb:∀i,i<xs.length->∀τ',M i τ'->PSs X body (dS X.K (T i τ') { N with nx:=M (i+1),ct:=M (i+1),bk:=N.nx })) (hn:∀τ',M xs.length τ'->N.nx τ')
   (hs:∀x,foldedSetIterable it X.env x=pure x:=by intro _; rfl):PS X (.For tg it body [] pos) (dS X.K τ N):=by
 have hg':PG X tg λv σ H Q=>∃(i:Nat) (h:i<xs.length) (τ':List Sl),M i τ'/\dG X.K τ' xs[i] (T i τ') v σ H Q:=λpins s σ H v u Q I r ⟨i,h,τ',m,q⟩=>hg i h τ' m pins s σ H v u Q I r q;have hb':PSs X body λD σ H=>∃i τ',i<xs.length/\M i τ'/\dS X.K (T i τ') { N with nx:=M (i+1),ct:=M (i+1),bk:=N.nx } D σ H:=λpins s σ H D I ⟨i,τ',h,m,q⟩=>hb i h τ' m pins s σ H D I q;refine psW (BO B.po hi hg' hb' hs) λD σ H ⟨A,H₀,B,S,Me⟩=>⟨A,H₀,B,S,λJ H1 e1 yl=>?_⟩;obtain⟨s0,S1⟩:=(S.mono e1).base;have sub:∀{H'},ak (hd H1 λb=>∃i,b∈B i) H'->ak (hd H1 (own A B)) H':=λe=>(aw (ak.refl _) λ_ z=>.inr z).trans e;refine⟨λi m σ' H'=>m=xs.length-i/\i<=xs.length/\∃τ' B',M i τ'/\Sta X.K A (hd H1 λb=>∃i,b∈B i) τ' B' σ' H',⟨xs.length,rfl,G5 _,τ,B,h0,S1⟩,?_⟩;rintro i m σ' H' ⟨rfl,hi,τ',B',hM,S'⟩;obtain⟨y1,y2⟩:=yl H' (sub S'.same);by_cases hlt:i<xs.length
 . obtain⟨g,y⟩:=y2 i hlt;refine .inr ⟨g,λσ2 H2=>∃τ2 B2,M (i+1) τ2/\Sta X.K A (hd H1 λb=>∃i,b∈B i) τ2 B2 σ2 H2,λσ2 H2 q=>⟨xs.length-(i+1),by omega,rfl,hlt,q⟩,λx H2 hy=>?_⟩;obtain⟨e2,dx⟩:=y x H2 hy;have S2:=S'.mono e2;refine⟨i,hlt,τ',hM,A,_,B',S2,dx (own A B') S'.dm ?_,λσ3 B3 S3=>⟨i,τ',hlt,hM,A,_,B3,S3,?_⟩⟩
   . intro b o z;obtain⟨z1,z2⟩:=ax.mp z;have z3:hd H1 (λb=>∃i,b∈B i) b=some o:=ax.mpr ⟨λy=>z1 (.inr y),z2⟩;refine ax.mpr ⟨λy=>?_,S'.same _ _ z3⟩;rcases y with y | ⟨l,y⟩
     . exact z1 (.inl y)
     . rw[S'.fr l b y]at z3; cases z3
   . exact⟨λτ3 B3 σ3 H3 m S3=>⟨τ3,B3,m,S3⟩,λτ3 B3 σ3 H3 m S3=>Me.nx τ3 B3 σ3 H3 m (S3.back s0 S.ad),λτ3 B3 σ3 H3 m S3=>⟨τ3,B3,m,S3⟩,
       λv H3 bs s3 hr e3 hf q=>Me.rt v H3 bs s3 hr (s0.trans e3) (λb hb=>⟨s0.free (hf b hb).1,(hf b hb).2⟩) q,λH3 e3=>Me.xc H3 (s0.trans e3)⟩
 . have e:i=xs.length:=by omega
   subst e;exact .inl ⟨y1 _ (ia _),Me.nx τ' B' σ' H' (hn τ' hM) (S'.back s0 S.ad)⟩
theorem bK (j:Nat){n:Str}(M:Nat->List Sl->Prop){g:Nat->D}(B:Bk X k)(hN:X.N.Nodup)(hi:PI X (.Name n p) it (dI X.K τ xs))(hx:∀i (h:i<xs.length),xs[i]=g i)(h0:M 0 τ)
   (hb:∀i,i<xs.length->∀τ',M i τ'->PSs X body (dS X.K (τ'.set j (.d (g i))) { N with nx:=M (i+1),ct:=M (i+1),bk:=λ_=>False }))
   (hr:∀τ',M xs.length τ'->PSs X rest (dS X.K τ' N)) (hs:∀x,foldedSetIterable it X.env x=pure x:=by intro _; rfl) (hi':X.N[j]?=some n:=by rfl) (hl:Loc X.env.scope n:=by first | exact .inl rfl | exact .inr rfl)
   (hf:X.fn n=true\/X.env.scope.names.lookup n=some .local:=by first | exact .inl rfl | exact .inr rfl | assumption):PSs X (.For (.Name n p) it body [] pos::rest) (dS X.K τ N):=
 bh (M:=M xs.length) (xM (M:=M) (T:=λi τ'=>τ'.set j (.d (g i))) B hi h0 (λi h τ' m=>by rw[hx i h]; exact BP j hN hi' hl hf)
   (λi h τ' m=>tE (hb i h τ' m) λD σ H ⟨A,H₀,B,S,Me⟩=>⟨A,H₀,B,S,Me.nx,λ_ _ _ _ z=>z.elim,Me.ct,Me.rt,Me.xc⟩) (λ_ m=>m) hs) hr
theorem DX (j l:Nat){n m:Str}{p2 pt:Pos}{md:Nat}(M:Nat->List Sl->Prop){g g':Nat->D}(B:Bk X k)(hN:X.N.Nodup)(hi:PI X (.Tuple [.Name n p,.Name m p2] md pt) it (dI X.K τ xs))(hx:∀i (h:i<xs.length),xs[i]=.tup [g i,g' i])(h0:M 0 τ)
   (hb:∀i,i<xs.length->∀τ',M i τ'->PSs X body (dS X.K ((τ'.set j (.d (g i))).set l (.d (g' i))) { N with nx:=M (i+1),ct:=M (i+1),bk:=λ_=>False }))
   (hr:∀τ',M xs.length τ'->PSs X rest (dS X.K τ' N)) (hs:∀x,foldedSetIterable it X.env x=pure x:=by intro _; rfl) (hi':X.N[j]?=some n:=by rfl) (hj':X.N[l]?=some m:=by rfl) (hl:Loc X.env.scope n:=by first | exact .inl rfl | exact .inr rfl) (hl':Loc X.env.scope m:=by first | exact .inl rfl | exact .inr rfl)
   (hf:X.fn n=true\/X.env.scope.names.lookup n=some .local:=by first | exact .inl rfl | exact .inr rfl | assumption) (hf':X.fn m=true\/X.env.scope.names.lookup m=some .local:=by first | exact .inl rfl | exact .inr rfl | assumption):PSs X (.For (.Tuple [.Name n p,.Name m p2] md pt) it body [] pos::rest) (dS X.K τ N):=
 bh (M:=M xs.length) (xM (M:=M) (T:=λi τ'=>(τ'.set j (.d (g i))).set l (.d (g' i))) B hi h0 (λi h τ' m=>by rw[hx i h]; exact Bp j l B.calm hN hi' hj' hl hl' hf hf')
   (λi h τ' m=>tE (hb i h τ' m) λD σ H ⟨A,H₀,B,S,Me⟩=>⟨A,H₀,B,S,Me.nx,λ_ _ _ _ z=>z.elim,Me.ct,Me.rt,Me.xc⟩) (λ_ m=>m) hs) hr
theorem fL {n:Nat}(i:Nat)(h:i<(jB 0 n).length):(jB 0 n)[i]=.int (i:Nat):=by rw[kB,Int.zero_add]
theorem qL {bs:List Int}(i:Nat)(h:i<(bs.map D.int).length):(bs.map D.int)[i]=.int (bs.getD i 0):=by
 have:i<bs.length:=by simpa using h
 simp[this]
theorem Ep {bs:List Int}(i:Nat)(h:i<(pS (bs.map D.int)).length):(pS (bs.map D.int))[i]=.tup [.int (i:Nat),.int (bs.getD i 0)]:=by
 have:i<bs.length:=by rw[iX]at h; simpa using h
 rw[vx];simp[this]
end
end Hy
namespace Ev
open PySem PySem.Spec PyProof.Rows L2
theorem rB {X:Cx}{gT:TG}{y:Str}{py spos:Pos}{elt tg iter:Expr}{ifs:List Expr}{scope:Scope}{N:List Str}{caps:List (Option Nat)}{pos:Pos}{wi:TI}{In:TG->TT->TE->Prop}(hT:PG X (.Name y py) gT)(c:dD X scope N caps)(hi:PI X tg iter wi)
   (hs:∀x,foldedSetIterable iter X.env x=pure x)
   (hin:∀g tt te,In g tt te->∀s H fp,PG (aM X s H scope N fp) tg g/\PTs (aM X s H scope N fp) ifs tt/\PE (aM X s H scope N fp) elt te)
   (hsw:swapsWith (.ListComp elt [⟨tg,iter,ifs,0⟩] scope pos) (some (.Name y py)) spos.line X.env=pure true) :
   PS X (.Assign [.Name y py] (.ListComp elt [⟨tg,iter,ifs,0⟩] scope pos) spos) (Dj (eJ In caps wi) gT):=by
 intro pins s σ H D I h;rw[exec_Assign_Name_used _ _ _ _ hsw];refine wpAny_bind (wpAny_standAt (wpAny_bind ?_));show wpAny _ _ (do let _ <- comprehension (.ListComp elt [⟨tg,iter,ifs,0⟩] scope pos) scope X.env _ (newList []) false _ (some (assign (.Name y py) X.env))) _ _ s;refine wpAny_bind ?_;have hcl:=vG (ir I c);refine wpAny_comprehension_free (use:=some (assign (.Name y py) X.env)) (Q:=λ_ s'=>wpAny (model X.prog X.w) X.A (pure ()) (λ_ s''=>wpAny (model X.prog X.w) X.A (pure Flow.next) (SP X pins D) X.xe s'') X.xe s') (g:=⟨tg,iter,ifs,0⟩) (gs:=[]) rfl hs hcl c.kind c.loc ?_;show wpAny _ _ (eval iter X.env) _ _ s;refine thn (hi pins s σ H _ I h) λv s1 h1=>thn h1 λitv s2 h2=>?_;obtain⟨kd,it,fp,tn,J,H2,e,I2,hck,T,st2,f2,g,tt,te,hI,q⟩:=h2;have hc:=vE (scope:=scope) (N:=N) (fp:=fp) hck I2;subst e;obtain⟨Z,⟨m0,z0⟩,turn⟩:=q s2.heap.objs.size (I2.hok.fresh (ia _));have ho:∀b∈fp,∃o,s2.heap.get? b=some o:=λb hb=>let ⟨o,e,_⟩:=T.obj _ _ st2 b hb; ⟨o,e⟩
 have I4:=qK (scope:=scope) (N:=N) (caps:=caps) I2 f2 ho c;obtain⟨hg,ht,he⟩:=hin g tt te hI s2 H2 fp;refine wpAny_newObj_type (nB ?_) (by show 0<=sizeLine; decide);have hC:(s2.heap.push { cls:=.type "list",dict:=none,data:=.seq ([]:List Value).toArray }).objs.size=s2.heap.objs.size+1:=HC ..;dsimp only;rw[hC];have kp:∀b o,s2.heap.get? b=some o->(pushCells ((s2.heap.push { cls:=.type "list",data:=.seq ([]:List Value).toArray }).push { cls:=.type "dict",data:=.dict #[] }) scope.names).get? b=some o:=λb o e=>pushCells_keeps _ _ b o (ip _ (ip _ e));have st4:tn 0 (pushCells ((s2.heap.push { cls:=.type "list",data:=.seq ([]:List Value).toArray }).push { cls:=.type "dict",data:=.dict #[] }) scope.names):=T.keep _ _ _ st2 λb _ o e=>kp b o e;have stat:∀{H':Hp},(∀b∈fp,H' b=none)->∀b∈fp,mP (aM X s2 H2 scope N fp) [] H' b:=λhn b hb=>⟨hn b hb,(I4.ok.exf b hb).1,I4.ok.exfs b hb,.inl hb,(I4.ok.exf b hb).2,λp hp=>absurd (show p∈([]:List (Addr×Obj)) from hp) (by simp)⟩;have fr4:∀b∈fp,(upd H2 s2.heap.objs.size (.lst [])) b=none:=λb hb=>by obtain⟨o,e⟩:=ho b hb;rw[ar (GR (Gr e))]; exact(f2 b hb).1
 have loop:codeAny (model X.prog X.w) X.A (.compLoop (.ListComp elt [⟨tg,iter,ifs,0⟩] scope pos) 0 (.ref it) (.ref s2.heap.objs.size) (aM X s2 H2 scope N fp).env)
     (compPost (model X.prog X.w) X.A X.xe (some (assign (.Name y py) X.env)) (λ_ s'=>wpAny (model X.prog X.w) X.A (pure ()) (λ_ s''=>wpAny (model X.prog X.w) X.A (pure Flow.next) (SP X pins D) X.xe s'') X.xe s') (.ref s2.heap.objs.size) (s2.heap.objs.size+1))
     { s2 with heap:=pushCells ((s2.heap.push { cls:=.type "list",data:=.seq ([]:List Value).toArray }).push { cls:=.type "dict",data:=.dict #[] }) scope.names }:=by
   refine kS (λn s'=>∃i σ' H',Inv (aM X s2 H2 scope N fp) [] σ' H' s'/\tn i s'.heap/\(∀b∈fp,H' b=none)/\Z i n σ' H') ?_ m0 ⟨0,_,_,I4,st4,fr4,z0⟩;rintro n s3 ⟨i,σ3,H3,I3,st3,fr3,w3⟩;rcases turn i n σ3 H3 w3 with ⟨stop,qn⟩ | ⟨go,step⟩
   . refine thn (T.done (aM X s2 H2 scope N fp) rfl rfl rfl hc i [] s3 σ3 H3 _ I3 (stat fr3) st3 stop) λr s5 ⟨hr,I5⟩=>?_;subst hr;obtain⟨m,hn,_⟩:=id I5.loc;have I6:Inv X pins σ H3 s5:=by have lt:∀b o,s2.heap.get? b=some o->b≠s2.heap.objs.size+1:=λb o e=>GR (JR (Gr e));have u:=I5.base;have u':Un (frs X.stack) fp H2 H3 s2.heap s5.heap:=⟨λb o e n1 n2 n3=>u.keep b o e n1 n2 n3,λb o e n1 n2 n3=>u.slot b o e n1 n2 n3,u.free,λb o e n1=>u.there b o e n1,u.tups,u.frzs,u.tbls⟩;exact I2.Bz (s':=s5) I5.os u' I5.hok I5.bare λb hb=>⟨(f2 b hb).2.2.2.1,(f2 b hb).2.1,(f2 b hb).2.2.2.2.1,(f2 b hb).2.2.2.2.2⟩
     have fC:H3 (s2.heap.objs.size+1)=none:=I5.free;have fk:mP X pins H3 (s2.heap.objs.size+1):=I2.jv (HH _) fC;obtain⟨oC,es,ep,hoC,hdC,rC⟩:=id hn;have hpin:=I6.pinned (fp:=[s2.heap.objs.size+1]) (λb hb=>by rw[ib.mp hb]; exact fk) (λb hb=>by rw[ib.mp hb]; exact⟨oC,hoC,λv z=>by rw[hdC]at z; cases z⟩);have hmem:(s2.heap.objs.size+1,oC)∈iu [s2.heap.objs.size+1] s5.heap:=bU (List.mem_singleton_self _) hoC;refine thn (hT _ s5 σ H3 (.ref s2.heap.objs.size) (.ref s2.heap.objs.size) _ hpin rfl qn) λ_ s6 ⟨σ6,H6,I7,q7⟩=>?_;obtain⟨p1,p2,p3,p4,p5⟩:=I7.pin _ (tf _ (tf _ hmem));refine⟨m,⟨oC,es,ep,p1,hdC,rC⟩,λh' sb=>wpAny_pure (wpAny_pure ?_)⟩;refine⟨σ6,H6,?_,q7⟩;exact(I7.eO).turned (t':=s6.toks) (it:=s2.heap.objs.size+1) (λb o hb e=>(sb.2 b hb).trans e) p2 p3 fk.2.2.2.1 fk.2.2.2.2.1 fk.2.2.2.2.2
   . refine thn (T.item (aM X s2 H2 scope N fp) rfl rfl rfl hc i [] s3 σ3 H3 _ I3 (stat fr3) st3 go) λr s4 ⟨u,hr,h4⟩=>?_;subst hr;refine thn h4 λ_ s5 ⟨x,H5,I5,r5,y5,st5,fr5⟩=>?_;have I5':=I5.pinned (stat fr5) (T.obj _ _ st5);refine thn (hg _ s5 σ3 H5 x u _ I5' r5 (step x H5 y5)) λ_ s6 ⟨σ6,H6,I6,q6⟩=>?_
     have again:∀{s7:Shared} {σ7:L2.St} {H7:Hp} {m':Nat},Inv (aM X s2 H2 scope N fp) ([]++iu fp s5.heap) σ7 H7 s7->m'<n->Z (i+1) m' σ7 H7 ->
         ∃m,m<n/\∃i σ' H',Inv (aM X s2 H2 scope N fp) [] σ' H' s7/\tn i s7.heap/\(∀b∈fp,H' b=none)/\Z i m σ' H':=λ{s7 σ7 H7 m'} I7 hm z7=>by
       refine⟨m',hm,i+1,σ7,H7,I7.eO,T.keep _ _ _ st5 λb hb o e=>(I7.pin (b,o) (tf _ (tf _ (bU hb e)))).1,λb hb=>?_,z7⟩;obtain⟨o,e,d⟩:=T.obj _ _ st5 b hb;exact(I7.pin (b,o) (tf _ (tf _ (bU hb e)))).2.1
     refine thn (ht _ s6 σ6 H6 _ I6 q6) λok s7 ⟨H7,I7,q7⟩=>?_;cases ok with
     | false=>rw[if_neg (by decide)]at q7;obtain⟨m',hm,z7⟩:=q7;exact again I7 hm z7
     | true=>rw[if_pos rfl]at q7;refine thn (he _ s7 σ6 H7 _ I7 q7) λv' s8 ⟨v,H8,I8,r8,vs,m',q8,l8,hm,z8⟩=>?_;refine thn (gL (X:=aM X s2 H2 scope N fp) _ s8 σ6 H8 (.ref s2.heap.objs.size) [v] (.ref s2.heap.objs.size) [v'] (λ_ H9=>H9=upd H8 s2.heap.objs.size (.lst (vs++[v]))) I8 rfl (.cons r8 .nil) ⟨_,vs,v,rfl,rfl,q8,l8,rfl⟩) λ_ s9 ⟨_,H9,I9,_,e9⟩=>?_;subst e9;exact again I9 hm z8
 exact codeAny_compStart_list loop (T.self _ 0 _ _ _ st4 loop)
end Ev
namespace Hy
open PySem PySem.Spec PyProof.Rows L2
open Ev (D Den ay ao aS aQ aM fU dD PTs cC eJ rB)
noncomputable def slot:List Str->Str->Option Nat
 | [],_=>none
 | y::r,x=>if x=y then some 0 else (slot r x).map (·+1)
theorem slot_get:∀{N:List Str} {x:Str} {i:Nat},slot N x=some i->N[i]?=some x
 | [],_,_,h=>by cases h
 | y::r,x,i,h=>by
   unfold slot at h;split at h
   . cases h; rename_i e; rw[e]; rfl
   . cases e:slot r x with
     | none=>rw[e]at h; cases h
     | some j=>rw[e]at h; cases h; simpa using slot_get e
noncomputable def wZ (scope sc:Scope):Scope:={ scope with names:=scope.names.map λ(n,k)=>if (k==.free&&sc.kind==.function&&sc.names.lookup n==some .cell) then (n,.cell) else (n,k) }
noncomputable def bNm (scope:Scope):List Str:=(scope.names.filter λp=>(p.2==.local||p.2==.cell||p.2==.free)&&p.1 != (".0" : Str)).map (·.1)
noncomputable def bCp (No:List Str)(scope:Scope):List (Option Nat):=(bNm scope).map λx=>if (x,Hu)∈scope.names then slot No x else none
noncomputable def bOk (sc scope:Scope):Bool:=
 scope.kind==.function&&scope.names.all (λp=>p.2 != .local||scope.names.lookup p.1==some .local)&&scope.names.all (λp=>p.2 != .free||sc.names.lookup p.1==some .cell)
   && scope.names.all (λp=>p.2 != .free||(!decide ((p.1,HG)∈scope.names)&&!decide ((p.1,NameKind.local)∈scope.names)))&&decide (bNm scope++[("#" : Str)]).Nodup
   && (wZ scope sc).names.all (λp=>p.1 != ("#" : Str))
theorem x4 {a b:Bool}(h:(a&&b)=true):a=true/\b=true:=by rw[Hc]at h; exact h
theorem xD {x:Str}{q:NameKind}:∀{names:List (Str×NameKind)},names.lookup x=some q->(x,q)∈names
 | (y,k)::r,h=>by
   rw[G6]at h;split at h
   . rename_i e; cases h; rw[eq_of_beq e]; exact rp ..
   . exact pq _ (xD h)
theorem jc {X:Cx}{scope:Scope}(h:bOk X.env.scope scope=true):dD X scope (bNm scope++[("#" : Str)]) (bCp X.N scope)/\(bNm scope++[("#" : Str)]).Nodup:=by
 unfold bOk at h;obtain⟨h,h6⟩:=x4 h;obtain⟨h,h5⟩:=x4 h;obtain⟨h,h4⟩:=x4 h;obtain⟨h,h3⟩:=x4 h;obtain⟨h1,h2⟩:=x4 h;rw[Hb]at h2 h3 h4 h6;refine⟨⟨eq_of_beq h1,λx hx hk=>?_,λx hx hk=>?_,λx hx hm=>?_,λx hx hm=>?_,?_,λj i hj=>?_,?_⟩,of_decide_eq_true h5⟩
 . have:=h2 x hx; rw[hk]at this; simpa using this
 . have:=h3 x hx; rw[hk]at this; show X.env.scope.names.lookup x.1=_; simpa using this
 . have:=h4 _ hx; simp[hm]at this
 . have:=h4 _ hx; simp[hm]at this
 . unfold bCp; rw[vp,fw]; rfl
 . unfold bCp at hj;rw[GL]at hj;cases e:(bNm scope)[j]? with
   | none=>rw[e]at hj; cases hj
   | some x=>
     rw[e]at hj;simp only[HN,Ki]at hj;split at hj
     . exact⟨x,by rw[Gw (GD.mp e).1]; exact e,slot_get hj,by assumption⟩
     . cases hj
 . refine⟨("#" : Str),?_,λhv=>?_⟩
   . unfold bCp; rw[fw,GU (ia _),K1]; rfl
   . have key:∀q,(wZ scope X.env.scope).names.lookup ("#" : Str)≠some q:=λq hq=>by have:=h6 _ (xD hq);simp at this
     rcases hv with hv | hv | hv <;> exact key _ hv
noncomputable abbrev cpX (X:Cx)(s:Shared)(H:Hp)(scope:Scope)(fp:List Addr):Cx:=aM X s H scope (bNm scope++[("#" : Str)]) fp
theorem Bk.comp {X:Cx}{k:Nat}(B:Bk X k)(s:Shared)(H:Hp)(scope:Scope)(fp:List Addr):Bk (cpX X s H scope fp) k:=⟨B.room,B.calm,B.blt,IH⟩
noncomputable def bF (τ:List Sl)(caps:List (Option Nat)):List Sl:=caps.map λo=>match o with
 | some i=>match τ[i]? with
   | some (.d x)=>.d x
   | _=>.un
 | none=>.un
theorem oX {X:Cx}:PTs X [] λ_ H Q=>Q true H:=λpins s σ H Q I q=>by show wpAny _ _ (pure true) _ _ _;exact wpAny_pure ⟨H,I,q⟩
section
variable {X:Cx}{C:Bool}{τ:List Sl}{x y z:D}{b e tg it elt:Expr}{ifs:List Expr}{pos p q:Pos}{k:Nat}{xs:List D}{scope:Scope}
structure Cmp (X:Cx)(elt tg it:Expr)(ifs:List Expr)(scope:Scope)(τ:List Sl)(ys:List D):Prop where
 ex:∃(In:TG->TT->TE->Prop) (caps:List (Option Nat)) (N:List Str) (wi:TI),dD X scope N caps/\PI X tg it wi/\(∀g tt te,In g tt te->∀s H fp,PG (aM X s H scope N fp) tg g/\PTs (aM X s H scope N fp) ifs tt/\PE (aM X s H scope N fp) elt te) /\
   ∀C σ H Q,dE X.K C τ (.o ys) σ H Q->eJ In caps wi σ H Q
 hs:∀x,foldedSetIterable it X.env x=pure x
theorem cR {ys:List D}(h:Cmp X elt tg it ifs scope τ ys):PE X (.ListComp elt [⟨tg,it,ifs,0⟩] scope pos) (dE X.K C τ (.o ys)):=by obtain⟨In,caps,N,wi,h1,h2,h3,h4⟩:=h.ex;exact peW (cC h1 h2 h.hs h3) (h4 C)
theorem tI (i:Nat){n:Str}{p spos:Pos}{rest:List Stmt}{N:Po}{ys:List D}{s:Sl}(hN:X.N.Nodup)(h:Cmp X elt tg it ifs scope τ ys)(hz:s=.o ys\/s=.d (.lst ys))(hr:PSs X rest (dS X.K (τ.set i s) N))(hi:X.N[i]?=some n:=by rfl)(hx:Loc X.env.scope n:=by first | exact .inl rfl | exact .inr rfl)
   (hsw:swapsWith (.ListComp elt [⟨tg,it,ifs,0⟩] scope pos) (some (.Name n p)) spos.line X.env=pure true:=by rfl) (hf:X.fn n=true\/X.env.scope.names.lookup n=some .local:=by first | exact .inl rfl | exact .inr rfl | assumption) :
   PSs X (.Assign [.Name n p] (.ListComp elt [⟨tg,it,ifs,0⟩] scope pos) spos::rest) (dS X.K τ N):=by
 obtain⟨In,caps,N',wi,h1,h2,h3,h4⟩:=h.ex
 have h5:∀σ H Q,dE X.K true τ s σ H Q->eJ In caps wi σ H Q:=by
   rcases hz with rfl | rfl
   . exact h4 true
   . intro σ H Q q;obtain⟨A,H₀,B,S,k⟩:=ck q;refine h4 true σ H Q ⟨A,H₀,B,S,λv H' bs e hf q=>?_⟩;obtain⟨u,e1,d⟩:=q.den (G':=Hy.hd H' (vw true A B)) (aw (ak.refl _) λ_ z=>.inl z) (λb hb o ho=>ax.mpr ⟨λz=>(by obtain⟨_,q⟩:=S.vd (C:=true) b z; rw[(hf b hb).1]at q; cases q),ho⟩) rfl;cases e1;exact k v H' e d
 exact bh (M:=(·=τ.set i s)) (psW (rB (iU (i:=i) hN hi hx hf) h1 h2 h.hs h3 hsw) λD σ H ⟨A,H₀,B,S,Me⟩=>h5 _ _ _ ⟨A,H₀,B,S,λv H' bs e hf h=>Me.nx _ _ _ _ rfl (S.set e hf h)⟩) λ_ e=>e▸hr
theorem xx {T:Nat->List Sl}{t:Nat->Bool}{f:Nat->D}(hc:bOk X.env.scope scope=true)(hi:PI X tg it (dI X.K τ xs))(hT:∀i,(T i).length=(bF τ (bCp X.N scope)++[Sl.un]).length/\∀(l:Nat) (x:D),(bF τ (bCp X.N scope)++[Sl.un])[l]?=some (.d x)->(T i)[l]?=some (.d x))
   (hg:∀i (h:i<xs.length) s H fp,PG (cpX X s H scope fp) tg (dG X.K (bF τ (bCp X.N scope)++[Sl.un]) xs[i] (T i)))
   (ht:∀i,i<xs.length->∀s H fp,PTs (cpX X s H scope fp) ifs (dT X.K (T i) (t i)))
   (he:∀i,i<xs.length->t i=true->∀s H fp,PE (cpX X s H scope fp) elt (dE X.K true (T i) (.d (f i)))) (hl:xs.length<1000000) (hs:∀x,foldedSetIterable it X.env x=pure x:=by intro _; rfl) :
   Cmp X elt tg it ifs scope τ (((ox xs.length).filter t).map f):=by
 obtain⟨cap,_⟩:=jc hc;generalize hτ:bF τ (bCp X.N scope)++[Sl.un]=τb at *
 refine⟨⟨λg tt te=>g=(λv σ H Q=>∃(i:Nat) (h:i<xs.length),dG X.K τb xs[i] (T i) v σ H Q)/\tt=(λσ H Q=>∃i,i<xs.length/\dT X.K (T i) (t i) σ H Q)/\te=(λσ H Q=>∃i,i<xs.length/\t i=true/\dE X.K true (T i) (.d (f i)) σ H Q),_,_,_,cap,hi,?_,?_⟩,hs⟩
 . rintro g tt te ⟨rfl,rfl,rfl⟩ s H fp;exact⟨λpins s' σ H' v u Q I r ⟨i,h,q⟩=>hg i h s H fp pins s' σ H' v u Q I r q,λpins s' σ H' Q I ⟨i,h,q⟩=>ht i h s H fp pins s' σ H' Q I q,λpins s' σ H' Q I ⟨i,h,h',q⟩=>he i h h' s H fp pins s' σ H' Q I q⟩
 rintro C σ H Q ⟨A,H₀,B,S,kk⟩;refine⟨A,H₀,B,S,λJ H1 e1 yl=>⟨_,_,_,⟨rfl,rfl,rfl⟩,λD hD=>?_⟩⟩;have S1:=S.mono e1;have nD:¬own A B D:=λz=>by obtain⟨o,q⟩:=S1.dm D z; rw[hD]at q; cases q
 have noN:∀(l:Nat) (t:Nd),τb[l]?=some (.n t)->0≠0:=λl t h=>by
   exfalso;rw[<- hτ]at h;have:=He h;rcases Gv.mp this with z | z
   . unfold bF at z;obtain⟨o,_,ho⟩:=Gy.mp z;split at ho
     . split at ho <;> cases ho
     . cases ho
   . cases ib.mp z
 have noW:∀(l:Nat) (t:Wx),τb[l]?=some (.w t)->0≠0:=λl t h=>by
   exfalso;rw[<- hτ]at h;have:=He h;rcases Gv.mp this with z | z
   . unfold bF at z;obtain⟨o,_,ho⟩:=Gy.mp z;split at ho
     . split at ho <;> cases ho
     . cases ho
   . cases ib.mp z
 have slots:∀{σ':L2.St} {H':Hp},ak H1 H'->(∃o,H' D=some o)->σ'.length=τb.length->(∀(l:Nat) (s:Sl),τb[l]?=some s->bO X.K (hd H' λb=>own A B b\/b=D) H' (σ'[l]?).join [] s)->Sta X.K (λb=>own A B b\/b=D) H' τb (λ_=>[]) σ' H':=λ{σ' H'} e1 e2 e3 e4=>⟨ak.refl _,e3,λl s h=>(e4 l s h).mono (aw (ak.refl _) λ_ z=>z.elim id λ⟨_,z⟩=>(nomatch z)) (ak.refl _),λ_ _ z=>(nomatch z),λ_ _ _ z=>(nomatch z),λb z=>z.elim (λz=>let ⟨o,q⟩:=S1.dm b z; ⟨o,e1 _ _ q⟩) λz=>z▸e2,λ_ _ z=>(nomatch z)⟩
 refine⟨λi m σ' H'=>m=xs.length-i/\i<=xs.length/\ak H1 H'/\(∃vs,H' D=some (.lst vs)/\vs.length<=i/\ay X.K (hd H' λb=>own A B b\/b=D) vs (((ox i).filter t).map f)) /\
   σ'.length=τb.length/\∀(l:Nat) (s:Sl),τb[l]?=some s->bO X.K (hd H' λb=>own A B b\/b=D) H' (σ'[l]?).join [] s,⟨xs.length,rfl,G5 _,ao hD _,⟨[],au,ia _,.nil⟩,?_,λl s h=>?_⟩,?_⟩
 . rw[<- hτ]; unfold fU bF; rw[vp,vp,fw,fw]; rfl
 . have hv:ak (hd H (own A B)) (hd (upd H1 D (.lst [])) λb=>own A B b\/b=D):=λb o z=>by
     obtain⟨z1,z2⟩:=ax.mp z;have z2:=e1 _ _ z2;have ne:b≠D:=λz=>by rw[z,hD]at z2; cases z2
     exact ax.mpr ⟨λy=>y.elim z1 ne,by rw[ar ne]; exact z2⟩
   cases s with
   | un=>rfl
   | d x=>
     rw[<- hτ]at h
     have hlt:l<(bCp X.N scope).length:=by
       rcases JF l (bCp X.N scope).length with h' | h'
       . exact h'
       . exfalso;rw[GU (by unfold bF; rw[fw]; exact h')]at h;cases e:l-(bF τ (bCp X.N scope)).length with
         | zero=>rw[e]at h; cases h
         | succ n=>rw[e]at h; cases h
     rw[Gw (by unfold bF; rw[fw]; exact hlt)]at h;rw[Gw (by unfold fU; rw[fw]; exact hlt)];unfold bF at h;unfold fU;rw[GL]at h ⊢;cases e:(bCp X.N scope)[l]? with
     | none=>rw[e]at h; cases h
     | some o=>
       rw[e]at h;cases o with
       | none=>cases h
       | some i=>
         simp only[HN,Ki]at h;split at h
         . rename_i x' hx';cases h;obtain⟨_,u,eu,d⟩:=S.sl i _ hx';exact⟨rfl,u,by simpa using eu,d.mono hv⟩
         . cases h
   | o xs'=>
     exfalso;rw[<- hτ]at h;have:=He h;rcases Gv.mp this with z | z
     . unfold bF at z;obtain⟨o,_,ho⟩:=Gy.mp z;split at ho
       . split at ho <;> cases ho
       . cases ho
     . cases ib.mp z
   | n t'=>
     exfalso;rw[<- hτ]at h;have:=He h;rcases Gv.mp this with z | z
     . unfold bF at z;obtain⟨o,_,ho⟩:=Gy.mp z;split at ho
       . split at ho <;> cases ho
       . cases ho
     . cases ib.mp z
   | x E'=>
     exfalso;rw[<- hτ]at h;have:=He h;rcases Gv.mp this with z | z
     . unfold bF at z;obtain⟨o,_,ho⟩:=Gy.mp z;split at ho
       . split at ho <;> cases ho
       . cases ho
     . cases ib.mp z
   | w W'=>
     exfalso;rw[<- hτ]at h;have:=He h;rcases Gv.mp this with z | z
     . unfold bF at z;obtain⟨o,_,ho⟩:=Gy.mp z;split at ho
       . split at ho <;> cases ho
       . cases ho
     . cases ib.mp z
 rintro i m σ' H' ⟨rfl,hi,e2,⟨vs,hv1,hv2,hv3⟩,hlen,hsl⟩;obtain⟨y1,y2⟩:=yl H' (aG.trans e2);by_cases hlt:i<xs.length
 . obtain⟨g,y⟩:=y2 i hlt;refine .inr ⟨g,λx H2 hy=>?_⟩;obtain⟨e3,dx⟩:=y x H2 hy;have S2:Sta X.K (λb=>own A B b\/b=D) H' τb (λ_=>[]) σ' H':=slots e2 ⟨_,hv1⟩ hlen hsl;have o0:∀b,own (λb=>own A B b\/b=D) (λ_=>([]:List Addr)) b->own A B b\/b=D:=λb z=>z.elim id λ⟨_,z⟩=>(nomatch z)
   have dx':=dx _ S2.dm (λb o z=>by
     obtain⟨z1,z2⟩:=ax.mp z;exact ax.mpr ⟨λy=>(o0 b y).elim z1 λy=>(by rw[y,hD]at z2; cases z2),e2 _ _ z2⟩)
   refine⟨i,hlt,_,_,_,S2.mono e3,dx',λσ2 B2 S3=>?_⟩;have hB2:∀j b,b∈B2 j->b≠D:=λj b hb z=>by have:=S3.fr j b hb;rw[z,hv1]at this;cases this
   have back:∀{H5:Hp},ak H2 H5->σ2.length=τb.length/\∀(l:Nat) (s:Sl),τb[l]?=some s->bO X.K (hd H5 λb=>own A B b\/b=D) H5 (σ2[l]?).join [] s:=λ{H5} e5=>by
     refine⟨S3.len.trans (hT i).1,λl s h=>?_⟩;cases s with
     | un=>rfl
     | d x=>obtain⟨_,u,eu,d⟩:=S3.sl l _ ((hT i).2 l x h);exact⟨rfl,u,eu,d.mono (aw e5 λ_ z=>.inl z)⟩
     | o xs'=>exact absurd (hsl l _ h) (λ⟨_,_,z,_⟩=>(nomatch z))
     | n t'=>exact absurd rfl (noN l t' h)
     | x E'=>exact absurd (hsl l _ h) (λ⟨_,_,z,_⟩=>(nomatch z))
     | w W'=>exact absurd rfl (noW l W' h)
   refine⟨i,hlt,_,_,_,S3,λH4 e4=>?_⟩;cases ht:t i with
   | false=>rw[if_neg xa];obtain⟨b1,b2⟩:=back e4;refine⟨xs.length-(i+1),by omega,rfl,hlt,e2.trans (e3.trans e4),⟨vs,e4 _ _ (e3 _ _ hv1),by omega,?_⟩,b1,b2⟩;rw[HD,HF,GN,Jo,ht];simpa using hv3.mono (aw (e3.trans e4) λ_ z=>z)
   | true=>
     rw[if_pos rfl];refine⟨i,hlt,ht,aF (S3.mono e4) λv H5 e5 d5=>?_⟩;have e6:=e3.trans (e4.trans e5);have hv5:=e6 _ _ hv1;refine⟨vs,xs.length-(i+1),hv5,HP (GX hv2 (HP hlt hl)) (by decide),by omega,rfl,hlt,?_,?_⟩
     . intro b o z;have ne:b≠D:=λy=>by rw[y,hD]at z; cases z
       rw[ar ne];exact e6 _ _ (e2 _ _ z)
     have sm:ak (hd H5 λb=>own A B b\/b=D) (hd (upd H5 D (.lst (vs++[v]))) λb=>own A B b\/b=D):=λb o z=>by obtain⟨z1,z2⟩:=ax.mp z;exact ax.mpr ⟨z1,by rw[ar λy=>z1 (.inr y)]; exact z2⟩
     obtain⟨b1,b2⟩:=back (e4.trans e5);refine⟨⟨vs++[v],au,by rw[vp]; exact K9 hv2,?_⟩,b1,λl s h=>?_⟩
     . rw[HD,HF,GN,Jo,ht,if_pos rfl];refine ay.append (hv3.mono ((aw e6 λ_ z=>z).trans sm)) (.cons (d5.mono ((aw (ak.refl _) λ_ z=>.inl z).trans sm)) .nil)
     . cases s with
       | un=>rfl
       | d x=>obtain⟨z1,u,eu,d⟩:=b2 l _ h; exact⟨z1,u,eu,d.mono sm⟩
       | o xs'=>exact absurd (hsl l _ h) (λ⟨_,_,z,_⟩=>(nomatch z))
       | n t'=>exact absurd rfl (noN l t' h)
       | x E'=>exact absurd (hsl l _ h) (λ⟨_,_,z,_⟩=>(nomatch z))
       | w W'=>exact absurd rfl (noW l W' h)
 . have e:i=xs.length:=by omega
   subst e;refine .inl ⟨y1 _ (ia _),kk _ _ [D] (e1.trans e2) (λb hb=>?_) ⟨D,vs,rfl,rfl,hv1,hv3.mono (aw (ak.refl _) λb z=>z.elim (λz=>.inl (jl z)) λz=>.inr (ib.mp z))⟩⟩;obtain rfl:=ib.mp hb;exact⟨e1.free hD,_,hv1⟩
theorem cmp (j:Nat){n:Str}{g f:Nat->D}(B:Bk X k)(hi:PI X (.Name n p) it (dI X.K τ xs))(hx:∀i (h:i<xs.length),xs[i]=g i)(hl:xs.length<1000000)
   (he:∀i,i<xs.length->∀s H fp,PE (cpX X s H scope fp) elt (dE X.K true ((bF τ (bCp X.N scope)++[Sl.un]).set j (.d (g i))) (.d (f i))))
   (hc:bOk X.env.scope scope=true:=by kernel_rfl) (hu:(bF τ (bCp X.N scope)++[Sl.un])[j]?=some .un:=by rfl) (hN:(bNm scope++[("#" : Str)])[j]?=some n:=by rfl) (hv:∀s H fp,Loc (cpX X s H scope fp).env.scope n:=by intro _ _ _; first | exact .inl rfl | exact .inr rfl)
   (hf:∀s H fp,(cpX X s H scope fp).fn n=true\/(cpX X s H scope fp).env.scope.names.lookup n=some .local:=by intro _ _ _; first | exact .inr rfl | exact .inl rfl) (hs:∀x,foldedSetIterable it X.env x=pure x:=by intro _; rfl) :
   Cmp X elt (.Name n p) it [] scope τ ((ox xs.length).map f):=by
 have h:=xx (T:=λi=>(bF τ (bCp X.N scope)++[Sl.un]).set j (.d (g i))) (t:=λ_=>true) (f:=f) (elt:=elt) (ifs:=[]) hc hi (λi=>⟨G7,λl x h=>?_⟩) (λi h s H fp=>?_) (λi h s H fp=>?_) (λi h _ s H fp=>he i h s H fp) hl hs
 . rwa [List.filter_eq_self.mpr λ_ _=>rfl]at h
 . rw[GW (λz=>by rw[<- z,hu]at h; cases h)];exact h
 . rw[hx i h];exact BP j (jc hc).2 hN (hv s H fp) (hf s H fp)
 . exact λpins s' σ H' Q I ⟨A,H₀,B,S,q⟩=>oX pins s' σ H' Q I (q H' (ak.refl _))
end
section
variable {P:Program}{w:World}{K:gV}{mg:Str->Option Value}{base:Heap}
noncomputable def Cr (N:List Str)(ds:List D):List Sl:=ds.map .d++GA (N.length-ds.length) .un
noncomputable abbrev Xc (P:Program)(w:World)(K:gV)(mg:Str->Option Value)(base:Heap)(N:List Str)(qual:Str)(st:Stmt)(f:Addr)(cdv:Value)(A:Around)(outer:List Env)(s:Shared)(H:Hp)(E:XK):Cx:=(sL CX0 P w K mg base N qual (ag st) f cdv A outer s H E).nox
theorem fnD {x qual:Str}{st:Stmt}{f:Addr}{fd:FuncData}{N ps:List Str}{k:Nat}{Φ:List D->Sl->Prop}(F:Fun K x qual st f fd)(S:aj N ps (ag st))(hb:∀x∈ah,mg x=none)(len:∀ds r,Φ ds r->ds.length=ps.length)
   (body:∀ds r,Φ ds r->∀cdv A outer s H E,Bk (Xc P w K mg base N qual st f cdv A outer s H E) k->PSs (Xc P w K mg base N qual st f cdv A outer s H E) (aY st) (dS K (Cr N ds) { nx:=λ_=>r=.d .non,rt:=λr'=>r'=r })) :
   aH P w K mg base CX0 (k+1) f fd ps (spD K Φ):=by
 refine F.ok S (λvs H Q E ⟨A,ds,r,_,d,h,_⟩=>d.length.trans (len ds r h)) λcdv A outer s H vs Q E hr ⟨A',ds,r,ha,d,h,q⟩=>⟨_,body ds r h cdv A outer s H E ⟨hr,rfl,hb,IH⟩,A',H,λ_=>[],⟨ak.refl _,?_,λi s hi=>?_,λ_ _ z=>(nomatch z),λ_ _ _ z=>(nomatch z),ha,λ_ _ z=>(nomatch z)⟩,λτ B σ H' h S=>?_,λ_ _ _ _ h=>h.elim,λ_ _ _ _ h=>h.elim,λv H' bs s h e hf z=>?_,λ_ _=>trivial⟩
 . unfold L2.start Cr;simp[d.length]
 . have hl:=d.length;unfold Cr at hi;unfold L2.start;by_cases hlt:i<ds.length
   . rw[Gw (by simpa using hlt),GL,ph hlt]at hi;cases hi;obtain⟨v,e,dv⟩:=d.get (ph hlt);refine⟨rfl,v,?_,dv.mono (aw (ak.refl _) λ_ z=>z.elim id λ⟨_,z⟩=>(nomatch z))⟩;rw[Gw (by simpa[hl]using hlt),GL,e];rfl
   . rw[GU (by simpa using hlt),HI]at hi;split at hi
     . cases hi; rfl
     . cases hi
 . obtain rfl:=(h:r=_);exact q .non H' [] S.same eP (i7 .non)
 . obtain rfl:=(h:s=r);exact q v H' bs e hf z
theorem AB {K:gV}{Φ:List D->Sl->Prop}(hΦ:∀ns:List Int,ns.length<=63->Φ [.lst (ns.map .int)] (.d (.bl true)))(H:Hp)(a:Addr)(ns:List Int)(hl:ns.length<=63)(hS:SqL K H a (ns.map V.int)):spD K Φ [.ref a] H (λv _=>v=.bl true) λ_ _ _=>False:=by
 have hh:hd H (λ_=>False)=H:=by funext b; unfold hd; rw[if_neg id]
 refine⟨λ_=>False,_,_,λ_ z=>z.elim,.cons (.lst (vs:=ns.map V.int) (by rw[hh]; exact hS) ?_) .nil,hΦ ns hl,λv H' bs _ _ h=>?_⟩
 . clear hl hS;induction ns with
   | nil=>exact .nil
   | cons n ns ih=>exact .cons .int ih
 . obtain⟨_,u,e,d⟩:=h;cases e;cases d;rfl
end
end Hy
namespace K67
open PySem PySem.Spec PyProof.Rows L2 Hy
noncomputable def top (i:Nat):Stmt:=PySem.Challenge.pw_signsmooth_k67_steps_changed.main.body.getD i (.Pass ⟨0,0,0,0⟩)
noncomputable def mth (i j:Nat):Stmt:=match top i with
 | .ClassDef _ _ _ b _ _ _ _ _ _ _=>b.getD j (.Pass ⟨0,0,0,0⟩)
 | s=>s
theorem iL:aj ["_law_cell_here","_law_bases","_law_row","_law_base","_law_k","_law_mixed"] ["_law_cell_here","_law_bases"] (ag (top 61)):=⟨rfl,rfl,rfl,by decide +kernel,rfl,by decide +kernel,by decide +kernel⟩
theorem iZ:aj ["_law_one_here","_law_other","_law_rest"] ["_law_one_here","_law_other"] (ag (top 62)):=⟨rfl,rfl,rfl,by decide +kernel,rfl,by decide +kernel,by decide +kernel⟩
theorem nq:aj ["_law_top","_law_bottom","_law_common"] ["_law_top","_law_bottom"] (ag (top 63)):=⟨rfl,rfl,rfl,by decide +kernel,rfl,by decide +kernel,by decide +kernel⟩
theorem q9:aj ["_law_many","_law_number","_law_k"] ["_law_many"] (ag (top 59)):=⟨rfl,rfl,rfl,by decide +kernel,rfl,by decide +kernel,by decide +kernel⟩
theorem jT:aj ["_law_part","_law_figures","_law_ten_here"] ["_law_part","_law_figures"] (ag (top 68)):=⟨rfl,rfl,rfl,by decide +kernel,rfl,by decide +kernel,by decide +kernel⟩
theorem j3:aj ["_law_cell_here","_law_tracks","_law_rows_here","_law_columns","_law_many","_law_figures","_law_parts","_law_steps","_law_k","_law_word","_law_at"] ["_law_cell_here","_law_tracks","_law_rows_here","_law_columns","_law_many","_law_figures"] (ag (top 69)):=⟨rfl,rfl,rfl,by decide +kernel,rfl,by decide +kernel,by decide +kernel⟩
theorem lQ:aj ["_law_cell_here","_law_tracks","_law_rows_here","_law_columns","_law_most","_law_parts","_law_rest"] ["_law_cell_here","_law_tracks","_law_rows_here","_law_columns","_law_most"] (ag (top 78)):=⟨rfl,rfl,rfl,by decide +kernel,rfl,by decide +kernel,by decide +kernel⟩
theorem vN:aj ["_law_script","_law_k"] ["_law_script","_law_k"] (ag (top 60)):=⟨rfl,rfl,rfl,by decide +kernel,rfl,by decide +kernel,by decide +kernel⟩
theorem rX:aj ["_law_script","_law_parts","_law_tracks"] ["_law_script"] (ag (top 79)):=⟨rfl,rfl,rfl,by decide +kernel,rfl,by decide +kernel,by decide +kernel⟩
theorem kP:aj ["_law_cell_here","_law_many","_law_letters","_law_parts","_law_base","_law_rest","_law_k"] ["_law_cell_here","_law_many"] (ag (top 73)):=⟨rfl,rfl,rfl,by decide +kernel,rfl,by decide +kernel,by decide +kernel⟩
theorem iI:aj ["self"] ["self"] (ag (mth 54 0)):=⟨rfl,rfl,rfl,by decide +kernel,rfl,by decide +kernel,by decide +kernel⟩
theorem t8:aj ["thing"] ["thing"] (ag (top 53)):=⟨rfl,rfl,rfl,by decide +kernel,rfl,by decide +kernel,by decide +kernel⟩
theorem i0:aj ["self","name"] ["self","name"] (ag (mth 54 1)):=⟨rfl,rfl,rfl,by decide +kernel,rfl,by decide +kernel,by decide +kernel⟩
theorem qd:aj ["thing"] ["thing"] (ag (top 11)):=⟨rfl,rfl,rfl,by decide +kernel,rfl,by decide +kernel,by decide +kernel⟩
theorem mM:aj ["thing","least","most"] ["thing","least","most"] (ag (top 12)):=⟨rfl,rfl,rfl,by decide +kernel,rfl,by decide +kernel,by decide +kernel⟩
theorem dj:aj ["one","other","greater","lesser","rest"] ["one","other"] (ag (top 14)):=⟨rfl,rfl,rfl,by decide +kernel,rfl,by decide +kernel,by decide +kernel⟩
theorem lI:aj ["thing"] ["thing"] (ag (top 13)):=⟨rfl,rfl,rfl,by decide +kernel,rfl,by decide +kernel,by decide +kernel⟩
theorem oP:aj ["thing"] ["thing"] (ag (top 38)):=⟨rfl,rfl,rfl,by decide +kernel,rfl,by decide +kernel,by decide +kernel⟩
theorem tT:aj ["thing","tracks"] ["thing","tracks"] (ag (top 39)):=⟨rfl,rfl,rfl,by decide +kernel,rfl,by decide +kernel,by decide +kernel⟩
theorem oZ:aj ["thing"] ["thing"] (ag (top 40)):=⟨rfl,rfl,rfl,by decide +kernel,rfl,by decide +kernel,by decide +kernel⟩
theorem lL:aj ["thing"] ["thing"] (ag (top 41)):=⟨rfl,rfl,rfl,by decide +kernel,rfl,by decide +kernel,by decide +kernel⟩
theorem mL:aj ["self","name","ladder"] ["self","name","ladder"] (ag (mth 54 3)):=⟨rfl,rfl,rfl,by decide +kernel,rfl,by decide +kernel,by decide +kernel⟩
theorem gX:aj ["ladder","steps"] ["ladder","steps"] (ag (top 55)):=⟨rfl,rfl,rfl,by decide +kernel,rfl,by decide +kernel,by decide +kernel⟩
theorem xK:aj ["ladder"] ["ladder"] (ag (top 56)):=⟨rfl,rfl,rfl,by decide +kernel,rfl,by decide +kernel,by decide +kernel⟩
theorem pb:aj ["self","name","ladder"] ["self","name","ladder"] (ag (mth 54 4)):=⟨rfl,rfl,rfl,by decide +kernel,rfl,by decide +kernel,by decide +kernel⟩
theorem wX:aj ["_law_ladder_here"] ["_law_ladder_here"] (ag (top 77)):=⟨rfl,rfl,rfl,by decide +kernel,rfl,by decide +kernel,by decide +kernel⟩
theorem ic:aj ["self","name"] ["self","name"] (ag (mth 54 2)):=⟨rfl,rfl,rfl,by decide +kernel,rfl,by decide +kernel,by decide +kernel⟩
theorem gQ:aj ["self","name","at"] ["self","name","at"] (ag (mth 54 9)):=⟨rfl,rfl,rfl,by decide +kernel,rfl,by decide +kernel,by decide +kernel⟩
theorem fO:aj ["self","name","at","fresh","steps"] ["self","name","at","fresh"] (ag (mth 54 13)):=⟨rfl,rfl,rfl,by decide +kernel,rfl,by decide +kernel,by decide +kernel⟩
theorem gp:aj ["self","name","at","weight","step"] ["self","name","at","weight"] (ag (mth 54 10)):=⟨rfl,rfl,rfl,by decide +kernel,rfl,by decide +kernel,by decide +kernel⟩
theorem iQ:aj ["self","name","at"] ["self","name","at"] (ag (mth 54 12)):=⟨rfl,rfl,rfl,by decide +kernel,rfl,by decide +kernel,by decide +kernel⟩
theorem pN:aj ["self","name","step"] ["self","name","step"] (ag (mth 54 11)):=⟨rfl,rfl,rfl,by decide +kernel,rfl,by decide +kernel,by decide +kernel⟩
theorem nC:aj ["_law_works","_law_name","_law_mine","_law_cell_here","_law_parts","_law_steps","_law_weight_here","_law_at","_law_told","_law_step"] ["_law_works","_law_name","_law_mine","_law_cell_here"] (ag (top 80)):=⟨rfl,rfl,rfl,by decide +kernel,rfl,by decide +kernel,by decide +kernel⟩
theorem kf:aj ["self","name"] ["self","name"] (ag (mth 54 16)):=⟨rfl,rfl,rfl,by decide +kernel,rfl,by decide +kernel,by decide +kernel⟩
theorem lJ:aj ["self"] ["self"] (ag (mth 54 15)):=⟨rfl,rfl,rfl,by decide +kernel,rfl,by decide +kernel,by decide +kernel⟩
theorem sr:aj ["_law_one_here","_law_other"] ["_law_one_here","_law_other"] (ag (top 71)):=⟨rfl,rfl,rfl,by decide +kernel,rfl,by decide +kernel,by decide +kernel⟩
theorem wG:aj ["_law_one_here","_law_other"] ["_law_one_here","_law_other"] (ag (top 70)):=⟨rfl,rfl,rfl,by decide +kernel,rfl,by decide +kernel,by decide +kernel⟩
theorem dh:aj ["_law_ladder_here","_law_tracks","_law_rows_here","_law_columns","_law_steps","_law_lines","_law_word","_law_k","_law_weight_here"] ["_law_ladder_here"] (ag (top 72)):=⟨rfl,rfl,rfl,by decide +kernel,rfl,by decide +kernel,by decide +kernel⟩
theorem jj:aj ["thing"] ["thing"] (ag (top 20)):=⟨rfl,rfl,rfl,by decide +kernel,rfl,by decide +kernel,by decide +kernel⟩
theorem wB:aj ["thing"] ["thing"] (ag (top 21)):=⟨rfl,rfl,rfl,by decide +kernel,rfl,by decide +kernel,by decide +kernel⟩
theorem qP:aj ["thing"] ["thing"] (ag (top 22)):=⟨rfl,rfl,rfl,by decide +kernel,rfl,by decide +kernel,by decide +kernel⟩
theorem mQ:aj ["thing"] ["thing"] (ag (top 23)):=⟨rfl,rfl,rfl,by decide +kernel,rfl,by decide +kernel,by decide +kernel⟩
theorem hX:aj ["many","size","found","turn","longer","choice","least"] ["many","size"] (ag (top 24)):=⟨rfl,rfl,rfl,by decide +kernel,rfl,by decide +kernel,by decide +kernel⟩
theorem dr:aj ["known","row","columns","total","k","part"] ["known","row","columns"] (ag (top 35)):=⟨rfl,rfl,rfl,by decide +kernel,rfl,by decide +kernel,by decide +kernel⟩
theorem fM:aj ["known","row","column_choices","found","columns"] ["known","row","column_choices"] (ag (top 34)):=⟨rfl,rfl,rfl,by decide +kernel,rfl,by decide +kernel,by decide +kernel⟩
theorem cN:aj ["rows","found","known","size","fresh","column_choices","some","columns"] ["rows"] (ag (top 33)):=⟨rfl,rfl,rfl,by decide +kernel,rfl,by decide +kernel,by decide +kernel⟩
theorem pQ:aj ["row","scale"] ["row","scale"] (ag (top 29)):=⟨rfl,rfl,rfl,by decide +kernel,rfl,by decide +kernel,by decide +kernel⟩
theorem mn:aj ["table","scales"] ["table","scales"] (ag (top 30)):=⟨rfl,rfl,rfl,by decide +kernel,rfl,by decide +kernel,by decide +kernel⟩
theorem jW:aj ["row","scale","number"] ["row"] (ag (top 28)):=⟨rfl,rfl,rfl,by decide +kernel,rfl,by decide +kernel,by decide +kernel⟩
theorem gb:aj ["table","bound","found","choices"] ["table","bound"] (ag (top 32)):=⟨rfl,rfl,rfl,by decide +kernel,rfl,by decide +kernel,by decide +kernel⟩
theorem oN:aj ["table"] ["table"] (ag (top 31)):=⟨rfl,rfl,rfl,by decide +kernel,rfl,by decide +kernel,by decide +kernel⟩
theorem px:aj ["table","j"] ["table","j"] (ag (top 26)):=⟨rfl,rfl,rfl,by decide +kernel,rfl,by decide +kernel,by decide +kernel⟩
theorem my:aj ["table"] ["table"] (ag (top 25)):=⟨rfl,rfl,rfl,by decide +kernel,rfl,by decide +kernel,by decide +kernel⟩
theorem mN:aj ["track","rows"] ["track","rows"] (ag (top 46)):=⟨rfl,rfl,rfl,by decide +kernel,rfl,by decide +kernel,by decide +kernel⟩
theorem dF:aj ["number","others","found","other"] ["number","others"] (ag (top 15)):=⟨rfl,rfl,rfl,by decide +kernel,rfl,by decide +kernel,by decide +kernel⟩
theorem fP:aj ["sums","weight","above","below","factor"] ["sums","weight"] (ag (top 48)):=⟨rfl,rfl,rfl,by decide +kernel,rfl,by decide +kernel,by decide +kernel⟩
theorem gY:aj ["one","other","shared","one_factor","other_factor","tops","divisor"] ["one","other"] (ag (top 49)):=⟨rfl,rfl,rfl,by decide +kernel,rfl,by decide +kernel,by decide +kernel⟩
theorem de:aj ["top","bottom","divisor"] ["top","bottom"] (ag (top 16)):=⟨rfl,rfl,rfl,by decide +kernel,rfl,by decide +kernel,by decide +kernel⟩
theorem q0:aj ["top","bottom"] ["top","bottom"] (ag (top 17)):=⟨rfl,rfl,rfl,by decide +kernel,rfl,by decide +kernel,by decide +kernel⟩
theorem oF:aj ["sums"] ["sums"] (ag (top 47)):=⟨rfl,rfl,rfl,by decide +kernel,rfl,by decide +kernel,by decide +kernel⟩
theorem rf:aj ["step"] ["step"] (ag (top 43)):=⟨rfl,rfl,rfl,by decide +kernel,rfl,by decide +kernel,by decide +kernel⟩
theorem mB:aj ["step"] ["step"] (ag (top 42)):=⟨rfl,rfl,rfl,by decide +kernel,rfl,by decide +kernel,by decide +kernel⟩
theorem jR:aj ["ladder","tracks","step","carried"] ["ladder"] (ag (top 45)):=⟨rfl,rfl,rfl,by decide +kernel,rfl,by decide +kernel,by decide +kernel⟩
theorem kU:aj ["self","name"] ["self","name"] (ag (mth 54 17)):=⟨rfl,rfl,rfl,by decide +kernel,rfl,by decide +kernel,by decide +kernel⟩
theorem ki:aj ["self","name"] ["self","name"] (ag (mth 54 18)):=⟨rfl,rfl,rfl,by decide +kernel,rfl,by decide +kernel,by decide +kernel⟩
theorem tN:aj ["_law_thing"] ["_law_thing"] (ag (top 64)):=⟨rfl,rfl,rfl,by decide +kernel,rfl,by decide +kernel,by decide +kernel⟩
theorem lP:aj ["_law_thing"] ["_law_thing"] (ag (top 74)):=⟨rfl,rfl,rfl,by decide +kernel,rfl,by decide +kernel,by decide +kernel⟩
theorem jf:aj ["_law_thing","_law_tracks","_law_most"] ["_law_thing","_law_tracks"] (ag (top 75)):=⟨rfl,rfl,rfl,by decide +kernel,rfl,by decide +kernel,by decide +kernel⟩
theorem gz:aj ["_law_found","_law_rows_here","_law_columns"] ["_law_found","_law_rows_here","_law_columns"] (ag (top 76)):=⟨rfl,rfl,rfl,by decide +kernel,rfl,by decide +kernel,by decide +kernel⟩
theorem jU:aj ["_law_rows_here","_law_wide","_law_made_here","_law_i","_law_lines","_law_longer","_law_mask","_law_behind_it","_law_j","_law_key","_law_part"] ["_law_rows_here"] (ag (top 66)):=⟨rfl,rfl,rfl,by decide +kernel,rfl,by decide +kernel,by decide +kernel⟩
theorem fJ:aj ["_law_rows_here","_law_least","_law_made_here","_law_lines","_law_worth"] ["_law_rows_here"] (ag (top 67)):=⟨rfl,rfl,rfl,by decide +kernel,rfl,by decide +kernel,by decide +kernel⟩
theorem ny:aj ["_law_table","_law_rows_here","_law_all_bottoms","_law_row","_law_factor","_law_number"] ["_law_table"] (ag (top 65)):=⟨rfl,rfl,rfl,by decide +kernel,rfl,by decide +kernel,by decide +kernel⟩
theorem kQ:aj ["_law_works","_law_name","_law_mine","_law_found","_law_table","_law_strict"] ["_law_works","_law_name","_law_mine"] (ag (top 81)):=⟨rfl,rfl,rfl,by decide +kernel,rfl,by decide +kernel,by decide +kernel⟩
theorem xr:aj ["_law_script","_law_mine","_law_names_here","_law_works","_law_other","_law_cells","_law_cell_here","_law_told"] ["_law_script"] (ag (top 82)):=⟨rfl,rfl,rfl,by decide +kernel,rfl,by decide +kernel,by decide +kernel⟩
end K67
namespace Hy
open PySem PySem.Spec PyProof.Rows L2
open Ev (D Den ay aJ aE ao aS aQ)
section
variable {X:Cx}{C:Bool}{τ:List Sl}{x y z:D}{a b e:Expr}{pos p:Pos}{k:Nat}{s:Sl}{i j:Int}
theorem zL:OpR X (binaryOp .Add) (λx y H Q=>∃l b xs zs,x=.ref l/\y=.ref b/\SqL X.K H l xs/\SqL X.K H b zs/\xs.length+zs.length<=sizeLine/\∀p,H p=none->Q (.ref p) (upd H p (.lst (xs++zs)))):=by
 intro pins s σ H x y v u Q I rx ry h;obtain⟨l,b,xs,zs,rfl,rfl,hH,hB,hz,q⟩:=h;cases rx;cases ry;obtain⟨its,r,pl,_⟩:=I.list hH;obtain⟨its2,r2,pl2,_⟩:=I.list hB;have hl:=r.length;have hl2:=r2.length;obtain⟨⟨cls,dd,data,sl⟩,ho,hc,n,hd⟩:=pl.isList;obtain⟨⟨cls2,dd2,data2,sl2⟩,ho2,hc2,n2,hd2⟩:=pl2.isList;simp only at hc hd hc2 hd2;subst hc hd hc2 hd2;have e:its.toArray++its2.toArray=(its++its2).toArray:=by simp
 refine concat_meets ⟨_,ho,rfl⟩ ⟨_,ho2,rfl⟩ noFill_list_add seq_list_add PySem.F.slot_list_add PySem.F.entry_list_add (PySem.F.args_list_add_2 _ _) (list_addW l b its.toArray its2.toArray n n2 dd dd2 sl sl2 (by rw[Gu,Gu]; omega)) ⟨ho,ho2,?_⟩;rw[e];exact⟨.ref _,_,I.E2 (t':=s.toks) (r.append r2) (by rw[vp]; omega),rfl,q _ I.fresh⟩
theorem zd {xs ys:List D}(ha:PE X a (dE X.K C τ (.d (.lst xs))))(hb:PE X b (dE X.K C τ (.d (.lst ys))))(hl:xs.length+ys.length<1000000):PE X (.BinOp a .Add b pos) (dE X.K C τ (.o (xs++ys))):=peW (zw zL ha hb) λσ H Q ⟨A,H₀,B,S,k⟩=>
 aF S λv H1 e1 d1=>aF (S.mono e1) λw H2 e2 d2=>by
   cases d1 with
   | lst h1 r1=>cases d2 with
     | lst h2 r2=>refine⟨_,_,_,_,rfl,rfl,aQ (aG.trans e2) h1,aQ aG h2,by rw[r1.length,r2.length]; exact Ia (HP hl (by decide)),λp hp=>?_⟩;obtain⟨z1,z2,z3⟩:=jz (K:=X.K) hp ((r1.mono (aw e2 λ_ z=>z)).append r2);exact k _ _ [p] (e1.trans (e2.trans z1)) (λb hb=>⟨(e1.trans e2).free (z2 b hb).1,(z2 b hb).2⟩) z3
theorem mkL (h:i.natAbs<2^60):aJ i j:=.inl (by
 rcases Iq i.natAbs with z | z
 . rw[z]; decide
 . exact HP ((Jz (by omega)).mpr h) (by decide))
theorem mkR (h:j.natAbs<2^60):aJ i j:=.inr (.inl (by
 rcases Iq j.natAbs with z | z
 . rw[z]; decide
 . exact HP ((Jz (by omega)).mpr h) (by decide)))
theorem mkD (h0:j≠0)(h:j.natAbs<2^62):aE j:=⟨h0,HP ((Jz (by omega)).mpr h) (by decide)⟩
end
theorem ai {α:Type}{xs:List α}{i:Nat}{x:α}(h:xs[i]?=some x):atI xs (i:Int)=some x:=by unfold atI ixN;have:=(GD.mp h).1;rw[if_pos (by omega),if_pos (by omega)];simpa using h
theorem bB {ns:List Int}{i:Int}(h0:0<=i)(h:i.toNat<ns.length):atI (ns.map D.int) i=some (.int (ns.getD i.toNat 0)):=by
 obtain⟨n,rfl⟩:=HJ h0
 exact ai (by
   have h:n<ns.length:=h;simp[h])
theorem ig {xs:List D}(n:Nat):cutD xs none (some (n:Int))=xs.take n:=by
 unfold cutD;rw[HT.gJ,HT.kI,List.drop_zero,Nat.sub_zero];rcases Kk n xs.length with h | h
 . rw[IY h]
 . rw[Jq h,Gx (ia _),Gx h]
theorem uA {xs:List D}(m n:Nat):cutD xs (some (m:Int)) (some (n:Int))=(xs.take n).drop m:=by
 unfold cutD;rw[HT.gJ,HT.gJ];rw[<- List.drop_take];rcases Kk n xs.length with h | h
 . rw[IY h];rcases Kk m xs.length with h' | h'
   . rw[IY h']
   . rw[Jq h',Io (by simp; omega),Io (by simp; omega)]
 . rw[Jq h,Gx (ia _),Gx h];rcases Kk m xs.length with h' | h'
   . rw[IY h']
   . rw[Jq h',Io (ia _),Io h']
theorem getD_none {α:Type}{xs:List α}{i:Nat}{d:α}(h:xs.length<=i):xs.getD i d=d:=by simp[JN,h]
theorem ex1 {α:Type}{p:α->Prop}{a:α}(h:p a):∃a,p a:=⟨a,h⟩
theorem ex3 {α:Type}{p:α->α->α->Prop}{a b c:α}(h:p a b c):∃a b c,p a b c:=⟨a,b,c,h⟩
end Hy
namespace Hy
open PySem PySem.Spec PyProof.Rows L2
open Ev (D Den ay ao aS aQ)
noncomputable def mE:List Nat->Nd->Option Nd
 | [],t=>some t
 | i::p,.l xs=>(xs[i]?).bind (mE p)
 | i::p,.t xs=>(xs[i]?).bind (mE p)
 | _::_,.d _=>none
noncomputable def i5:List Nat->Nd->Nd->Nd
 | [],_,n=>n
 | i::p,.l xs,n=>.l (xs.set i (i5 p (xs.getD i (.d .non)) n))
 | i::p,.t xs,n=>.t (xs.set i (i5 p (xs.getD i (.d .non)) n))
 | _::_,.d x,_=>.d x
noncomputable def dC (H:Hp):List Nat->V->V->Prop
 | [],u,v=>v=u
 | i::p,u,v=>∃a vs w,u=.ref a/\(H a=some (.lst vs)\/H a=some (.tup vs))/\vs[i]?=some w/\dC H p w v
theorem dC.mono {H H':Hp}(e:ak H H'):∀{p:List Nat} {u v:V},dC H p u v->dC H' p u v
 | [],_,_,h=>h
 | _::_,_,_,⟨a,vs,w,h1,h2,h3,h4⟩=>⟨a,vs,w,h1,h2.elim (λz=>.inl (e _ _ z)) (λz=>.inr (e _ _ z)),h3,h4.mono e⟩
theorem dC.snoc {H:Hp}{i:Nat}{a:Addr}{vs:List V}{w:V}:∀{p:List Nat} {u:V},dC H p u (.ref a)->(H a=some (.lst vs)\/H a=some (.tup vs))->vs[i]?=some w->dC H (p++[i]) u w
 | [],_,h,h1,h2=>⟨a,vs,w,h.symm,h1,h2,rfl⟩
 | _::_,_,⟨b,us,x,z1,z2,z3,z4⟩,h1,h2=>⟨b,us,x,z1,z2,z3,z4.snoc h1 h2⟩
section
variable {K:gV}{G H:Hp}
theorem aZ.length:∀{vs:List V} {bs:List Addr} {xs:List Nd},aZ K G H vs bs xs->vs.length=xs.length
 | _,_,_,.nil=>rfl
 | _,_,_,.cons _ r=>congrArg (·+1) r.length
theorem aZ.part:∀{vs:List V} {bs:List Addr} {xs:List Nd} {i:Nat} {c:Nd},aZ K G H vs bs xs->xs[i]?=some c->∃v l m r,vs[i]?=some v/\bs=l++(m++r)/\bR K G H v m c /\
   ∀{G' H':Hp} {m':List Addr} {c':Nd},ak G G'->(∀b,b∈l\/b∈r->H' b=H b)->bR K G' H' v m' c'->aZ K G' H' vs (l++(m'++r)) (xs.set i c')
 | _,_,_,_,_,.nil,e=>by cases e
 | _,_,_,0,_,.cons (b1:=b1) (b2:=b2) h r,e=>by cases e;exact⟨_,[],b1,b2,rfl,rfl,h,λg e h'=>by rw[Lg]; exact .cons h' (r.frame g λb hb=>e b (.inr hb))⟩
 | _,_,_,i+1,c,.cons (b1:=b1) h r,e=>by obtain⟨v,l,m,q,h1,h2,h3,h4⟩:=aZ.part (i:=i) (c:=c) r (by simpa using e);refine⟨v,b1++l,m,q,by simpa using h1,by rw[h2,Ht],h3,λ{G' H' m' c'} g e h'=>?_⟩;rw[Ht];exact .cons (h.frame g λb hb=>e b (.inl (GF _ hb))) (h4 g (λb hb=>e b (hb.elim (λz=>.inl (tf _ z)) .inr)) h')
theorem bR.focus:∀(p:List Nat) {u:V} {bs:List Addr} {t c:Nd},bR K G H u bs t->mE p t=some c->∃v l m r,dC H p u v/\bs=l++(m++r)/\bR K G H v m c /\
   ∀{G' H':Hp} {m':List Addr} {c':Nd},ak G G'->(∀b,b∈l\/b∈r->H' b=H b)->bR K G' H' v m' c'->bR K G' H' u (l++(m'++r)) (i5 p t c')
 | [],u,bs,tr,c,h,e=>by cases e;exact⟨u,[],bs,[],rfl,by simp,h,λg _ h'=>by simpa[i5]using h'⟩
 | i::p,_,_,.l xs,c,.l (a:=a) (bs:=bs) hH r,e=>by
   rw[mE]at e;cases ei:xs[i]? with
   | none=>rw[ei]at e; cases e
   | some x=>rw[ei]at e;obtain⟨v,l,m,q,h1,h2,h3,h4⟩:=r.part ei;obtain⟨w,l',m',q',g1,g2,g3,g4⟩:=bR.focus p h3 e;refine⟨w,a::(l++l'),m',q'++q,⟨a,_,v,rfl,.inl hH,h1,g1⟩,by rw[h2,g2]; simp,g3,λ{G' H' m2 c2} g e2 h'=>?_⟩;have k1:=g4 g (λb hb=>e2 b (hb.elim (λz=>.inl (pq _ (tf _ z))) λz=>.inr (GF _ z))) h';have k2:=h4 g (λb hb=>e2 b (hb.elim (λz=>.inl (pq _ (GF _ z))) λz=>.inr (tf _ z))) k1;rw[i5,show xs.getD i (.d .non)=x by simp[JN,ei]];have k3:=bR.l (G:=G') (K:=K) (a:=a) (by rw[e2 a (.inl (rp ..))]; exact hH) k2;simpa using k3
 | i::p,_,_,.t xs,c,.t (a:=a) (bs:=bs) hH r,e=>by
   rw[mE]at e;cases ei:xs[i]? with
   | none=>rw[ei]at e; cases e
   | some x=>rw[ei]at e;obtain⟨v,l,m,q,h1,h2,h3,h4⟩:=r.part ei;obtain⟨w,l',m',q',g1,g2,g3,g4⟩:=bR.focus p h3 e;refine⟨w,a::(l++l'),m',q'++q,⟨a,_,v,rfl,.inr hH,h1,g1⟩,by rw[h2,g2]; simp,g3,λ{G' H' m2 c2} g e2 h'=>?_⟩;have k1:=g4 g (λb hb=>e2 b (hb.elim (λz=>.inl (pq _ (tf _ z))) λz=>.inr (GF _ z))) h';have k2:=h4 g (λb hb=>e2 b (hb.elim (λz=>.inl (pq _ (GF _ z))) λz=>.inr (tf _ z))) k1;rw[i5,show xs.getD i (.d .non)=x by simp[JN,ei]];have k3:=bR.t (G:=G') (K:=K) (a:=a) (by rw[e2 a (.inl (rp ..))]; exact hH) k2;simpa using k3
theorem dC.det:∀{p:List Nat} {u v w:V},dC H p u v->dC H p u w->v=w
 | [],_,_,_,h,h'=>h.trans h'.symm
 | _::_,_,_,_,⟨a,vs,x,h1,h2,h3,h4⟩,⟨b,us,y,g1,g2,g3,g4⟩=>by
   rw[h1]at g1;cases g1;have e:vs=us:=by rcases h2 with h2 | h2 <;> rcases g2 with g2 | g2 <;> rw[h2]at g2 <;> cases g2 <;> rfl
   subst e;rw[h3]at g3;cases g3;exact h4.det g4
theorem bO.frame {G' H':Hp}(g:ak G G'){v:Option V}{bs:List Addr}:∀{s:Sl},(∀b∈bs,H' b=H b)->bO K G H v bs s->bO K G' H' v bs s
 | .un,_,h=>h
 | .d _,_,⟨h,u,e1,h2⟩=>⟨h,u,e1,h2.mono g⟩
 | .o _,e,⟨a,vs,h1,h2,h3,h4⟩=>⟨a,vs,h1,h2,by rw[e a (by rw[h1]; exact rp ..)]; exact h3,h4.mono g⟩
 | .n _,e,⟨h0,u,h1,h2⟩=>⟨h0,u,h1,h2.frame g e⟩
 | .x E,e,⟨a,o,h1,h2,h3,h4⟩=>⟨a,o,h1,h2,by rw[e a (by rw[h1]; exact rp ..)]; exact h3,E.mono g h4⟩
 | .w W,e,⟨h0,u,h1,h2⟩=>⟨h0,u,h1,W.fr g e h2⟩
theorem tR {l r b0 b1:List Addr}{a:Addr}(h:(l++((a::b0)++r)).Nodup)(h1:b1.Nodup)(hb:∀b∈b1,b∈b0\/(b∉l/\b≠a/\b∉r)):(l++((a::b1)++r)).Nodup:=by
 obtain⟨z1,z2,z3⟩:=HQ.mp h;rw[Hq]at z2;obtain⟨z4,z5⟩:=Ha.mp z2;obtain⟨z6,z7,z8⟩:=HQ.mp z5;refine HQ.mpr ⟨z1,?_,λx hx y hy=>?_⟩
 . rw[Hq];refine Ha.mpr ⟨λz=>?_,HQ.mpr ⟨h1,z7,λx hx y hy=>?_⟩⟩
   . rcases Gv.mp z with z | z
     . rcases hb a z with q | q
       . exact z4 (GF _ q)
       . exact q.2.1 rfl
     . exact z4 (tf _ z)
   . rcases hb x hx with q | q
     . exact z8 x q y hy
     . exact λe=>q.2.2 (e▸hy)
 . rw[Hq]at hy;rcases xb.mp hy with q | q
   . exact z3 x hx y (by rw[q]; exact GF _ (rp ..))
   . rcases Gv.mp q with q | q
     . rcases hb y q with q | q
       . exact z3 x hx y (GF _ (pq _ q))
       . exact λe=>q.1 (e▸hx)
     . exact z3 x hx y (tf _ q)
theorem Sta.putN {A:Addr->Prop}{H₀:Hp}{τ:List Sl}{B:Nat->List Addr}{σ:L2.St}{i:Nat}{t:Nd}{p:List Nat}{xs:List Nd}(S:Sta K A H₀ τ B σ H)(hi:τ[i]?=some (.n t))(hp:mE p t=some (.l xs)):
   ∃u a vs bs0,(σ[i]?).join=some u/\dC H p u (.ref a)/\H a=some (.lst vs)/\aZ K (hd H (own A B)) H vs bs0 xs/\bs0.Nodup/\own A B a/\(∀b∈bs0,own A B b/\b≠a) /\
     ∀{H1:Hp} {vs':List V} {bs1:List Addr} {xs':List Nd},ak H H1->bs1.Nodup->(∀b∈bs1,b∈bs0\/(H b=none/\∃o,H1 b=some o))->aZ K (hd (upd H1 a (.lst vs')) λb=>own A B b\/b∈bs1) (upd H1 a (.lst vs')) vs' bs1 xs' ->
       ∃B',Sta K A H₀ (τ.set i (.n (i5 p t (.l xs')))) B' σ (upd H1 a (.lst vs')):=by
 obtain⟨nd,u,eu,ok⟩:=S.sl i _ hi;obtain⟨v,l,m,r,pv,hbs,okc,back⟩:=ok.focus p hp;cases okc with
 | @l a vs bs0 _ hH r0=>
   have mem:∀b,b∈l\/b=a\/b∈bs0\/b∈r->b∈B i:=λb hb=>by
     rw[hbs];rcases hb with z | z | z | z
     . exact GF _ z
     . exact tf _ (by rw[z]; exact GF _ (rp ..))
     . exact tf _ (GF _ (pq _ z))
     . exact tf _ (tf _ z)
   have nd':=nd;rw[hbs]at nd';obtain⟨n1,n2,n3⟩:=HQ.mp nd';rw[Hq]at n2;obtain⟨n4,n5⟩:=Ha.mp n2;obtain⟨n6,_,_⟩:=HQ.mp n5;have ha:own A B a:=.inr ⟨i,mem a (.inr (.inl rfl))⟩;refine⟨u,a,vs,bs0,eu,pv,hH,r0,n6,ha,λb hb=>⟨.inr ⟨i,mem b (.inr (.inr (.inl hb)))⟩,λz=>n4 (z▸GF _ hb)⟩,λ{H1 vs' bs1 xs'} e h1 hb hx=>?_⟩;have keep:∀b o,b≠a->H b=some o->upd H1 a (.lst vs') b=H b:=λb o ne h=>by rw[ar ne,e _ _ h,h]
   have la:∀b,b∈l\/b∈r->b≠a:=λb hb z=>by
     rcases hb with q | q
     . exact n3 b q a (GF _ (rp ..)) z
     . exact n4 (z▸tf _ q)
   have fresh:∀b∈bs1,b∈bs0\/(b∉l/\b≠a/\b∉r):=λb hb1=>by
     rcases hb b hb1 with q | ⟨q,_⟩
     . exact .inl q
     . have no:∀c,c∈B i->b≠c:=λc hc z=>by obtain⟨o,hc⟩:=S.bd i c hc; rw[<- z,q]at hc; cases hc
       exact .inr ⟨λz=>no b (mem b (.inl z)) rfl,no a (mem a (.inr (.inl rfl))),λz=>no b (mem b (.inr (.inr (.inr z)))) rfl⟩
   have sub:∀b,own A (upB B i (l++((a::bs1)++r))) b->own A B b\/b∈bs1:=λb z=>by
     rcases z with z | ⟨j,z⟩
     . exact .inl (.inl z)
     . rcases bo z with ⟨_,z⟩ | ⟨_,z⟩
       . rcases Gv.mp z with z | z
         . exact .inl (.inr ⟨i,mem b (.inl z)⟩)
         . rw[Hq]at z;rcases xb.mp z with z | z
           . exact .inl (z▸ha)
           . rcases Gv.mp z with z | z
             . exact .inr z
             . exact .inl (.inr ⟨i,mem b (.inr (.inr (.inr z)))⟩)
       . exact .inl (.inr ⟨j,z⟩)
   have sm:ak (hd H (own A B)) (hd (upd H1 a (.lst vs')) (own A (upB B i (l++((a::bs1)++r))))):=λb o z=>by
     obtain⟨z1,z2⟩:=ax.mp z;refine ax.mpr ⟨λy=>?_,by rw[keep b o (λq=>z1 (q▸ha)) z2]; exact z2⟩;rcases sub b y with y | y
     . exact z1 y
     . rcases hb b y with q | ⟨q,_⟩
       . exact z1 (.inr ⟨i,mem b (.inr (.inr (.inl q)))⟩)
       . rw[q]at z2; cases z2
   have hs:ak H₀ (upd H1 a (.lst vs')):=λb o z=>by have f0:=S.fr i a (mem a (.inr (.inl rfl)));rw[ar (λq=>by rw[q,f0]at z; cases z)];exact e _ _ (S.same _ _ z)
   refine⟨upB B i (l++((a::bs1)++r)),hs,by rw[G7,S.len],λj s hj=>?_,λj b z=>?_,λj k b z1 z2=>?_,S.ad,λj b z=>?_⟩
   . by_cases ej:j=i
     . subst ej;have hl:=(GD.mp hi).1;rw[G1 hl]at hj;cases hj;unfold upB;rw[if_pos rfl];refine⟨tR nd' h1 fresh,u,eu,back sm (λb hb=>?_) (.l au (hx.frame (aw (ak.refl _) sub) λ_ _=>rfl))⟩;obtain⟨o,q⟩:=S.bd j b (mem b (hb.elim .inl λz=>.inr (.inr (.inr z))));exact keep b o (la b hb) q
     . rw[GW (λz=>ej z.symm)]at hj;unfold upB;rw[if_neg ej];refine(S.sl j s hj).frame sm λb hb=>?_;obtain⟨o,q⟩:=S.bd j b hb;exact keep b o (λz=>ej (S.uq j i a (z▸hb) (mem a (.inr (.inl rfl))))) q
   . rcases bo z with ⟨_,z⟩ | ⟨_,z⟩
     . rcases sub b (.inr ⟨i,by unfold upB; rw[if_pos rfl]; exact z⟩) with y | y
       . rcases Gv.mp z with z | z
         . exact S.fr i b (mem b (.inl z))
         . rw[Hq]at z;rcases xb.mp z with z | z
           . exact S.fr i b (mem b (.inr (.inl z)))
           . rcases Gv.mp z with z | z
             . rcases hb b z with q | ⟨q,_⟩
               . exact S.fr i b (mem b (.inr (.inr (.inl q))))
               . exact S.same.free q
             . exact S.fr i b (mem b (.inr (.inr (.inr z))))
       . rcases hb b y with q | ⟨q,_⟩
         . exact S.fr i b (mem b (.inr (.inr (.inl q))))
         . exact S.same.free q
     . exact S.fr j b z
   . have inB:∀{c},c∈l++((a::bs1)++r)->c∈B i\/H c=none:=λ{c} z=>by
       rcases Gv.mp z with z | z
       . exact .inl (mem c (.inl z))
       . rw[Hq]at z;rcases xb.mp z with z | z
         . exact .inl (mem c (.inr (.inl z)))
         . rcases Gv.mp z with z | z
           . rcases hb c z with q | ⟨q,_⟩
             . exact .inl (mem c (.inr (.inr (.inl q))))
             . exact .inr q
           . exact .inl (mem c (.inr (.inr (.inr z))))
     have cross:∀{j},j≠i->b∈B j->b∈l++((a::bs1)++r)->False:=λ{j} nj y1 y2=>by
       rcases inB y2 with q | q
       . exact nj (S.uq j i b y1 q)
       . obtain⟨o,w⟩:=S.bd j b y1; rw[q]at w; cases w
     rcases bo z1 with ⟨e1,y1⟩ | ⟨e1,y1⟩ <;> rcases bo z2 with ⟨e2,y2⟩ | ⟨e2,y2⟩
     . exact e1.trans e2.symm
     . exact(cross e2 y2 y1).elim
     . exact(cross e1 y1 y2).elim
     . exact S.uq j k b y1 y2
   . rcases bo z with ⟨_,z⟩ | ⟨_,z⟩
     . by_cases e':b=a
       . exact⟨_,by rw[e']; exact au⟩
       . rw[ar e'];have old:b∈B i->∃o,H1 b=some o:=λq=>let ⟨o,w⟩:=S.bd i b q; ⟨o,e _ _ w⟩
         rcases Gv.mp z with z | z
         . exact old (mem b (.inl z))
         . rw[Hq]at z;rcases xb.mp z with z | z
           . exact absurd z e'
           . rcases Gv.mp z with z | z
             . rcases hb b z with q | ⟨_,q⟩
               . exact old (mem b (.inr (.inr (.inl q))))
               . exact q
             . exact old (mem b (.inr (.inr (.inr z))))
     . by_cases e':b=a
       . exact⟨_,by rw[e']; exact au⟩
       . rw[ar e'];obtain⟨o,w⟩:=S.bd j b z;exact⟨o,e _ _ w⟩
end
def dP (K:gV)(τ:List Sl)(i:Nat)(p:List Nat):TE:=λσ H Q=>∃A H₀ B,Sta K A H₀ τ B σ H/\∀u v H',(σ[i]?).join=some u->ak H H'->dC H' p u v->Q v H'
noncomputable def DL:Sl->Option Nd
 | .un=>none
 | .d x=>some (.d x)
 | .o xs=>some (.l (xs.map .d))
 | .n t=>some t
 | .x _=>none
 | .w _=>none
section
variable {K:gV}{G H:Hp}
theorem yQ:∀{vs:List V} {xs:List D},ay K G vs xs->aZ K G H vs [] (xs.map .d)
 | _,_,.nil=>.nil
 | _,_,.cons h r=>.cons (b1:=[]) (b2:=[]) (.d h) (yQ r)
theorem bO.nd {v:V}{bs:List Addr}{s:Sl}{c:Nd}(h:bO K G H (some v) bs s)(e:DL s=some c):bR K G H v bs c/\bs.Nodup:=by
 cases s with
 | un=>cases e
 | d x=>cases e; obtain⟨rfl,u,eu,d⟩:=h; cases eu; exact⟨.d d,JG⟩
 | o xs=>cases e; obtain⟨a,vs,rfl,e2,h3,h4⟩:=h; cases e2; exact⟨.l h3 (yQ h4),by simp⟩
 | n t=>cases e; obtain⟨h0,u,eu,h2⟩:=h; cases eu; exact⟨h2,h0⟩
 | x E=>cases e
 | w W=>cases e
theorem aZ.snoc {v:V}{c:Nd}{b2:List Addr}(h:bR K G H v b2 c):∀{vs:List V} {bs:List Addr} {xs:List Nd},aZ K G H vs bs xs->aZ K G H (vs++[v]) (bs++b2) (xs++[c])
 | _,_,_,.nil=>by have:=aZ.cons h .nil; rw[G3]at this; exact this
 | _,_,_,.cons h1 r=>by rw[Ht]; exact .cons h1 (aZ.snoc h r)
end
section
variable {X:Cx}{τ:List Sl}{x:D}{a b e:Expr}{pos:Pos}{k:Nat}{N:Po}{i:Nat}{t c:Nd}{pt:List Nat}{xs:List Nd}{j:Int}{m:Nat}
theorem D0 (i:Nat){n:Str}{t:Nd}(h:τ[i]?=some (.n t):=by rfl)(hN:X.N[i]?=some n:=by rfl)(hv:Vis X.env.scope n:=by first | exact Hh rfl | exact G0 (Hh rfl) | exact G0 (G0 rfl))
   (hd:(n==("__debug__" : Str))=false:=by decide) (hcd:(n==("__classdict__" : Str))=false:=by decide):PE X (.Name n pos) (dP X.K τ i []):=peW (a4 hN hv hd hcd) λσ H Q ⟨A,H₀,B,S,k⟩=>by
 obtain⟨_,u,e,_⟩:=S.sl i _ h;exact⟨u,slot_of e,k u u H e (ak.refl _) rfl⟩
theorem Sta.at {K:gV}{A:Addr->Prop}{H₀ H:Hp}{τ:List Sl}{B:Nat->List Addr}{σ:L2.St}(S:Sta K A H₀ τ B σ H)(hi:τ[i]?=some (.n t))(hp:mE pt t=some c):∃u v m,(σ[i]?).join=some u/\dC H pt u v/\bR K (hd H (own A B)) H v m c/\∀b∈m,b∈B i:=by obtain⟨_,u,e,ok⟩:=S.sl i _ hi;obtain⟨v,l,m,r,h1,h2,h3,_⟩:=ok.focus pt hp;exact⟨u,v,m,e,h1,h3,λb hb=>by rw[h2]; exact tf _ (GF _ hb)⟩
theorem uu {K:gV}{G H:Hp}{vs:List V}{bs:List Addr}{m:Nat}(r:aZ K G H vs bs xs)(hm:m<xs.length):∃v,vs[m]?=some v:=⟨vs[m]'(by rw[r.length]; exact hm),ph _⟩
theorem yT {n m:Nat}{j:Int}(h:ixN n j=some m):m<n:=by
 unfold ixN at h;split at h
 . split at h
   . cases h; omega
   . cases h
 . split at h
   . cases h; omega
   . cases h
theorem Gq (ha:PE X a (dP X.K τ i pt))(hb:PE X b (dE X.K false τ (.d (.int j))))(hi:τ[i]?=some (.n t))(hp:mE pt t=some (.l xs))(hj:ixN xs.length j=some m)(hs:je b:=by exact λ_ _=>rfl):PE X (.Subscript a b pos) (dP X.K τ i (pt++[m])):=
 peW (l6 oy ha hb hs) λσ H Q ⟨A,H₀,B,S,k⟩=>⟨A,H₀,B,S,λu v H1 eu e1 pv=>aF (S.mono e1) λw H2 e2 d2=>by
   cases d2;obtain⟨u',v',m',eu',pv',ok,_⟩:=((S.mono e1).mono e2).at hi hp;rw[eu]at eu';cases eu';obtain rfl:=(pv.mono e2).det pv';cases ok with
   | @l ad vs _ _ hH r=>
     obtain⟨x,hx⟩:=uu r (yT hj);exact⟨ad,vs,j,x,rfl,rfl,SqL.of hH,by unfold atI; rw[r.length,hj]; exact hx,k u x H2 eu (e1.trans e2) (pv'.snoc (.inl hH) hx)⟩⟩
theorem CN (ha:PE X a (dP X.K τ i pt))(hb:PE X b (dE X.K false τ (.d (.int j))))(hi:τ[i]?=some (.n t))(hp:mE pt t=some (.t xs))(hj:ixN xs.length j=some m)(hs:je b:=by exact λ_ _=>rfl):PE X (.Subscript a b pos) (dP X.K τ i (pt++[m])):=
 peW (l6 me ha hb hs) λσ H Q ⟨A,H₀,B,S,k⟩=>⟨A,H₀,B,S,λu v H1 eu e1 pv=>aF (S.mono e1) λw H2 e2 d2=>by
   cases d2;obtain⟨u',v',m',eu',pv',ok,_⟩:=((S.mono e1).mono e2).at hi hp;rw[eu]at eu';cases eu';obtain rfl:=(pv.mono e2).det pv';cases ok with
   | @t ad vs _ _ hH r=>
     obtain⟨x,hx⟩:=uu r (yT hj);exact⟨ad,vs,j,x,rfl,rfl,SqT.of hH,by unfold atI; rw[r.length,hj]; exact hx,k u x H2 eu (e1.trans e2) (pv'.snoc (.inr hH) hx)⟩⟩
end
end Hy
namespace Ev
open PySem PySem.Spec PyProof.Rows L2
noncomputable def bad:Str:=⟨#[0x110000]⟩
mutual
noncomputable def eqD:D->D->Bool
 | .non,.non=>true
 | .bl a,.bl b=>a==b
 | .bl a,.int j=>(if a then 1 else 0)==j
 | .int i,.bl b=>i==(if b then 1 else 0)
 | .int a,.int b=>a==b
 | .str a,.str b=>a==b
 | .tup xs,.tup ys=>jI xs ys
 | .lst xs,.lst ys=>jI xs ys
 | .box _,.box _=>true
 | .box _,.str b=>bad==b
 | .str a,.box _=>a==bad
 | .box _,.non | .box _,.bl _ | .box _,.int _ | .box _,.tup _ | .box _,.lst _=>false
 | .non,.box _ | .bl _,.box _ | .int _,.box _ | .tup _,.box _ | .lst _,.box _=>false
 | .non,.bl _ | .non,.int _ | .non,.str _ | .non,.tup _ | .non,.lst _=>false
 | .bl _,.non | .bl _,.str _ | .bl _,.tup _ | .bl _,.lst _=>false
 | .int _,.non | .int _,.str _ | .int _,.tup _ | .int _,.lst _=>false
 | .str _,.non | .str _,.bl _ | .str _,.int _ | .str _,.tup _ | .str _,.lst _=>false
 | .tup _,.non | .tup _,.bl _ | .tup _,.int _ | .tup _,.str _ | .tup _,.lst _=>false
 | .lst _,.non | .lst _,.bl _ | .lst _,.int _ | .lst _,.str _ | .lst _,.tup _=>false
noncomputable def jI:List D->List D->Bool
 | [],[]=>true
 | x::xs,y::ys=>eqD x y&&jI xs ys
 | [],_::_=>false
 | _::_,[]=>false
end
mutual
noncomputable def toP:D->PyData
 | .non=>.none
 | .bl b=>.bool b
 | .int i=>.int i
 | .str x=>.str x
 | .tup xs=>.tuple (gW xs)
 | .lst xs=>.list (gW xs)
 | .box _=>.str bad
noncomputable def gW:List D->List PyData
 | []=>[]
 | x::xs=>toP x::gW xs
end
mutual
noncomputable def cln:D->Bool
 | .str x=>J2 x
 | .tup xs=>cW xs
 | .lst xs=>cW xs
 | .box _=>false
 | .non | .bl _ | .int _=>true
noncomputable def cW:List D->Bool
 | []=>true
 | x::xs=>cln x&&cW xs
end
mutual
noncomputable def dep:D->Nat
 | .tup xs=>dX xs+1
 | .lst xs=>dX xs+1
 | .non | .bl _ | .int _ | .str _ | .box _=>0
noncomputable def dX:List D->Nat
 | []=>0
 | x::xs=>max (dep x) (dX xs)
end
def eX (x:D):Prop:=cln x=true/\dep x<=64
noncomputable instance (x:D):Decidable (eX x):=inferInstanceAs (Decidable (_/\_))
mutual
theorem kn:∀x y:D,Ho (toP x) (toP y)=eqD x y
 | .non,y=>by cases y <;> simp[toP,Ho,eqD]
 | .bl a,y=>by cases y <;> simp[toP,Ho,eqD]
 | .int a,y=>by cases y <;> simp[toP,Ho,eqD]
 | .str a,y=>by cases y <;> simp[toP,Ho,eqD]
 | .tup xs,.tup ys=>by simp only[toP,Ho,eqD]; exact kZ xs ys
 | .lst xs,.lst ys=>by simp only[toP,Ho,eqD]; exact kZ xs ys
 | .tup xs,.non=>by simp[toP,Ho,eqD]
 | .tup xs,.bl _=>by simp[toP,Ho,eqD]
 | .tup xs,.int _=>by simp[toP,Ho,eqD]
 | .tup xs,.str _=>by simp[toP,Ho,eqD]
 | .tup xs,.lst _=>by simp[toP,Ho,eqD]
 | .lst xs,.non=>by simp[toP,Ho,eqD]
 | .lst xs,.bl _=>by simp[toP,Ho,eqD]
 | .lst xs,.int _=>by simp[toP,Ho,eqD]
 | .lst xs,.str _=>by simp[toP,Ho,eqD]
 | .lst xs,.tup _=>by simp[toP,Ho,eqD]
 | .tup xs,.box _=>by simp[toP,Ho,eqD]
 | .lst xs,.box _=>by simp[toP,Ho,eqD]
 | .box _,y=>by cases y <;> simp[toP,Ho,eqD]
theorem kZ:∀xs ys:List D,JM (gW xs) (gW ys)=jI xs ys
 | [],[]=>by simp[gW,JM,jI]
 | [],_::_=>by simp[gW,JM,jI]
 | _::_,[]=>by simp[gW,JM,jI]
 | x::xs,y::ys=>by simp only[gW,JM,jI]; rw[kn x y,kZ xs ys]
end
mutual
theorem uj:∀x:D,(toP x).canLay0=cln x
 | .non=>by simp[toP,IC,cln]
 | .bl _=>by simp[toP,IC,cln]
 | .int _=>by simp[toP,IC,cln]
 | .str _=>by simp[toP,IC,cln]
 | .tup xs=>by simp only[toP,IC,cln]; exact kO xs
 | .lst xs=>by simp only[toP,IC,cln]; exact kO xs
 | .box _=>by simp only[toP,IC,cln]; decide +kernel
theorem kO:∀xs:List D,Kx (gW xs)=cW xs
 | []=>by simp[gW,Kx,cW]
 | x::xs=>by simp only[gW,Kx,cW]; rw[uj x,kO xs]
end
mutual
theorem uv:∀x:D,(toP x).depth=dep x
 | .non=>by simp[toP,Jb,dep]
 | .bl _=>by simp[toP,Jb,dep]
 | .int _=>by simp[toP,Jb,dep]
 | .str _=>by simp[toP,Jb,dep]
 | .tup xs=>by simp only[toP,Jb,dep]; rw[lH xs]
 | .lst xs=>by simp only[toP,Jb,dep]; rw[lH xs]
 | .box _=>by simp[toP,Jb,dep]
theorem lH:∀xs:List D,K0 (gW xs)=dX xs
 | []=>by simp[gW,K0,dX]
 | x::xs=>by simp only[gW,K0,dX]; rw[uv x,lH xs]
end
theorem cV {x:D}(h:eX x):SeqAt.shaped (toP x)=true:=by unfold SeqAt.shaped;rw[uj,uv,h.1,Bool.true_and];exact decide_eq_true h.2
section
variable {X:Cx}{pins:List (Addr×Obj)}{σ:L2.St}{H G:Hp}{s:Shared}
mutual
theorem eE (I:Inv X pins σ H s)(e:ak G H):∀{v:V} {d:D} {u:Value},Den X.K G v d->RelV v u->cln d=true->∃as,Reads s.heap u (toP d) as
 | _,_,_,.non,r,_=>by cases r; exact⟨_,.none⟩
 | _,_,_,.bl,r,_=>by cases r; exact⟨_,.bool _⟩
 | _,_,_,.int,r,_=>by obtain⟨t,rfl⟩:=r; exact⟨_,.int _ _⟩
 | _,_,_,.str,r,_=>by obtain⟨t,rfl⟩:=r; exact⟨_,.str _ _⟩
 | _,_,_,.tup h q,r,c=>by cases r;obtain⟨its,rv,⟨o,h1,h2,n,h3⟩,_⟩:=I.tuple (aS e h);obtain⟨as,z⟩:=jw I e q rv (by rw[cln]at c; exact c);exact⟨_,.tuple h1 h2 h3 (by simpa using z)⟩
 | _,_,_,.lst h q,r,c=>by cases r;obtain⟨its,rv,⟨o,n,h1,h2,_,h3⟩,_⟩:=I.list (aQ e h);obtain⟨as,z⟩:=jw I e q rv (by rw[cln]at c; exact c);exact⟨_,.list h1 h2 h3 (by simpa using z)⟩
 | _,_,_,.box _,_,c=>by rw[cln]at c; cases c
theorem jw (I:Inv X pins σ H s)(e:ak G H):∀{vs:List V} {ds:List D} {us:List Value},ay X.K G vs ds->Vals vs us->cW ds=true->∃as,ReadsAll s.heap us (gW ds) as
 | _,_,_,.nil,.nil,_=>⟨_,.nil⟩
 | _,_,_,.cons h q,.cons r rs,c=>by rw[cW,Hc]at c;obtain⟨as,z⟩:=eE I e h r c.1;obtain⟨bs,z'⟩:=jw I e q rs c.2;exact⟨_,.cons z z'⟩
end
end
end Ev
namespace Hy
open PySem PySem.Spec PyProof.Rows L2
open Ev (D Den ay ao aS aQ Itz Itv C9 BY tM uf eqD eX eE cV kn)
section
variable {X:Cx}{τ:List Sl}{x y z:D}{a b e c tg:Expr}{pos p q:Pos}{k:Nat}{s:Sl}{N:Po}{rest body:List Stmt}{xs ys:List D}{i:Int}
theorem vy (M:Nat->Bool->List Sl->Prop)(B:Bk X k)(h0:∃n t,M n t τ)(hc:∀n t τ',M n t τ'->PT X c (dT X.K τ' t))(hb:∀n τ',M n true τ'->PSs X body (dS X.K τ' { N with nx:=λτ2=>∃m t,m<n/\M m t τ2,ct:=λτ2=>∃m t,m<n/\M m t τ2,bk:=λ_=>False }))
   (hr:∀n τ',M n false τ'->PSs X rest (dS X.K τ' N)):PSs X (.While c body [] pos::rest) (dS X.K τ N):=by
 have hc':PT X c λσ H Q=>∃n t τ',M n t τ'/\dT X.K τ' t σ H Q:=λpins s σ H Q I ⟨n,t,τ',m,q⟩=>hc n t τ' m pins s σ H Q I q;have hb':PSs X body λD σ H=>∃n τ',M n true τ'/\dS X.K τ' { N with nx:=λτ2=>∃m t,m<n/\M m t τ2,ct:=λτ2=>∃m t,m<n/\M m t τ2,bk:=λ_=>False } D σ H:=λpins s σ H D I ⟨n,τ',m,q⟩=>hb n τ' m pins s σ H D I q;refine bh (M:=λτ'=>∃n,M n false τ') (psW (zB B.po hc' hb') λD σ H ⟨A,H₀,B,S,Me⟩=>⟨λm σ' H'=>∃t τ' B',M m t τ'/\Sta X.K A H₀ τ' B' σ' H',?_,?_⟩) λτ' h=>let ⟨n,h⟩:=h; hr n τ' h
 . obtain⟨n,t,h0⟩:=h0;exact⟨n,t,τ,B,h0,S⟩
 rintro m σ' H' ⟨t,τ',B',hM,S'⟩;refine⟨m,t,τ',hM,A,H₀,B',S',λH1 e1=>?_⟩;cases t with
 | false=>exact wu (Me.nx τ' B' σ' H1 ⟨m,hM⟩ (S'.mono e1))
 | true=>refine ug ⟨λσ2 H2=>∃τ2 B2,(∃n t,n<m/\M n t τ2)/\Sta X.K A H₀ τ2 B2 σ2 H2,λσ2 H2 ⟨τ2,B2,⟨n,t,l,q⟩,S2⟩=>⟨n,l,t,τ2,B2,q,S2⟩,m,τ',hM,A,H₀,B',S'.mono e1,?_⟩;exact⟨λτ2 B2 σ2 H2 m S2=>⟨τ2,B2,m,S2⟩,λ_ _ _ _ z=>z.elim,λτ2 B2 σ2 H2 m S2=>⟨τ2,B2,m,S2⟩,Me.rt,Me.xc⟩
noncomputable def fX (xs ys:List D):List D:=(xs.zip ys).map λp=>.tup [p.1,p.2]
theorem b7:(fX xs ys).length=min xs.length ys.length:=by simp[fX]
theorem oB (i:Nat)(h:i<(fX xs ys).length):(fX xs ys)[i]=.tup [xs.getD i .non,ys.getD i .non]:=by rw[b7]at h;simp[fX,show i<xs.length by omega,show i<ys.length by omega]
theorem Dv {K:gV}{G:Hp}{a b:Addr}{vs ws:List V}(h:SqL K G a vs)(r:ay K G vs xs)(h':SqL K G b ws)(r':ay K G ws ys):Yl K (Itz K a b) (fX xs ys) G:=by
 intro H sg;have hl:=r.length;have hl':=r'.length;refine⟨λi hi=>⟨vs,ws,aQ sg h,aQ sg h',by rw[b7]at hi; omega⟩,λi hi=>?_⟩;have hi':=hi;rw[b7]at hi';obtain⟨v,hv,dv⟩:=r.get (ph (show i<xs.length by omega));obtain⟨w,hw,dw⟩:=r'.get (ph (show i<ys.length by omega));refine⟨⟨vs,ws,v,w,aQ sg h,aQ sg h',hv,hw⟩,λy H' ⟨p,x1,x2,hp,e0,e1,e2,e3⟩=>?_⟩;subst e0 e1;have ex:x1=v:=by have:=e2 vs (aQ sg h); rw[hv]at this; exact(GS this).symm
 have ey:x2=w:=by have:=e3 ws (aQ sg h'); rw[hw]at this; exact(GS this).symm
 subst ex ey;refine⟨ao hp _,λM hM sv=>?_⟩;rw[oB,show xs.getD i .non=xs[i] by simp[show i<xs.length by omega],show ys.getD i .non=ys[i] by simp[show i<ys.length by omega]];have up:=sv.trans (aw (ao hp (.tup [x1,x2])) λ_ z=>z);exact .tup (SqT.of (lK hM hp)) (.cons (dv.mono up) (.cons (dw.mono up) .nil))
theorem u5 {ts:List Expr}{m:Nat}{tp:Pos}(B:Bk X k)(h:PE X a (dE X.K true τ (.d (.lst xs))))(h':PE X b (dE X.K true τ (.d (.lst ys))))(hg:Gl X "zip":=by rfl)(hs:starEach [a,b] X.env=(false,eval a X.env)::starEach [b] X.env:=by rfl)(hs2:starEach [b] X.env=[(false,eval b X.env)]:=by rfl):
   PI X (.Tuple ts m tp) (.Call (.Name "zip" p) [a,b] [] pos) (dI X.K τ (fX xs ys)):=
 piW (tM B.calm hg (B.blt _ (by decide)) (ab h (ab h' af hs2) hs) hs hs2) λσ H R ⟨A,H₀,B,S,k⟩=>c9 S λvs H1 e1 d1=>by
   cases d1 with
   | cons d r=>
     cases r with
     | cons d' r=>
       cases r;cases d with
       | lst h r=>cases d' with
         | lst h' r'=>exact⟨_,_,rfl,⟨_,aQ aG h⟩,⟨_,aQ aG h'⟩,k _ H1 e1 (Dv h r h' r')⟩
theorem C2 {K:gV}{G:Hp}{a:Addr}{vs:List V}(h:SqL K G a vs)(r:ay K G vs xs):Yl K (Itv K a vs.length) xs.reverse G:=by
 intro H sg;have hl:=r.length;refine⟨λi hi=>by rw[List.length_reverse]at hi; show vs.length<=i; omega,λi hi=>?_⟩;rw[List.length_reverse]at hi;obtain⟨v,hv,dv⟩:=r.get (ph (show xs.length-1-i<xs.length by omega));rw[<- hl]at hv;refine⟨⟨by omega,vs,v,aQ sg h,hv⟩,λx H' ⟨e1,e2⟩=>?_⟩;subst e1;have ex:x=v:=by have:=e2 vs (aQ sg h); rw[hv]at this; exact(GS this).symm
 subst ex;refine⟨ak.refl _,λM _ sv=>?_⟩;rw[List.getElem_reverse];exact dv.mono sv
theorem Ft (B:Bk X k)(h:PE X a (dE X.K true τ (.d (.lst xs))))(hg:Gl X "reversed":=by rfl)(hs:starEach [a] X.env=[(false,eval a X.env)]:=by rfl):PI X tg (.Call (.Name "reversed" p) [a] [] pos) (dI X.K τ xs.reverse):=
 piW (uf B.calm hg (B.blt _ (by decide)) (ab h af hs) hs) λσ H R ⟨A,H₀,B,S,k⟩=>c9 S λvs H1 e1 d1=>by
   cases d1 with
   | cons d r=>
     cases r;cases d with
     | lst h r=>exact⟨_,_,rfl,aQ aG h,k _ H1 e1 (C2 h r)⟩
theorem CA (hu:X.A.units+64<cLine):OpR X (compareOp .Eq) (λx y H Q=>∃G d e,ak G H/\Den X.K G x d/\Den X.K G y e/\eX d/\eX e/\Q (.bl (eqD d e)) H):=by intro pins s σ H x y v u Q I rx ry ⟨G,d,e,sg,dx,dy,o1,o2,q⟩;obtain⟨as,r1⟩:=eE I sg dx rx o1.1;obtain⟨bs,r2⟩:=eE I sg dy ry o2.1;exact eq_dataH r1 r2 (cV o1) (cV o2) hu ⟨.bl _,H,I,by rw[kn]; rfl,q⟩
theorem De (hu:X.A.units+64<cLine):OpR X (compareOp .NotEq) (λx y H Q=>∃G d e,ak G H/\Den X.K G x d/\Den X.K G y e/\eX d/\eX e/\Q (.bl (!eqD d e)) H):=by intro pins s σ H x y v u Q I rx ry ⟨G,d,e,sg,dx,dy,o1,o2,q⟩;obtain⟨as,r1⟩:=eE I sg dx rx o1.1;obtain⟨bs,r2⟩:=eE I sg dy ry o2.1;exact ne_dataH r1 r2 (cV o1) (cV o2) hu ⟨.bl _,H,I,by rw[kn]; rfl,q⟩
theorem wY (B:Bk X k)(h1:eX x)(h2:eX y):bW X (compareOp .Eq) x y (.bl (eqD x y)):=⟨_,CA B.room.units,λM v w H Q _ d1 d2 q=>⟨_,x,y,aG,d1,d2,h1,h2,q _ H (ak.refl _) .bl⟩⟩
theorem uJ (B:Bk X k)(h1:eX x)(h2:eX y):bW X (compareOp .NotEq) x y (.bl (!eqD x y)):=⟨_,De B.room.units,λM v w H Q _ d1 d2 q=>⟨_,x,y,aG,d1,d2,h1,h2,q _ H (ak.refl _) .bl⟩⟩
variable {u v:Str}
theorem nV:bW X (compareOp .Eq) (.str u) (.str v) (.bl (decide (u=v))):=⟨_,BD,λ_ v' w H Q _ d1 d2 k=>by
 cases d1;cases d2;exact⟨rfl,by rw[show decide (V.str u=V.str v)=decide (u=v) by simp]; exact k _ H (ak.refl _) .bl⟩⟩
theorem Bw:bW X (compareOp .NotEq) (.str u) (.str v) (.bl (!decide (u=v))):=⟨_,Bl,λ_ v' w H Q _ d1 d2 k=>by
 cases d1;cases d2;exact⟨rfl,by rw[show decide (V.str u=V.str v)=decide (u=v) by simp]; exact k _ H (ak.refl _) .bl⟩⟩
theorem EV {us:List Str}:bW X (compareOp .In) (.str u) (.tup (us.map .str)) (.bl (us.any λw=>decide (w=u))):=⟨_,wW,λM x' y' H Q _ d1 d2 q=>by
 cases d1;cases d2 with
 | @tup ad vs _ h r=>
   have ev:vs=us.map V.str:=by
     clear h q;induction us generalizing vs with
     | nil=>cases r; rfl
     | cons w ws ih=>
       cases r with
       | cons d r=>cases d; rw[ih r]; rfl
   subst ev;refine⟨_,_,rfl,.inr (aS aG h),rfl,?_,?_⟩
   . rw[KW,Hb]; intro _ _; rfl
   . rw[if_neg xa];unfold inV;rw[List.any_map]
     exact q _ H (ak.refl _) (by
       have e:(us.any λw=>decide (w=u))=us.any ((λy=>eqV y (V.str u))∘V.str):=by congr 1
       rw[e]; exact .bl)⟩
theorem jS:∀{bs:List Bool} {us:List Value},Vals (bs.map V.bl) us->us=bs.map HE
 | [],_,h=>by cases h; rfl
 | b::bs,_,h=>by
   cases h with
   | cons rv rs=>rw[jS rs,show _=HE b from rv]; rfl
theorem yk (hc:X.calm=true):cX X (.builtin "all") (λxs H Q=>∃(p:Addr) (bs:List Bool),xs=[.ref p]/\SqL X.K H p (bs.map V.bl)/\Q (.bl (bs.all id)) H):=by
 intro pins s σ H xs us Q I r q;obtain⟨p,bs,rfl,h,q⟩:=q
 obtain⟨u,rfl,ru⟩:∃u,us=[u]/\RelV (.ref p) u:=by
   cases r with
   | cons r1 r=>cases r; exact⟨_,rfl,r1⟩
 cases (show u=GI _ from ru);obtain⟨its,rv,pl,hz⟩:=I.list h;obtain rfl:=jS rv;have lt:∀a,s.heap.IsList a (bs.map HE).toArray->a≠s.heap.objs.size:=λa ⟨o,z,_⟩=>GR (Gr z);refine call_all_walk (wpAny_pyIter_list pl.isList ⟨_,_,_,_,_,_,λi=>(bs.map HE)[i]?==some (HE true),rfl,Walks.list (A:=X.A.in1) (I.ok.hd hc) _ _ (lt _ pl.isList) (bs.map HE).toArray,⟨⟨_,Et _ rfl,rfl,rfl⟩,?_⟩,λi v s' Q' E' hP hQ=>?_,λh' tk hk=>?_⟩)
 . obtain⟨o,z1,z2⟩:=pl.isList;exact⟨o,ip _ z1,z2⟩
 . have hP':(bs.map HE)[i]?=some v:=by simpa using hP
   obtain⟨c,_,rfl⟩:=Gy.mp (He hP');refine wpAny_truthy_bool ?_;have hQ:Q' ((bs.map HE)[i]?==some (HE true)) s':=hQ;rw[hP']at hQ;cases c
   . exact hQ
   . exact hQ
 . refine⟨.bl (bs.all id),H,I.kept (t':=tk) λb' o z=>?_,?_,q⟩
   . refine hk b' o (λhm=>?_) (ip _ z);have:b'=s.heap.objs.size:=by simpa using hm
     exact absurd (Gr z) (by rw[this]; exact Hs _)
   . have e:∀bs:List Bool,bs.all id=(ox (bs.map HE).toArray.size).all λi=>(bs.map HE)[i]?==some (HE true):=λbs=>by
       rw[Gu,fw];induction bs with
       | nil=>rfl
       | cons b bs ih=>rw[KA,ih,GK,LN,KA,KW];congr 1;cases b <;> rfl
     rw[e]; rfl
theorem vk {K:gV}{H:Hp}:∀{vs:List V} {bs:List Bool},ay K H vs (bs.map .bl)->vs=bs.map V.bl
 | _,[],h=>by cases h; rfl
 | _,_::_,h=>by
   cases h with
   | cons d r=>cases d; rw[vk r]; rfl
theorem lD (hc:X.calm=true)(bs:List Bool)(hx:xs=bs.map .bl):iy X (.builtin "all") [.lst xs] (.d (.bl (bs.all id))):=⟨_,yk hc,λM vs H Q _ d q=>by
 subst hx;cases d with
 | cons d r=>
   cases r;cases d with
   | lst h r=>
     cases vk r;exact⟨_,_,rfl,aQ aG h,q _ H [] (ak.refl _) eP (i7 .bl)⟩⟩
end
end Hy
namespace Hy
open PySem PySem.Spec PyProof.Rows L2
open Ev (D Den ay ao aS aQ aM fU dD PTs cC eJ)
section
variable {X:Cx}{C:Bool}{τ:List Sl}{x y z:D}{a b e o:Expr}{pos p q:Pos}{k:Nat}{s:Sl}{xs:List D}{i j:Int}
theorem Ac:OpR X (binaryOp .Mult) (λx y H Q=>∃l k xs,x=.ref l/\y=.int k/\SqL X.K H l xs/\0<=k/\k<100000/\xs.length*k.toNat<=sizeLine/\∀p,H p=none->Q (.ref p) (upd H p (.lst (GA k.toNat xs).flatten))):=by
 intro pins s σ H x y v u Q I rx ry h;obtain⟨l,k,xs,rfl,rfl,hH,h1,h2,hz,q⟩:=h;cases rx;obtain⟨t,rfl⟩:=ry;obtain⟨its,r,pl,_⟩:=I.list hH;have hl:=r.length;obtain⟨⟨cls,dd,data,sl⟩,e,hc,n,hd⟩:=pl.isList;simp only at hc hd;subst hc hd;have hlen:its.toArray.size*k.toNat<=sizeLine:=by rw[Gu,<- hl]; exact hz
 have hcap:¬its.toArray.size*k.toNat>(2^63-1)/8:=by
   have:(sizeLine:Nat)<=(2^63-1)/8:=by decide
   omega
 have hfit:¬(!Builtin.List.listFitsIndex k)=true:=by rw[fitsIndex_both (by omega) (by omega)];exact xa
 have hlong:¬Jr (its.toArray.size*k.toNat)=true:=by rw[qk hlen];exact xa
 have hnew:List.foldl (λx1 x2=>x1++x2) #[] (GA (if its.toArray.isEmpty=true then 0 else k.toNat) its.toArray)=(GA k.toNat its).flatten.toArray:=by
   have f0:∀m:Nat,List.foldl (λx1 x2=>x1++x2) #[] (GA m its.toArray)=(GA m its).flatten.toArray:=λm=>by have:=foldl_rep its m [];rw[Lg]at this;exact this
   rw[f0];cases its with
   | nil=>simp
   | cons a r'=>rw[if_neg (by simp)]
 refine wpAny_binaryOp_repeat_ref (T:="list") (U:="int") (by decide) ⟨_,e,rfl⟩ (λs'=>typeIs_int s' k t) noFill_list_mul F.fills_int_mul F.slot_int_rmul repeat_list F.slot_int_index.lookup
   (call_meets F.slot_int_rmul (typeIs_int s k t) F.entry_int_rmul (F.args_int_rmul_2 _ _) (lm_int_rmul_list_any k t l its.toArray n dd sl)
     ⟨e,rfl,⟨_,e,rfl⟩,call_meets F.slot_list_mul ⟨_,e,rfl⟩ F.entry_list_mul (F.args_list_mul_2 _ _) (lm_list_mul_any l its.toArray n dd sl k t hfit hcap hlong) ⟨e,?_⟩⟩)
 rw[hnew];exact⟨.ref _,_,I.E2 (t':=s.toks) (r.rep k.toNat) (by rw[len_rep,Nat.mul_comm]; exact hz),rfl,q _ I.fresh⟩
theorem uB {K:gV}{H:Hp}{vs:List V}(h:ay K H vs xs):∀k:Nat,ay K H (GA k vs).flatten (GA k xs).flatten
 | 0=>.nil
 | k+1=>by rw[Hk,Hk,HA,HA]; exact h.append (uB h k)
theorem D4 (ha:PE X a (dE X.K C τ (.d (.lst xs))))(hb:PE X b (dE X.K C τ (.d (.int j))))(h0:0<=j)(h1:j<100000)(hl:xs.length*j.toNat<1000000):PE X (.BinOp a .Mult b pos) (dE X.K C τ (.o (GA j.toNat xs).flatten)):=peW (zw Ac ha hb) λσ H Q ⟨A,H₀,B,S,k⟩=>
 aF S λv H1 e1 d1=>aF (S.mono e1) λw H2 e2 d2=>by
   cases d2;cases d1 with
   | lst h1' r1=>refine⟨_,j,_,rfl,rfl,aQ (aG.trans e2) h1',h0,h1,by rw[r1.length]; exact Ia (HP hl (by decide)),λp hp=>?_⟩;obtain⟨z1,z2,z3⟩:=jz (K:=X.K) hp (uB (r1.mono (aw e2 λ_ z=>z)) j.toNat);exact k _ _ [p] (e1.trans (e2.trans z1)) (λb hb=>⟨(e1.trans e2).free (z2 b hb).1,(z2 b hb).2⟩) z3
theorem Sta.hide {K:gV}{A:Addr->Prop}{H₀ H H1:Hp}{B:Nat->List Addr}{σ:L2.St}{b1:List Addr}(S:Sta K A H₀ τ B σ H)(e:ak H H1)(f:Fr H H1 b1):Sta K (λb=>A b\/b∈b1) (hd H1 λb=>∃i,b∈B i) τ B σ H1 where
 same:=aG
 len:=S.len
 sl:=λi s h=>(S.sl i s h).mono (λb o z=>by
   obtain⟨z1,z2⟩:=ax.mp z;refine ax.mpr ⟨λw=>?_,e _ _ z2⟩;rcases w with (w | w) | w
   . exact z1 (.inl w)
   . rw[(f b w).1]at z2; cases z2
   . exact z1 (.inr w)) e
 fr:=λi b hb=>by
   cases q:hd H1 (λb=>∃i,b∈B i) b with
   | none=>rfl
   | some o=>exact absurd ⟨i,hb⟩ (ax.mp q).1
 uq:=S.uq
 ad:=λb hb=>by
   rcases hb with z | z
   . obtain⟨o,q⟩:=S.ad b z;exact⟨o,ax.mpr ⟨λ⟨i,w⟩=>(by rw[S.fr i b w]at q; cases q),e _ _ (S.same _ _ q)⟩⟩
   . obtain⟨w1,o,w2⟩:=f b z;exact⟨o,ax.mpr ⟨λ⟨i,w⟩=>(by obtain⟨o',q⟩:=S.bd i b w; rw[w1]at q; cases q),w2⟩⟩
 bd:=λi b hb=>let ⟨o,q⟩:=S.bd i b hb; ⟨o,e _ _ q⟩
theorem Ae {A:Addr->Prop}{B:Nat->List Addr}{b1:List Addr}{b:Addr}(h:vw C A B b\/b∈b1):vw C (λb=>A b\/b∈b1) B b:=by
 cases C with
 | true=>
   rcases h with (h | h) | h
   . exact .inl (.inl h)
   . exact .inr h
   . exact .inl (.inr h)
 | false=>exact h
end
section
variable {X:Cx}{C:Bool}{τ τ':List Sl}{x y z:D}{b e tg it elt o:Expr}{es ifs:List Expr}{pos p q:Pos}{k:Nat}{s:Sl}{N:Po}{rest body:List Stmt}{xs:List D}{i:Nat}{j:Int}{scope:Scope}
noncomputable def dGs (K:gV)(τ:List Sl)(xs:List D)(τ':List Sl):TGs:=λvs σ H Q=>∃A H₀ B,Sta K A H₀ τ B σ H/\ay K (hd H (own A B)) vs xs/\∀σ' B',Sta K A H₀ τ' B' σ' H->Q σ' H
theorem EN {es:List Expr}{t t':TGs}(h:PGs X es t)(f:∀v σ H Q,t' v σ H Q->t v σ H Q):PGs X es t':=λpins s σ H v u Q I r q=>h pins s σ H v u Q I r (f v σ H Q q)
theorem sC:PGs X [] (dGs X.K τ [] τ):=EN u9 λv σ H Q ⟨A,H₀,B,S,d,k⟩=>by cases d;exact⟨rfl,k σ B S⟩
theorem cP (i:Nat){n:Str}(hN:X.N.Nodup)(h:PGs X es (dGs X.K (τ.set i (.d x)) xs τ'))(hi:X.N[i]?=some n:=by rfl)(hx:Loc X.env.scope n:=by first | exact .inl rfl | exact .inr rfl)(hf:X.fn n=true\/X.env.scope.names.lookup n=some .local:=by first | exact .inl rfl | exact .inr rfl | assumption):PGs X (.Name n p::es) (dGs X.K τ (x::xs) τ'):=
 EN (kW (iU (i:=i) hN hi hx hf) h) λv σ H Q ⟨A,H₀,B,S,d,k⟩=>by
   cases d with
   | cons d r=>have sub:∀b,own A (upB B i []) b->own A B b:=λb z=>z.elim .inl λ⟨j,z⟩=>(bo z).elim (λz=>nomatch z.2) λz=>.inr ⟨j,z.2⟩;exact⟨_,_,rfl,A,H₀,_,S.set (ak.refl _) (bs:=[]) (λ_ z=>nomatch z) (i7 d),r.mono (aw (ak.refl _) sub),k⟩
theorem yA {m:Nat}(hc:X.calm=true)(h:PGs X es (dGs X.K τ xs τ'))(hl:(assignEach es X.env).length=xs.length:=by rfl)(hst:(assignEach es X.env).findIdx? (·.1)=none:=by rfl):PG X (.Tuple es m pos) (dG X.K τ (.tup xs) τ'):=
 pgW (yW (n:=xs.length) hc h hl hst) λv σ H Q ⟨A,H₀,B,S,d,k⟩=>by
   cases d with
   | tup h r=>exact⟨_,_,rfl,aS aG h,r.length,A,H₀,B,S,r,k⟩
theorem B4 {m:Nat}(he:PE X e (dE X.K true τ (.d x)))(hg:PG X (.Tuple es m p) (dG X.K τ x τ'))(hr:PSs X rest (dS X.K τ' N))(hs:swapsWithSole [.Tuple es m p] e pos.line X.env=pure false:=by rfl)(hw:swappedStores [.Tuple es m p] e X.env=pure none:=by rfl)
   (h1:(assignEach [.Tuple es m p] X.env).map (·.2)=[assign (.Tuple es m p) X.env]:=by rfl):PSs X (.Assign [.Tuple es m p] e pos::rest) (dS X.K τ N):=
 bh (M:=(·=τ')) (psW (sA he hg hs hw h1) λD σ H ⟨A,H₀,B,S,Me⟩=>aF S λv H1 e1 d1=>⟨A,H₀,B,S.mono e1,d1,λσ' B' S'=>Me.nx _ _ _ _ rfl S'⟩) λ_ e=>e▸hr
theorem BM (M:Nat->List Sl->Prop)(T:Nat->List Sl->List Sl)(B:Bk X k)(hi:PI X tg it (dI X.K τ xs))(hg:∀i (h:i<xs.length) τ',M i τ'->PG X tg (dG X.K τ' xs[i] (T i τ')))(h0:M 0 τ)
   (hb:∀i,i<xs.length->∀τ',M i τ'->PSs X body (dS X.K (T i τ') { N with nx:=M (i+1),ct:=M (i+1),bk:=λ_=>False }))
   (hr:∀τ',M xs.length τ'->PSs X rest (dS X.K τ' N)) (hs:∀x,foldedSetIterable it X.env x=pure x:=by intro _; rfl):PSs X (.For tg it body [] pos::rest) (dS X.K τ N):=
 bh (M:=M xs.length) (xM (M:=M) (T:=T) B hi h0 hg (λi h τ' m=>tE (hb i h τ' m) λD σ H ⟨A,H₀,B,S,Me⟩=>⟨A,H₀,B,S,Me.nx,λ_ _ _ _ z=>z.elim,Me.ct,Me.rt,Me.xc⟩) (λ_ m=>m) hs) hr
theorem FJ (T:Nat->List Sl){f:Nat->D}(B:Bk X k)(hi:PI X tg it (dI X.K τ xs))(hl:xs.length<1000000)(hT:∀i,(T i).length=(bF τ (bCp X.N scope)++[Sl.un]).length/\∀(l:Nat) (x:D),(bF τ (bCp X.N scope)++[Sl.un])[l]?=some (.d x)->(T i)[l]?=some (.d x))
   (hg:∀i (h:i<xs.length) s H fp,PG (cpX X s H scope fp) tg (dG X.K (bF τ (bCp X.N scope)++[.un]) xs[i] (T i)))
   (he:∀i,i<xs.length->∀s H fp,PE (cpX X s H scope fp) elt (dE X.K true (T i) (.d (f i)))) (hc:bOk X.env.scope scope=true:=by kernel_rfl) (hs:∀x,foldedSetIterable it X.env x=pure x:=by intro _; rfl) :
   Cmp X elt tg it [] scope τ ((ox xs.length).map f):=by
 have h:=xx (T:=T) (t:=λ_=>true) (f:=f) (elt:=elt) (ifs:=[]) hc hi hT hg (λi h s H fp=>λpins s' σ H' Q I ⟨A,H₀,B,S,q⟩=>oX pins s' σ H' Q I (q H' (ak.refl _))) (λi h _ s H fp=>he i h s H fp) hl hs
 rwa [List.filter_eq_self.mpr λ_ _=>rfl]at h
structure C0 (X:Cx)(elt tg it:Expr)(ifs:List Expr)(scope:Scope)(τ:List Sl)(ns:List Nd):Prop where
 ex:∃(In:TG->TT->TE->Prop) (caps:List (Option Nat)) (N:List Str) (wi:TI),dD X scope N caps/\PI X tg it wi/\(∀g tt te,In g tt te->∀s H fp,PG (aM X s H scope N fp) tg g/\PTs (aM X s H scope N fp) ifs tt/\PE (aM X s H scope N fp) elt te) /\
   ∀C σ H Q,dE X.K C τ (.n (.l ns)) σ H Q->eJ In caps wi σ H Q
 hs:∀x,foldedSetIterable it X.env x=pure x
theorem En {ns:List Nd}(h:C0 X elt tg it ifs scope τ ns):PE X (.ListComp elt [⟨tg,it,ifs,0⟩] scope pos) (dE X.K C τ (.n (.l ns))):=by obtain⟨In,caps,N,wi,h1,h2,h3,h4⟩:=h.ex;exact peW (cC h1 h2 h.hs h3) (h4 C)
theorem AW {T:Nat->List Sl}{f:Nat->Nd}{S':Nat->Sl}(B:Bk X k)(hc:bOk X.env.scope scope=true)(hi:PI X tg it (dI X.K τ xs))(hT:∀i,(T i).length=(bF τ (bCp X.N scope)++[Sl.un]).length/\∀(l:Nat) (x:D),(bF τ (bCp X.N scope)++[Sl.un])[l]?=some (.d x)->(T i)[l]?=some (.d x))
   (hg:∀i (h:i<xs.length) s H fp,PG (cpX X s H scope fp) tg (dG X.K (bF τ (bCp X.N scope)++[.un]) xs[i] (T i)))
   (he:∀i,i<xs.length->∀s H fp,PE (cpX X s H scope fp) elt (dE X.K true (T i) (S' i))) (hn:∀i,i<xs.length->DL (S' i)=some (f i)) (hl:xs.length<1000000) (hs:∀x,foldedSetIterable it X.env x=pure x:=by intro _; rfl) :
   C0 X elt tg it [] scope τ ((ox xs.length).map f):=by
 obtain⟨cap,_⟩:=jc hc;generalize hτ:bF τ (bCp X.N scope)++[Sl.un]=τb at *
 refine⟨⟨λg tt te=>g=(λv σ H Q=>∃(i:Nat) (h:i<xs.length),dG X.K τb xs[i] (T i) v σ H Q)/\tt=(λσ H Q=>Q true H)/\te=(λσ H Q=>∃i,i<xs.length/\dE X.K true (T i) (S' i) σ H Q),_,_,_,cap,hi,?_,?_⟩,hs⟩
 . rintro g tt te ⟨rfl,rfl,rfl⟩ s H fp;exact⟨λpins s' σ H' v u Q I r ⟨i,h,q⟩=>hg i h s H fp pins s' σ H' v u Q I r q,oX,λpins s' σ H' Q I ⟨i,h,q⟩=>he i h s H fp pins s' σ H' Q I q⟩
 rintro C σ H Q ⟨A,H₀,B,S,kk⟩;refine⟨A,H₀,B,S,λJ H1 e1 yl=>⟨_,_,_,⟨rfl,rfl,rfl⟩,λD hD=>?_⟩⟩;have S1:=S.mono e1
 have flat:∀(l:Nat) (s:Sl),τb[l]?=some s->s=.un\/∃x,s=.d x:=λl s h=>by
   rw[<- hτ]at h;rcases Gv.mp (He h) with z | z
   . unfold bF at z;obtain⟨o,_,ho⟩:=Gy.mp z;split at ho
     . split at ho
       . exact .inr ⟨_,ho.symm⟩
       . exact .inl ho.symm
     . exact .inl ho.symm
   . exact .inl (ib.mp z)
 have slots:∀{σ':L2.St} {H':Hp} {rs:List Addr},ak H1 H'->(∃o,H' D=some o)->(∀b∈rs,∃o,H' b=some o)->σ'.length=τb.length->(∀(l:Nat) (s:Sl),τb[l]?=some s->bO X.K (hd H' λb=>own A B b\/b=D\/b∈rs) H' (σ'[l]?).join [] s)->Sta X.K (λb=>own A B b\/b=D\/b∈rs) H' τb (λ_=>[]) σ' H':=λ{σ' H' rs} e1 e2 e5 e3 e4=>⟨ak.refl _,e3,λl s h=>(e4 l s h).mono (aw (ak.refl _) λ_ z=>z.elim id λ⟨_,z⟩=>(nomatch z)) (ak.refl _),λ_ _ z=>(nomatch z),λ_ _ _ z=>(nomatch z),λb z=>z.elim (λz=>let ⟨o,q⟩:=S1.dm b z; ⟨o,e1 _ _ q⟩) λz=>z.elim (λz=>z▸e2) (e5 b),λ_ _ z=>(nomatch z)⟩
 refine⟨λi m σ' H'=>m=xs.length-i/\i<=xs.length/\ak H1 H'/\(∃vs rs,H' D=some (.lst vs)/\vs.length<=i/\aZ X.K (hd H' λb=>own A B b\/b=D\/b∈rs) H' vs rs ((ox i).map f)/\(D::rs).Nodup/\(∀b∈rs,H1 b=none) /\
   σ'.length=τb.length/\∀(l:Nat) (s:Sl),τb[l]?=some s->bO X.K (hd H' λb=>own A B b\/b=D\/b∈rs) H' (σ'[l]?).join [] s),⟨xs.length,rfl,G5 _,ao hD _,[],[],au,ia _,.nil,by simp,λ_ z=>(nomatch z),?_,λl s h=>?_⟩,?_⟩
 . rw[<- hτ]; unfold fU bF; rw[vp,vp,fw,fw]; rfl
 . have hv:ak (hd H (own A B)) (hd (upd H1 D (.lst [])) λb=>own A B b\/b=D\/b∈([]:List Addr)):=λb o z=>by
     obtain⟨z1,z2⟩:=ax.mp z;have z2:=e1 _ _ z2;have ne:b≠D:=λz=>by rw[z,hD]at z2; cases z2
     exact ax.mpr ⟨λy=>y.elim z1 λy=>y.elim ne λy=>(nomatch y),by rw[ar ne]; exact z2⟩
   rcases flat l s h with rfl | ⟨x,rfl⟩
   . rfl
   . rw[<- hτ]at h
     have hlt:l<(bCp X.N scope).length:=by
       rcases JF l (bCp X.N scope).length with h' | h'
       . exact h'
       . exfalso;rw[GU (by unfold bF; rw[fw]; exact h')]at h;cases e:l-(bF τ (bCp X.N scope)).length with
         | zero=>rw[e]at h; cases h
         | succ n=>rw[e]at h; cases h
     rw[Gw (by unfold bF; rw[fw]; exact hlt)]at h;rw[Gw (by unfold fU; rw[fw]; exact hlt)];unfold bF at h;unfold fU;rw[GL]at h ⊢;cases e:(bCp X.N scope)[l]? with
     | none=>rw[e]at h; cases h
     | some o=>
       rw[e]at h;cases o with
       | none=>cases h
       | some i=>
         simp only[HN,Ki]at h;split at h
         . rename_i x' hx';cases h;obtain⟨_,u,eu,d⟩:=S.sl i _ hx';exact⟨rfl,u,by simpa using eu,d.mono hv⟩
         . cases h
 rintro i m σ' H' ⟨rfl,hi,e2,vs,rs,hv1,hv2,hv3,hnd,hfr,hlen,hsl⟩;obtain⟨y1,y2⟩:=yl H' (aG.trans e2);have rsd:∀b∈rs,∃o,H' b=some o:=hv3.some_of;by_cases hlt:i<xs.length
 . obtain⟨g,y⟩:=y2 i hlt;refine .inr ⟨g,λx H2 hy=>?_⟩;obtain⟨e3,dx⟩:=y x H2 hy;have S2:=slots e2 ⟨_,hv1⟩ rsd hlen hsl;have o0:∀b,own (λb=>own A B b\/b=D\/b∈rs) (λ_=>([]:List Addr)) b->own A B b\/b=D\/b∈rs:=λb z=>z.elim id λ⟨_,z⟩=>(nomatch z)
   have dx':=dx _ S2.dm (λb o z=>by
     obtain⟨z1,z2⟩:=ax.mp z;exact ax.mpr ⟨λy=>(o0 b y).elim z1 λy=>y.elim (λy=>(by rw[y,hD]at z2; cases z2)) λy=>(by rw[hfr b y]at z2; cases z2),e2 _ _ z2⟩)
   refine⟨i,hlt,_,_,_,S2.mono e3,dx',λσ2 B2 S3=>?_⟩;refine ug ⟨i,hlt,_,_,_,S3,λv H5 bs e5 hf5 d5=>?_⟩;obtain⟨nv,ndv⟩:=d5.nd (hn i hlt);have e6:=e3.trans e5;have hv5:=e6 _ _ hv1;have bsD:∀b∈bs,b≠D:=λb hb z=>by have:=(hf5 b hb).1; rw[z,e3 _ _ hv1]at this; cases this
   have bsR:∀b∈bs,b∉rs:=λb hb z=>by obtain⟨o,q⟩:=rsd b z; have:=(hf5 b hb).1; rw[e3 _ _ q]at this; cases this
   refine⟨vs,xs.length-(i+1),hv5,HP (GX hv2 (HP hlt hl)) (by decide),by omega,rfl,hlt,?_,vs++[v],rs++bs,au,by rw[vp]; exact K9 hv2,?_,?_,?_,S3.len.trans (hT i).1,λl s h=>?_⟩
   . intro b o z;have ne:b≠D:=λy=>by rw[y,hD]at z; cases z
     rw[ar ne];exact e6 _ _ (e2 _ _ z)
   . rw[HD,GN]
     have sm1:ak (hd H5 λb=>vw true (λb=>own A B b\/b=D\/b∈rs) B2 b\/b∈bs) (hd (upd H5 D (.lst (vs++[v]))) λb=>own A B b\/b=D\/b∈rs++bs):=λb o z=>by
       obtain⟨z1,z2⟩:=ax.mp z;refine ax.mpr ⟨λy=>z1 ?_,by rw[ar (λy:b=D=>z1 (.inl (.inl (.inr (.inl y)))))]; exact z2⟩;rcases y with y | y | y
       . exact .inl (.inl (.inl y))
       . exact .inl (.inl (.inr (.inl y)))
       . exact(Gv.mp y).elim (λy=>.inl (.inl (.inr (.inr y)))) .inr
     have sm2:ak (hd H' λb=>own A B b\/b=D\/b∈rs) (hd (upd H5 D (.lst (vs++[v]))) λb=>own A B b\/b=D\/b∈rs++bs):=λb o z=>by
       obtain⟨z1,z2⟩:=ax.mp z;refine ax.mpr ⟨λy=>?_,by rw[ar (λy:b=D=>z1 (.inr (.inl y)))]; exact e6 _ _ z2⟩;rcases y with y | y | y
       . exact z1 (.inl y)
       . exact z1 (.inr (.inl y))
       . rcases Gv.mp y with y | y
         . exact z1 (.inr (.inr y))
         . have:=(hf5 b y).1; rw[e3 _ _ z2]at this; cases this
     refine aZ.snoc (nv.frame sm1 λb hb=>ar (bsD b hb)) (hv3.frame sm2 λb hb=>?_);obtain⟨o,q⟩:=rsd b hb;rw[ar (λz:b=D=>(Ha.mp hnd).1 (by rw[<- z]; exact hb)),e6 _ _ q,q]
   . obtain⟨n1,n2⟩:=Ha.mp hnd;refine Ha.mpr ⟨λz=>?_,HQ.mpr ⟨n2,ndv,λx hx y hy z=>bsR y hy (z▸hx)⟩⟩;exact(Gv.mp z).elim n1 λz=>bsD D z rfl
   . intro b hb;rcases Gv.mp hb with z | z
     . exact hfr b z
     . exact(e2.trans e3).free (hf5 b z).1
   . rcases flat l s h with rfl | ⟨x,rfl⟩
     . rfl
     . obtain⟨_,u,eu,d⟩:=S3.sl l _ ((hT i).2 l x h);refine⟨rfl,u,eu,d.mono λb o z=>?_⟩;obtain⟨z1,z2⟩:=ax.mp z;refine ax.mpr ⟨λy=>?_,by rw[ar (λy:b=D=>z1 (.inl (.inr (.inl y))))]; exact e5 _ _ z2⟩;rcases y with y | y | y
       . exact z1 (.inl (.inl y))
       . exact z1 (.inl (.inr (.inl y)))
       . rcases Gv.mp y with y | y
         . exact z1 (.inl (.inr (.inr y)))
         . rw[(hf5 b y).1]at z2; cases z2
 . have e:i=xs.length:=by omega
   subst e;refine .inl ⟨y1 _ (ia _),kk _ _ (D::rs) (e1.trans e2) (λb hb=>?_) ⟨hnd,_,rfl,.l hv1 (hv3.frame (aw (ak.refl _) λb z=>?_) λ_ _=>rfl)⟩⟩
   . rcases xb.mp hb with rfl | z
     . exact⟨e1.free hD,_,hv1⟩
     . exact⟨e1.free (hfr b z),rsd b z⟩
   . rcases z with z | z
     . exact .inl (jl z)
     . exact .inr ((xb.mp z).elim .inl .inr)
theorem Gg (j:Nat){n:Str}{g:Nat->D}{f:Nat->Nd}{S':Nat->Sl}(B:Bk X k)(hi:PI X (.Name n p) it (dI X.K τ xs))(hx:∀i (h:i<xs.length),xs[i]=g i)(hl:xs.length<1000000)
   (he:∀i,i<xs.length->∀s H fp,PE (cpX X s H scope fp) elt (dE X.K true ((bF τ (bCp X.N scope)++[Sl.un]).set j (.d (g i))) (S' i))) (hn:∀i,i<xs.length->DL (S' i)=some (f i))
   (hc:bOk X.env.scope scope=true:=by kernel_rfl) (hu:(bF τ (bCp X.N scope)++[Sl.un])[j]?=some .un:=by rfl) (hN:(bNm scope++[("#" : Str)])[j]?=some n:=by rfl) (hv:∀s H fp,Loc (cpX X s H scope fp).env.scope n:=by intro _ _ _; first | exact .inl rfl | exact .inr rfl)
   (hf:∀s H fp,(cpX X s H scope fp).fn n=true\/(cpX X s H scope fp).env.scope.names.lookup n=some .local:=by intro _ _ _; first | exact .inr rfl | exact .inl rfl) (hs:∀x,foldedSetIterable it X.env x=pure x:=by intro _; rfl) :
   C0 X elt (.Name n p) it [] scope τ ((ox xs.length).map f):=by
 refine AW (T:=λi=>(bF τ (bCp X.N scope)++[Sl.un]).set j (.d (g i))) B hc hi (λi=>⟨G7,λl x h=>?_⟩) (λi h s H fp=>?_) he hn hl hs
 . rw[GW (λz=>by rw[<- z,hu]at h; cases h)];exact h
 . rw[hx i h];exact BP j (jc hc).2 hN (hv s H fp) (hf s H fp)
end
end Hy
namespace K67
open PySem PySem.Spec PyProof.Rows L2 Hy
open Ev (D Den ay aJ aE)
noncomputable def frD (q:Rat):D:=.tup [.int q.num,.int (q.den:Nat)]
theorem fu (x:Rat):x*(((x.den:Nat):Int):Rat)=(x.num:Rat):=by
 have h:mkRat x.num x.den=x:=by rw[<- Rat.normalize_eq_mkRat x.den_nz]; exact Rat.normalize_self x
 rw[Rat.mkRat_eq_div]at h;have hd:((x.den:Nat):Rat)≠0:=λz=>x.den_nz (LH.mp z);rw[Rat.intCast_natCast];conv=>lhs; lhs; rw[<- h]
 exact Rat.div_mul_cancel hd
theorem cq {t b:Int}{x:Rat}(hb:0<b)(h:(t:Rat)=x*(b:Rat)):x.num=t/(GG t b:Int)/\((x.den:Nat):Int)=b/(GG t b:Int):=by
 have hb0:((b.toNat:Nat):Rat)≠0:=λz=>by have:=LH.mp z; omega
 have hbb:((b:Int):Rat)=((b.toNat:Nat):Rat):=by rw[<- Rat.intCast_natCast,Kw (by omega)]
 have e:x=mkRat t b.toNat:=by rw[Rat.mkRat_eq_div,h,hbb,Rat.mul_div_cancel hb0]
 have g:b.toNat.gcd t.natAbs=GG t b:=by rw[GG,Kl,show b.natAbs=b.toNat by omega]
 have nz:¬b.toNat=0:=by omega
 constructor
 . rw[e,Rat.num_mkRat,if_neg nz,g]
 . rw[e,Rat.den_mkRat,if_neg nz,g,Int.natCast_ediv,Kw (by omega)]
theorem den_pos (q:Rat):0<((q.den:Nat):Int):=by have:=q.den_pos; omega
theorem pK {b:Int}(hb:0<b):(b:Rat)≠0:=λz=>by have:=Rat.intCast_eq_zero_iff.mp z; omega
def Bd (n:Nat)(i:Int):Prop:=i.natAbs<2^n
theorem Bd.mono {m n:Nat}{i:Int}(h:Bd m i)(hm:m<=n):Bd n i:=Gz h (Hg (by decide) hm)
theorem Bd.log {n:Nat}{i:Int}(h:Bd n i)(hn:0<n):i.natAbs.log2<n:=by
 rcases Iq i.natAbs with z | z
 . rw[z]; exact hn
 . exact(Jz (by omega)).mpr h
theorem Bd.mul {m n:Nat}{i j:Int}(h:Bd m i)(g:Bd n j):Bd (m+n) (i*j):=by
 unfold Bd at *
 rw[Ly,Lk];rcases Iq j.natAbs with z | z
 . rw[z,Nat.mul_zero]; exact Nat.mul_pos (Hv m) (Hv n)
 . exact Gz (Nat.mul_lt_mul_of_pos_right h z) (IL _ (Ia g))
theorem Bd.aJ {m n:Nat}{i j:Int}(h:Bd m i)(g:Bd n j)(hm:m<=1000000)(hn:n<=1000000):aJ i j:=
 .inr (.inr ⟨(h.mono (Nat.le_succ_of_le hm)).log (by omega) |> λz=>by
   rcases Iq i.natAbs with q | q
   . rw[q]; decide
   . exact Gz ((Jz (by omega)).mpr h) hm,by
   rcases Iq j.natAbs with q | q
   . rw[q]; decide
   . exact Gz ((Jz (by omega)).mpr g) hn⟩)
theorem Bd.aE {n:Nat}{j:Int}(h:Bd n j)(h0:j≠0)(hn:n<=9000):aE j:=⟨h0,Gz ((Jz (by omega)).mpr h) hn⟩
theorem Bd.of_dvd {n:Nat}{i j:Int}(h:Bd n j)(hd:i∣j)(h0:j≠0):Bd n i:=GX (Nat.le_of_dvd (by omega) (Int.natAbs_dvd_natAbs.mpr hd)) h
theorem Bd.ediv {n:Nat}{i:Int}(h:Bd n i)(j:Int):Bd n (i/j):=GX (Lz i j) h
theorem Bd.gcd {n:Nat}{i j:Int}(h:Bd n j)(h0:j≠0):Bd n (GG i j:Int):=h.of_dvd (HR ..) h0
theorem jC {i j:Int}(h0:j≠0):(GG i j:Int)≠0:=λz=>h0 (by have:=Int.gcd_eq_zero_iff.mp (Int.ofNat_eq_zero.mp z); exact this.2)
theorem cU {i j:Int}(t:Int):t.fdiv (GG i j:Int)=t/(GG i j:Int):=Hn _ (Ir _)
structure Sq (n:Nat)(q:Rat):Prop where
 num:Bd n q.num
 den:Bd n (q.den:Nat)
theorem Sq.mono {m n:Nat}{q:Rat}(h:Sq m q)(hm:m<=n):Sq n q:=⟨h.num.mono hm,h.den.mono hm⟩
theorem Sq.cq {n:Nat}{t b:Int}{x:Rat}(hb:0<b)(h:(t:Rat)=x*(b:Rat))(h1:Bd n t)(h2:Bd n b):Sq n x:=by obtain⟨e1,e2⟩:=K67.cq hb h;exact⟨by rw[e1]; exact h1.ediv _,by rw[e2]; exact h2.ediv _⟩
noncomputable def whl (x:D):Bool:=mr .int x&&!mr .bool x
def cS (ds:List D)(r:Sl):Prop:=∃x,ds=[x]/\r=.d (.bl (whl x))
noncomputable def whw (x:D):Bool:=mr .int x&&!mr .bool x
def eK (ds:List D)(r:Sl):Prop:=∃x,ds=[x]/\r=.d (.bl (whw x))
def cj (ds:List D)(r:Sl):Prop:=∃i l m:Int,ds=[.int i,.int l,.int m]/\r=.d (.bl (decide (l<=i)&&decide (i<=m)))
def aW (ds:List D)(r:Sl):Prop:=∃a b:Int,ds=[.int a,.int b]/\r=.d (.int (GG a b:Int))
theorem iR (i:Int):Av i=(i.natAbs:Int):=by unfold Av; omega
def cF (ds:List D)(r:Sl):Prop:=∃a b:Int,ds=[.int a,.int b]/\r=.d (.int (GG a b:Int))
noncomputable def wV:D->Bool
 | .tup [.int a,.int b]=>decide (1<=b)&&decide ((GG a b:Int)=1)
 | _=>false
theorem uL (q:Rat):wV (frD q)=true:=by have h1:=den_pos q;have h2:GG q.num (q.den:Nat)=1:=q.reduced;show (decide ((1:Int)<=(q.den:Nat))&&decide ((GG q.num (q.den:Nat):Int)=1))=true;rw[h2,decide_eq_true (show (1:Int)<=(q.den:Nat) by omega)];rfl
theorem w8 {xs:List D}(h:xs.length≠2):wV (.tup xs)=false:=by
 unfold wV;split
 . rename_i e; cases e; exact absurd rfl h
 . rfl
def cD (ds:List D)(r:Sl):Prop:=∃x,ds=[x]/\r=.d (.bl (wV x))
def b9 (ds:List D)(r:Sl):Prop:=∃(t b:Int) (q:Rat),ds=[.int t,.int b]/\0<b/\Bd 8999 b/\(t:Rat)=q*(b:Rat)/\r=.d (frD q)
def iz (ds:List D)(r:Sl):Prop:=∃(t b:Int) (q:Rat),ds=[.int t,.int b]/\0<b/\Bd 8999 b/\(t:Rat)=q*(b:Rat)/\r=.d (frD q)
def gq (ds:List D)(r:Sl):Prop:=∃(t b:Int) (q:Rat),ds=[.int t,.int b]/\0<b/\Bd 8999 b/\(t:Rat)=q*(b:Rat)/\r=.d (frD q)
def jK (ds:List D)(r:Sl):Prop:=∃(m n:Nat) (p q:Rat),ds=[frD p,frD q]/\Sq m p/\Sq n q/\m+n<=8999/\r=.d (frD (p*q))
theorem qJ (p q:Rat):((p.num*q.num:Int):Rat)=p*q*(((p.den:Nat):Int)*((q.den:Nat):Int):Int):=by rw[GJ,GJ,<- fu p,<- fu q];grind
theorem og {a b:Int}(h:0<a)(g:0<b):0<a*b:=Jf h g
theorem Sq.mul {m n:Nat}{p q:Rat}(h:Sq m p)(g:Sq n q):Sq (m+n) (p*q):=Sq.cq (og (den_pos p) (den_pos q)) (qJ p q) (h.num.mul g.num) (h.den.mul g.den)
def ly (ds:List D)(r:Sl):Prop:=∃(m n:Nat) (p q:Rat),ds=[frD p,frD q]/\Sq m p/\Sq n q/\m+n<=8999/\r=.d (frD (p+q))
theorem xH (p q:Rat):((p.num*((q.den:Nat):Int)+q.num*((p.den:Nat):Int):Int):Rat)=(p+q)*(((p.den:Nat):Int)*((q.den:Nat):Int):Int):=by rw[Jy,GJ,GJ,GJ,<- fu p,<- fu q];grind
section
variable {P:Program}{w:World}{K:gV}{mg:Str->Option Value}{base:Heap}{k:Nat}{f:Addr}{fd:FuncData}{qual:Str}
theorem qv (F:Fun K "is_whole" qual (top 11) f fd)(hb:∀x∈ah,mg x=none):aH P w K mg base CX0 (k+1) f fd ["thing"] (spD K cS):=by refine fnD F qd hb (by rintro _ _ ⟨_,rfl,_⟩; rfl) ?_;rintro _ _ ⟨x,rfl,rfl⟩ cdv A outer s H E b;exact aL (fQ (cE .int b (aa 0)) λh=>(gC (Bj (cE .bool b (aa 0))))) rfl
theorem tF (F:Fun K "_law_whole" qual (top 64) f fd)(hb:∀x∈ah,mg x=none):aH P w K mg base CX0 (k+1) f fd ["_law_thing"] (spD K eK):=by refine fnD F tN hb (by rintro _ _ ⟨_,rfl,_⟩; rfl) ?_;rintro _ _ ⟨x,rfl,rfl⟩ cdv A outer s H E b;exact aL (fQ (cE .int b (aa 0)) λh=>(gC (Bj (cE .bool b (aa 0))))) rfl
theorem mJ (F:Fun K "is_between" qual (top 12) f fd)(hb:∀x∈ah,mg x=none)(c_is_whole:Cal P w K mg base k "is_whole" cS):aH P w K mg base CX0 (k+1) f fd ["thing","least","most"] (spD K cj):=by refine fnD F mM hb (by rintro _ _ ⟨_,_,_,rfl,_⟩; rfl) ?_;rintro _ _ ⟨i,l,m,rfl,rfl⟩ cdv A outer s H E b;exact aL (fQ (x_call b c_is_whole (ab (aa 0) af) ⟨_,rfl,rfl⟩) λh=>(gC (jd (aa 1) (aa 0) (aa 2) oH oH).1)) rfl
theorem iO (F:Fun K "common_divisor" qual (top 14) f fd)(hb:∀x∈ah,mg x=none):aH P w K mg base CX0 (k+1) f fd ["one","other"] (spD K aW):=by
 refine fnD F dj hb (by rintro _ _ ⟨_,_,rfl,_⟩; rfl) ?_;rintro _ _ ⟨x,y,rfl,rfl⟩ cdv A outer s H E b;have nd:=dj.nd;refine aA 2 nd (bq b (ab (aa 0) af) rN) (aA 3 nd (bq b (ab (aa 1) af) rN) ?_);rw[iR,iR];refine vy (λn t τ=>∃(g:Nat) (s4:Sl),Nat.gcd g n=GG x y/\t=(!decide ((n:Int)=0))/\τ=[.d (.int x),.d (.int y),.d (.int g),.d (.int n),s4]) b ⟨_,_,_,_,rfl,rfl,rfl⟩ (λn t τ h=>?_) (λn τ h=>?_) λn τ h=>?_
 . obtain⟨g,s4,_,rfl,rfl⟩:=h;exact aX (aa 3) ae oR
 . obtain⟨g,s4,hg,ht,rfl⟩:=h;have hl:n≠0:=λz=>by simp[z]at ht
   have e:(g:Int).fmod n=((g%n:Nat):Int):=by rw[HY _ (by omega)]; rfl
   refine aA 4 nd (aB (aa 2) (aa 3) (bP (by omega))) ?_;rw[e];refine aA 2 nd (aa 3) (aA 3 nd (aa 4) (aK ⟨g%n,_,Nat.mod_lt g (Nat.pos_of_ne_zero hl),n,_,?_,rfl,rfl⟩));rw[<- hg,Kl n,<- Nat.gcd_rec,Kl]
 . obtain⟨g,s4,hg,ht,rfl⟩:=h;have hl:n=0:=by simpa using ht
   refine aL (aa 2) ?_;rw[<- hg,hl,Nat.gcd_zero_right]
theorem oI (F:Fun K "_law_divisor" qual (top 62) f fd)(hb:∀x∈ah,mg x=none):aH P w K mg base CX0 (k+1) f fd ["_law_one_here","_law_other"] (spD K cF):=by
 refine fnD F iZ hb (by rintro _ _ ⟨_,_,rfl,_⟩; rfl) ?_;rintro _ _ ⟨x,y,rfl,rfl⟩ cdv A outer s H E b;have nd:=iZ.nd;refine aA 0 nd (bq b (ab (aa 0) af) rN) (aA 1 nd (bq b (ab (aa 1) af) rN) ?_);rw[iR,iR];refine vy (λn t τ=>∃(g:Nat) (s2:Sl),Nat.gcd g n=GG x y/\t=(decide ((0:Int)<n))/\τ=[.d (.int g),.d (.int n),s2]) b ⟨_,_,_,_,rfl,rfl,rfl⟩ (λn t τ h=>?_) (λn τ h=>?_) λn τ h=>?_
 . obtain⟨g,s2,_,rfl,rfl⟩:=h;exact aX (aa 1) ae qQ
 . obtain⟨g,s2,hg,ht,rfl⟩:=h;have hl:n≠0:=λz=>by simp[z]at ht
   have e:(g:Int).fmod n=((g%n:Nat):Int):=by rw[HY _ (by omega)]; rfl
   refine aA 2 nd (aB (aa 0) (aa 1) (bP (by omega))) ?_;rw[e];refine aA 0 nd (aa 1) (aA 1 nd (aa 2) (aK ⟨g%n,_,Nat.mod_lt g (Nat.pos_of_ne_zero hl),n,_,?_,rfl,rfl⟩));rw[<- hg,Kl n,<- Nat.gcd_rec,Kl]
 . obtain⟨g,s2,hg,ht,rfl⟩:=h;have hl:n=0:=by have:=of_decide_eq_false ht.symm; omega
   refine aL (aa 0) ?_;rw[<- hg,hl,Nat.gcd_zero_right]
theorem lB (F:Fun K "is_fraction" qual (top 13) f fd)(hb:∀x∈ah,mg x=none)(c_is_whole:Cal P w K mg base k "is_whole" cS)(c_common_divisor:Cal P w K mg base k "common_divisor" aW):aH P w K mg base CX0 (k+1) f fd ["thing"] (spD K cD):=by
 refine fnD F lI hb (by rintro _ _ ⟨_,rfl,_⟩; rfl) ?_;rintro _ _ ⟨x,rfl,rfl⟩ cdv A outer s H E b;by_cases ht:mr .tuple x=true
 . obtain⟨xs,rfl⟩:∃xs,x=.tup xs:=by cases x <;> first | exact⟨_,rfl⟩ | cases ht
   refine hJ (PW.pt (cn (a5 (a6 (cE .tuple b (aa 0)))) λh=>(cg (aX (bq b (ab (aa 0) af) fA) ae oR)))) (λh=>?_) λh=>?_
   . refine aL Di ?_;have h:(!decide ((xs.length:Int)=2))=true:=h;have:xs.length≠2:=λz=>by rw[z]at h; cases h
     rw[w8 this]
   . have h:(!decide ((xs.length:Int)=2))=false:=h;have h2:xs.length=2:=by simp at h; omega
     obtain⟨u,v,rfl⟩:∃u v,xs=[u,v]:=by
       match xs,h2 with
       | [u,v],_=>exact⟨u,v,rfl⟩
     refine hJ (PW.pt (cn (a5 (a6 (x_call b c_is_whole (ab (av (aa 0) ae (aq (ai (i:=0) rfl))) af) ⟨_,rfl,rfl⟩))) λh=>(cg (a5 (a6 (x_call b c_is_whole (ab (av (aa 0) ae (aq (ai (i:=1) rfl))) af) ⟨_,rfl,rfl⟩)))))) (λh=>?_) λh=>?_
     . refine aL Di ?_;have:wV (.tup [u,v])=false:=by cases u <;> cases v <;> first | rfl | cases h
       rw[this]
     . obtain⟨i,j,rfl,rfl⟩:∃i j,u=.int i/\v=.int j:=by cases u <;> cases v <;> first | exact⟨_,_,rfl,rfl⟩ | cases h
       exact aL (fQ (cc (av (aa 0) ae (aq (ai (i:=1) rfl))) ae yq) λh=>(gC (cc (x_call b c_common_divisor (ab (av (aa 0) ae (aq (ai (i:=0) rfl))) (ab (av (aa 0) ae (aq (ai (i:=1) rfl))) af)) ⟨_,_,rfl,rfl⟩) ae gN))) rfl
 . have e:mr .tuple x=false:=by simpa using ht
   have ef:wV x=false:=by cases x <;> first | rfl | cases e
   refine hJ (PW.pt (cn (q:=true) (a5 (a6 (cE .tuple b (aa 0)))) λh=>(by rw[e]at h; cases h))) (λh=>?_) λh=>?_
   . refine aL Di ?_;rw[ef]
   . rw[KY]at h; cases h
theorem iA (F:Fun K "in_lowest_terms" qual (top 16) f fd)(hb:∀x∈ah,mg x=none)(c_common_divisor:Cal P w K mg base k "common_divisor" aW):aH P w K mg base CX0 (k+1) f fd ["top","bottom"] (spD K b9):=by refine fnD F de hb (by rintro _ _ ⟨_,_,_,rfl,_⟩; rfl) ?_;rintro _ _ ⟨t,c,q,rfl,h0,h1,hq,rfl⟩ cdv A outer s H E b;have nd:=de.nd;refine aA 2 nd (x_call b c_common_divisor (ab (aa 0) (ab (aa 1) af)) ⟨_,_,rfl,rfl⟩) ?_;have dv:aE (GG t c:Int):=(h1.gcd (by omega)).aE (jC (by omega)) (by decide);obtain⟨e1,e2⟩:=cq h0 hq;refine bE (aX (aa 1) ae wj) (decide_eq_false (by omega)) (aL (bz (ab (aB (aa 0) (aa 2) (bg dv)) (ab (aB (aa 1) (aa 2) (bg dv)) af))) ?_);rw[cU,cU,<- e1,<- e2];rfl
theorem qB (F:Fun K "fraction" qual (top 17) f fd)(hb:∀x∈ah,mg x=none)(c_in_lowest_terms:Cal P w K mg base k "in_lowest_terms" b9)(c_is_whole:Cal P w K mg base k "is_whole" cS):aH P w K mg base CX0 (k+1) f fd ["top","bottom"] (spD K iz):=by refine fnD F q0 hb (by rintro _ _ ⟨_,_,_,rfl,_⟩; rfl) ?_;rintro _ _ ⟨t,c,q,rfl,h0,h1,hq,rfl⟩ cdv A outer s H E b;refine bE (PW.pt (cn (a5 (a6 (x_call b c_is_whole (ab (aa 0) af) ⟨_,rfl,rfl⟩))) λh=>(cg (a5 (a6 (x_call b c_is_whole (ab (aa 1) af) ⟨_,rfl,rfl⟩)))))) rfl ?_;refine bE (aX (aa 1) ae gN) (decide_eq_false (by omega)) ?_;exact aL (x_call b c_in_lowest_terms (ab (aa 0) (ab (aa 1) af)) ⟨t,c,q,rfl,h0,h1,hq,rfl⟩) rfl
theorem vU (F:Fun K "_law_made" qual (top 63) f fd)(hb:∀x∈ah,mg x=none)(c_l_divisor:Cal P w K mg base k "_law_divisor" cF):aH P w K mg base CX0 (k+1) f fd ["_law_top","_law_bottom"] (spD K gq):=by refine fnD F nq hb (by rintro _ _ ⟨_,_,_,rfl,_⟩; rfl) ?_;rintro _ _ ⟨t,c,q,rfl,h0,h1,hq,rfl⟩ cdv A outer s H E b;have nd:=nq.nd;have dv:aE (GG t c:Int):=(h1.gcd (by omega)).aE (jC (by omega)) (by decide);obtain⟨e1,e2⟩:=cq h0 hq;refine aA 2 nd (x_call b c_l_divisor (ab (aa 0) (ab (aa 1) af)) ⟨_,_,rfl,rfl⟩) (aL (bz (ab (aB (aa 0) (aa 2) (bg dv)) (ab (aB (aa 1) (aa 2) (bg dv)) af))) ?_);rw[cU,cU,<- e1,<- e2];rfl
theorem sP (F:Fun K "_law_times" qual (top 71) f fd)(hb:∀x∈ah,mg x=none)(c_l_made:Cal P w K mg base k "_law_made" gq):aH P w K mg base CX0 (k+1) f fd ["_law_one_here","_law_other"] (spD K jK):=by refine fnD F sr hb (by rintro _ _ ⟨_,_,_,_,rfl,_⟩; rfl) ?_;rintro _ _ ⟨m,n,p,q,rfl,h1,h2,hl,rfl⟩ cdv A outer s H E b;exact aL (x_call b c_l_made (ab (aB (av (aa 0) ae (aq (ai (i:=0) rfl))) (av (aa 1) ae (aq (ai (i:=0) rfl))) (bf (h1.num.aJ h2.num (by omega) (by omega)))) (ab (aB (av (aa 0) ae (aq (ai (i:=1) rfl))) (av (aa 1) ae (aq (ai (i:=1) rfl))) (bf (h1.den.aJ h2.den (by omega) (by omega)))) af)) ⟨_,_,_,rfl,og (den_pos p) (den_pos q),(h1.den.mul h2.den).mono hl,qJ p q,rfl⟩) rfl
theorem wI (F:Fun K "_law_plus" qual (top 70) f fd)(hb:∀x∈ah,mg x=none)(c_l_made:Cal P w K mg base k "_law_made" gq):aH P w K mg base CX0 (k+1) f fd ["_law_one_here","_law_other"] (spD K ly):=by refine fnD F wG hb (by rintro _ _ ⟨_,_,_,_,rfl,_⟩; rfl) ?_;rintro _ _ ⟨m,n,p,q,rfl,h1,h2,hl,rfl⟩ cdv A outer s H E b;exact aL (x_call b c_l_made (ab (aB (aB (av (aa 0) ae (aq (ai (i:=0) rfl))) (av (aa 1) ae (aq (ai (i:=1) rfl))) (bf (h1.num.aJ h2.den (by omega) (by omega)))) (aB (av (aa 1) ae (aq (ai (i:=0) rfl))) (av (aa 0) ae (aq (ai (i:=1) rfl))) (bf (h2.num.aJ h1.den (by omega) (by omega)))) bp) (ab (aB (av (aa 0) ae (aq (ai (i:=1) rfl))) (av (aa 1) ae (aq (ai (i:=1) rfl))) (bf (h1.den.aJ h2.den (by omega) (by omega)))) af)) ⟨_,_,_,rfl,og (den_pos p) (den_pos q),(h1.den.mul h2.den).mono hl,xH p q,rfl⟩) rfl
end
def dk (ds:List D)(r:Sl):Prop:=∃q:Rat,ds=[frD q]/\0<=q.num/\r=.d (.bl true)
noncomputable abbrev Stp:=Str×Nat×Rat
noncomputable def stD (s:Stp):D:=.tup [.str s.1,.int (s.2.1:Nat),frD s.2.2]
def okS (T:Nat)(s:Stp):Prop:=0<=s.2.2.num/\((s.1 = "weigh" /\ s.2.1<T)\/((s.1 = "down" \/ s.1 = "up")/\s.2.1+1<T))
def gD (ds:List D)(r:Sl):Prop:=∃(T:Nat) (s:Stp),ds=[stD s,.int T]/\okS T s/\r=.d (.bl true)
noncomputable def aI (T R C:Nat)(ss:List Stp):D:=.tup [.int T,.int R,.int C,.lst (ss.map stD)]
structure okL (T R C:Nat)(ss:List Stp):Prop where
 t1:1<=T
 t7:T<=7
 r1:1<=R
 rT:R<=T
 c1:1<=C
 cT:C<=T
 len:ss.length<=400
 st:∀i,i<ss.length->okS T (ss.getD i ("weigh",0,0))
theorem Cg {ss:List Stp}(i:Nat)(h:i<(ss.map stD).length):(ss.map stD)[i]=stD (ss.getD i ("weigh",0,0)):=by
 have:i<ss.length:=by simpa using h
 simp[this]
def gm (ds:List D)(r:Sl):Prop:=∃(T R C:Nat) (ss:List Stp),ds=[aI T R C ss]/\okL T R C ss/\r=.d (.bl true)
def bQ (ds:List D)(r:Sl):Prop:=∃(T R C:Nat) (ss:List Stp),ds=[aI T R C ss]/\okL T R C ss/\r=.d .non
noncomputable def rgS (s:Stp):Nat:=if s.1 = "down" then s.2.1 else s.2.1+1
def ft (ds:List D)(r:Sl):Prop:=∃s:Stp,ds=[stD s]/\r=.d (.int (rgS s:Nat))
noncomputable def rgE (s:Stp):Nat:=if s.1 = "down" then s.2.1+1 else s.2.1
def il (ds:List D)(r:Sl):Prop:=∃s:Stp,ds=[stD s]/\r=.d (.int (rgE s:Nat))
section
variable {P:Program}{w:World}{K:gV}{mg:Str->Option Value}{base:Heap}{k:Nat}{f:Addr}{fd:FuncData}{qual:Str}
theorem nZ (F:Fun K "is_weight" qual (top 38) f fd)(hb:∀x∈ah,mg x=none)(c_is_fraction:Cal P w K mg base k "is_fraction" cD):aH P w K mg base CX0 (k+1) f fd ["thing"] (spD K dk):=by refine fnD F oP hb (by rintro _ _ ⟨_,rfl,_⟩; rfl) ?_;rintro _ _ ⟨q,rfl,h0,rfl⟩ cdv A outer s H E b;refine aL (fQ (x_call b c_is_fraction (ab (aa 0) af) ⟨_,rfl,rfl⟩) λh=>(gC (cc (av (aa 0) ae (aq (ai (i:=0) rfl))) ae yq))) ?_;rw[uL,decide_eq_true h0];rfl
theorem tm (F:Fun K "is_step" qual (top 39) f fd)(hb:∀x∈ah,mg x=none)(c_is_between:Cal P w K mg base k "is_between" cj)(c_is_weight:Cal P w K mg base k "is_weight" dk):aH P w K mg base CX0 (k+1) f fd ["thing","tracks"] (spD K gD):=by
 refine fnD F tT hb (by rintro _ _ ⟨_,_,rfl,_⟩; rfl) ?_;rintro _ _ ⟨T,⟨u,n,q⟩,rfl,⟨h0,h1⟩,rfl⟩ cdv A outer s H E b;refine bE (PW.pt (cn (a5 (a6 (cE .tuple b (aa 0)))) λh=>(cn (aX (bq b (ab (aa 0) af) fA) ae oR) λh=>(cg (a5 (a6 (x_call b c_is_weight (ab (av (aa 0) ae (aq (ai (i:=2) rfl))) af) ⟨q,rfl,h0,rfl⟩))))))) rfl ?_;refine hJ (aX (av (aa 0) ae (aq (ai (i:=0) rfl))) b5 nV) (λh=>?_) λh=>?_
 . refine aL (x_call b c_is_between (ab (av (aa 0) ae (aq (ai (i:=1) rfl))) (ab ae (ab (aB (aa 1) ae hU) af))) ⟨_,_,_,rfl,rfl⟩) ?_;have e:=of_decide_eq_true h
   have hn:n<T:=by
     rcases h1 with h1 | h1
     . exact h1.2
     . have:=h1.2; simp only at this; omega
   rw[decide_eq_true (show (0:Int)<=n by omega),decide_eq_true (show (n:Int)<=(T:Int)-1 by omega)];rfl
 . have e:=of_decide_eq_false h
   obtain⟨e1,e2⟩:(u = "down" \/ u = "up")/\n+1<T:=by
     rcases h1 with h1 | h1
     . exact absurd h1.1 e
     . exact h1
   refine aL (fQ (cc (av (aa 0) ae (aq (ai (i:=0) rfl))) (bz (ab b5 (ab b5 af))) (EV (us:=["down","up"]))) λh=>(gC (x_call b c_is_between (ab (av (aa 0) ae (aq (ai (i:=1) rfl))) (ab ae (ab (aB (aa 1) ae hU) af))) ⟨_,_,_,rfl,rfl⟩))) ?_;rw[decide_eq_true (show (0:Int)<=n by omega),decide_eq_true (show (n:Int)<=(T:Int)-2 by omega)];have:(([("down" : Str),"up"]:List Str).any λw=>decide (w=u))=true:=by clear h e h1 h0;rcases e1 with rfl | rfl <;> decide +kernel
   show Sl.d (.bl ((([("down" : Str),"up"]:List Str).any λw=>decide (w=u))&&_))=_;rw[this];rfl
theorem nX (F:Fun K "is_ladder" qual (top 40) f fd)(hb:∀x∈ah,mg x=none)(y_MOST:∃t,mg "MOST" = some (.int 7 t))(y_MOST_STEPS:∃t,mg "MOST_STEPS" = some (.int 400 t))(c_is_between:Cal P w K mg base k "is_between" cj)(c_is_step:Cal P w K mg base k "is_step" gD):aH P w K mg base CX0 (k+1) f fd ["thing"] (spD K gm):=by
 refine fnD F oZ hb (by rintro _ _ ⟨_,_,_,_,rfl,_⟩; rfl) ?_;rintro _ _ ⟨T,R,C,ss,rfl,h,rfl⟩ cdv A outer s H E b;have ht:decide ((1:Int)<=T)=true/\decide ((T:Int)<=7)=true:=⟨decide_eq_true (by have:=h.t1; omega),decide_eq_true (by have:=h.t7; omega)⟩;have hr:decide ((1:Int)<=R)=true/\decide ((R:Int)<=T)=true:=⟨decide_eq_true (by have:=h.r1; omega),decide_eq_true (by have:=h.rT; omega)⟩;have hc:decide ((1:Int)<=C)=true/\decide ((C:Int)<=T)=true:=⟨decide_eq_true (by have:=h.c1; omega),decide_eq_true (by have:=h.cT; omega)⟩;have hl:(ss.map stD).length=ss.length:=fw ..;have hlen:=h.len;refine bE (PW.pt (cn (a5 (a6 (cE .tuple b (aa 0)))) λh=>(cn (aX (bq b (ab (aa 0) af) fA) ae oR) λh=>(cg (a5 (a6 (x_call b c_is_between (ab (av (aa 0) ae (aq (ai (i:=0) rfl))) (ab ae (ab (jq y_MOST) af))) ⟨_,_,_,rfl,rfl⟩))))))) ?_ ?_
 . rw[ht.1,ht.2]; rfl
 refine bE (PW.pt (cn (a5 (a6 (x_call b c_is_between (ab (av (aa 0) ae (aq (ai (i:=1) rfl))) (ab ae (ab (av (aa 0) ae (aq (ai (i:=0) rfl))) af))) ⟨_,_,_,rfl,rfl⟩))) λh=>(cg (a5 (a6 (x_call b c_is_between (ab (av (aa 0) ae (aq (ai (i:=2) rfl))) (ab ae (ab (av (aa 0) ae (aq (ai (i:=0) rfl))) af))) ⟨_,_,_,rfl,rfl⟩)))))) ?_ ?_
 . rw[hr.1,hr.2,hc.1,hc.2]; rfl
 refine bE (PW.pt (cn (a5 (a6 (cE .list b (av (aa 0) ae (aq (ai (i:=3) rfl)))))) λh=>(cg (aX (bq b (ab (av (aa 0) ae (aq (ai (i:=3) rfl))) af) gf) (jq y_MOST_STEPS) qQ)))) ?_ ?_
 . rw[hl,decide_eq_false (show ¬(400:Int)<ss.length by omega)]; rfl
 refine aL (bq b (ab (a7 (cR (cmp 0 (f:=λ_=>.bl true) b (a9 (av (aa 0) ae (aq (ai (i:=3) rfl)))) Cg ?_ λi hi s0 H0 fp=>(x_call (b.comp s0 H0 _ fp) c_is_step (ab (aa 0) (ab (av (aa 1) ae (aq (ai (i:=0) rfl))) af)) ⟨T,_,rfl,h.st i (by omega),rfl⟩)))) af) (lD b.calm ((ox (ss.map stD).length).map λ_=>true) (by rw[GO]; rfl))) ?_
 . omega
 . have:((ox (ss.map stD).length).map λ_=>true).all id=true:=by rw[KW,Hb]; intro _ _; rfl
   rw[this]
theorem lO (F:Fun K "look_ladder" qual (top 41) f fd)(hb:∀x∈ah,mg x=none)(c_is_ladder:Cal P w K mg base k "is_ladder" gm):aH P w K mg base CX0 (k+1) f fd ["thing"] (spD K bQ):=by refine fnD F lL hb (by rintro _ _ ⟨_,_,_,_,rfl,_⟩; rfl) ?_;rintro _ _ ⟨T,R,C,ss,rfl,h,rfl⟩ cdv A outer s H E b;exact bE (a5 (a6 (x_call b c_is_ladder (ab (aa 0) af) ⟨T,R,C,ss,rfl,h,rfl⟩))) rfl (aK rfl)
theorem mO (F:Fun K "rung_start" qual (top 42) f fd)(hb:∀x∈ah,mg x=none):aH P w K mg base CX0 (k+1) f fd ["step"] (spD K ft):=by
 refine fnD F mB hb (by rintro _ _ ⟨_,rfl,_⟩; rfl) ?_;rintro _ _ ⟨⟨u,n,q⟩,rfl,rfl⟩ cdv A outer s H E b;refine aL (s:=.d (.int (rgS (u,n,q):Nat))) (qo (aX (av (aa 0) ae (aq (ai (i:=0) rfl))) b5 nV) (λh=>?_) λh=>?_) rfl
 . rw[show rgS (u,n,q)=n from if_pos (of_decide_eq_true h)];exact av (aa 0) ae (aq (ai (i:=1) rfl))
 . rw[show rgS (u,n,q)=n+1 from if_neg (of_decide_eq_false h)];exact aB (av (aa 0) ae (aq (ai (i:=1) rfl))) ae bp
theorem qN (F:Fun K "rung_end" qual (top 43) f fd)(hb:∀x∈ah,mg x=none):aH P w K mg base CX0 (k+1) f fd ["step"] (spD K il):=by
 refine fnD F rf hb (by rintro _ _ ⟨_,rfl,_⟩; rfl) ?_;rintro _ _ ⟨⟨u,n,q⟩,rfl,rfl⟩ cdv A outer s H E b;refine aL (s:=.d (.int (rgE (u,n,q):Nat))) (qo (aX (av (aa 0) ae (aq (ai (i:=0) rfl))) b5 nV) (λh=>?_) λh=>?_) rfl
 . rw[show rgE (u,n,q)=n+1 from if_pos (of_decide_eq_true h)];exact aB (av (aa 0) ae (aq (ai (i:=1) rfl))) ae bp
 . rw[show rgE (u,n,q)=n from if_neg (of_decide_eq_false h)];exact av (aa 0) ae (aq (ai (i:=1) rfl))
end
theorem eG {α:Type}(f:Nat->α){n i:Nat}(h:i<n)(d:α):((ox n).map f).getD i d=f i:=by simp[h]
theorem Bt {t u:List Rat}(i:Nat)(h:i<(fX (t.map frD) (u.map frD)).length):(fX (t.map frD) (u.map frD))[i]=.tup [frD (t.getD i 0),frD (u.getD i 0)]:=by rw[oB];rw[b7,fw,fw]at h;simp[show i<t.length by omega,show i<u.length by omega]
def iW (ds:List D)(r:Sl):Prop:=∃(ns:List Int) (k:Nat),ds=[.lst (ns.map .int),.int k]/\r=.d (.int (ns.getD k 0))
noncomputable def lY:Int->List Int->List Int
 | _,[]=>[]
 | c,b::r=>c.fmod b::lY (c.fdiv b) r
noncomputable def Af (c:Int)(bs:List Int):Int:=bs.foldl (λc b=>c.fdiv b) c
noncomputable def CS (c:Int)(k:Nat)(b:Int):Int:=(((((c*48271+(k:Int)*k*69621+(k:Int)*16807+11).fmod 2147483647)*40692+c+31*(k:Int)).fmod 2147483399).fdiv 7).fmod b
noncomputable def AM (c:Int)(bs:List Int):List Int:=(ox bs.length).map λk=>CS c k (bs.getD k 0)
noncomputable def nums (c:Int)(bs:List Int):List Int:=if (10:Int)^(18:Int).toNat<=Av c then lY c bs else AM c bs
theorem nF:∀(bs:List Int) (c b:Int),lY c (bs++[b])=lY c bs++[(Af c bs).fmod b]
 | [],_,_=>rfl
 | a::bs,c,b=>by rw[Hq,lY,lY,nF bs]; rfl
theorem kK:∀(bs:List Int) (c:Int),(lY c bs).length=bs.length
 | [],_=>rfl
 | _::bs,c=>congrArg (·+1) (kK bs _)
theorem fZ (c:Int)(bs:List Int):(nums c bs).length=bs.length:=by
 unfold nums;split
 . exact kK bs c
 . simp[AM]
theorem uH:∀(bs:List Int) (c:Int),(∀b∈bs,0<b)->∀(i:Nat),i<bs.length->0<=(lY c bs).getD i 0/\(lY c bs).getD i 0<bs.getD i 0
 | b::bs,c,h,0,_=>by have:=h b (rp ..);exact⟨J6 c this,KJ c this⟩
 | b::bs,c,h,i+1,hi=>by have:=uH bs (c.fdiv b) (λx hx=>h x (pq _ hx)) i (by simpa using hi);simpa[lY]using this
theorem oA {c:Int}{bs:List Int}(h:∀b∈bs,0<b){i:Nat}(hi:i<bs.length):0<=(nums c bs).getD i 0/\(nums c bs).getD i 0<bs.getD i 0:=by
 unfold nums;split
 . exact uH bs c h i hi
 . have hp:0<bs.getD i 0:=h _ (by simp[hi]);have e:(AM c bs).getD i 0=CS c i (bs.getD i 0):=by simp[AM,hi]
   rw[e];exact⟨J6 _ hp,KJ _ hp⟩
theorem take_snoc {α:Type}{xs:List α}{i:Nat}(d:α)(h:i<xs.length):xs.take (i+1)=xs.take i++[xs.getD i d]:=by rw[List.take_add_one,ph h];simp[h]
theorem rj {b:Int}(h0:0<b)(h:b<2^60):0<b/\aE b:=⟨h0,mkD (by omega) (by omega)⟩
def bL (ds:List D)(r:Sl):Prop:=∃(c:Int) (bs:List Int),ds=[.int c,.lst (bs.map .int)]/\bs.length<=10000/\(∀b∈bs,0<b/\aE b)/\r=.o ((nums c bs).map .int)
noncomputable def kh (t:List (List Rat)):D:=.lst (t.map λr=>.lst (r.map frD))
theorem E8 {t:List (List Rat)}(i:Nat)(h:i<(t.map λr=>D.lst (r.map frD)).length):(t.map λr=>D.lst (r.map frD))[i]=.lst ((t.getD i []).map frD):=by
 have:i<t.length:=by simpa using h
 simp[this]
theorem Fh {r:List Rat}{i:Int}(h0:0<=i)(h:i.toNat<r.length):atI (r.map frD) i=some (frD (r.getD i.toNat 0)):=by
 obtain⟨n,rfl⟩:=HJ h0
 exact ai (by
   have h:n<r.length:=h;simp[h])
theorem Ea {t:List (List Rat)}{i:Int}(h0:0<=i)(h:i.toNat<t.length):atI (t.map λr=>D.lst (r.map frD)) i=some (.lst ((t.getD i.toNat []).map frD)):=by
 obtain⟨n,rfl⟩:=HJ h0
 exact ai (by
   have h:n<t.length:=h;simp[h])
noncomputable def xj (t:List (List Rat))(j:Nat):List Rat:=(ox t.length).map λi=>(t.getD i []).getD j 0
def gd (ds:List D)(r:Sl):Prop:=∃(t:List (List Rat)) (j:Nat),ds=[kh t,.int j]/\t.length<=1000/\(∀i,i<t.length->j<(t.getD i []).length)/\r=.o ((xj t j).map frD)
noncomputable def uC (t:List (List Rat))(n:Nat):List (List Rat):=(ox n).map (xj t)
noncomputable def y8 (t:List (List Rat)):Nd:=.l (t.map λr=>.l ((r.map frD).map .d))
def fG (ds:List D)(r:Sl):Prop:=∃(t:List (List Rat)) (n:Nat),ds=[kh t]/\1<=t.length/\t.length<=1000/\n<=1000/\(∀i,i<t.length->(t.getD i []).length=n)/\r=.n (y8 (uC t n))
noncomputable def smD (s:List Int×Int):D:=.tup [.lst (s.1.map .int),.int s.2]
noncomputable def l5 (k R:Nat):List Int×Int:=((ox R).map λi=>if i=k then 1 else 0,1)
def ff (ds:List D)(r:Sl):Prop:=∃k R:Nat,ds=[.int k,.int R]/\R<=7/\r=.d (smD (l5 k R))
noncomputable def dU (n:Int)(ns:List Int):Int:=ns.foldl (λf o=>(GG o f:Int)) n
def bM (ds:List D)(r:Sl):Prop:=∃(n:Int) (ns:List Int),ds=[.int n,.lst (ns.map .int)]/\r=.d (.int (dU n ns))
structure EU (s:List Int×Int)(v:List Rat):Prop where
 len:s.1.length=v.length
 pos:0<s.2
 val:∀i,i<v.length->((s.1.getD i 0:Int):Rat)=v.getD i 0*(s.2:Rat)
def gx (ds:List D)(r:Sl):Prop:=∃(s:List Int×Int) (v:List Rat),ds=[smD s]/\EU s v/\v.length<=1000/\Bd 8999 s.2/\r=.o (v.map frD)
section
variable {P:Program}{w:World}{K:gV}{mg:Str->Option Value}{base:Heap}{k:Nat}{f:Addr}{fd:FuncData}{qual:Str}
theorem wa (F:Fun K "_law_cell" qual (top 60) f fd)(hb:∀x∈ah,mg x=none):aH P w K mg base CX0 (k+1) f fd ["_law_script","_law_k"] (spD K iW):=by
 refine fnD F vN hb (by rintro _ _ ⟨_,_,rfl,_⟩; rfl) ?_;rintro _ _ ⟨ns,n,rfl,rfl⟩ cdv A outer s H E b;refine hJ (aX (aa 1) (bq b (ab (aa 0) af) gf) wj) (λh=>?_) λh=>?_
 . have h:=of_decide_eq_true h;rw[fw]at h;exact aL (av (aa 0) (aa 1) (aV (bB (by omega) (by omega)))) rfl
 . have h:=of_decide_eq_false h;rw[fw]at h;refine aL ae ?_;show Sl.d (.int 0)=_;rw[getD_none (by omega)]
theorem pf (F:Fun K "_law_numbers" qual (top 61) f fd)(hb:∀x∈ah,mg x=none):aH P w K mg base CX0 (k+1) f fd ["_law_cell_here","_law_bases"] (spD K bL):=by
 refine fnD F iL hb (by rintro _ _ ⟨_,_,rfl,_⟩; rfl) ?_;rintro _ _ ⟨c,bs,rfl,hl,hbs,rfl⟩ cdv A outer s H E b;have nd:=iL.nd;have hp:∀i,i<bs.length->0<bs.getD i 0/\aE (bs.getD i 0):=λi hi=>hbs _ (by simp[hi]);refine aA 2 nd (bY af) ?_;refine hJ (aX (bq b (ab (aa 0) af) rN) (aB ae ae (xu ⟨by decide,by decide,by decide⟩)) yq) (λh=>?_) λh=>?_
 . refine bK 3 (λi τ=>∃s3,τ=[.d (.int (Af c (bs.take i))),.d (.lst (bs.map .int)),.o ((lY c (bs.take i)).map .int),s3,.un,.un]) b nd (a9 (aa 1)) qL ⟨_,rfl⟩ (λi hi τ h=>?_) λτ h=>?_
   . obtain⟨s3,rfl⟩:=h;have hi:i<bs.length:=by simpa using hi
     obtain⟨p1,p2⟩:=hp i hi;refine qx 2 (aB (aa 0) (aa 3) (bP (by omega))) ?_ ?_
     . rw[fw,kK,GZ]; omega
     refine aA 0 nd (aB (aa 0) (aa 3) (bg p2)) (aK ?_);apply ex1;show [Sl.d (.int ((Af c (bs.take i)).fdiv (bs.getD i 0))),_,Sl.o _,_,_,_]=_;rw[take_snoc 0 hi,nF,GN];unfold Af;rw[Hm];rfl
   . obtain⟨s3,rfl⟩:=h;refine zz 2 ?_;rw[fw,Gx (ia _)];unfold nums;rw[if_pos (of_decide_eq_true h)]
 . refine DX 4 3 (λi τ=>∃s3 s4 s5,τ=[.d (.int c),.d (.lst (bs.map .int)),.o (((ox i).map λk=>CS c k (bs.getD k 0)).map .int),s3,s4,s5]) b nd (FA b (aa 1)) Ep ⟨_,_,_,rfl⟩ (λi hi τ h=>?_) λτ h=>?_
   . obtain⟨s3,s4,s5,rfl⟩:=h;have hi:i<bs.length:=by rw[iX,fw]at hi; exact hi
     obtain⟨p1,p2⟩:=hp i hi;refine aA 5 nd (aB (aB (aB (aB (aB (aa 0) ae (bf (mkR (by decide)))) (aB (aB (aa 4) (aa 4) (bf (mkL (by omega)))) ae (bf (mkR (by decide)))) bp) (aB (aa 4) ae (bf (mkR (by decide)))) bp) ae bp) ae (bP (by decide))) ?_;refine qx 2 (aB (aB (aB (aB (aB (aB (aa 5) ae (bf (mkR (by decide)))) (aa 0) bp) (aB ae (aa 4) (bf (mkL (by decide)))) bp) ae (bP (by decide))) ae (bg (mkD (by decide) (by decide)))) (aa 3) (bP (by omega))) ?_ (aK ?_)
     . rw[fw,fw,Hd]; omega
     apply ex3;rw[HD,GN,GN];rfl
   . obtain⟨s3,s4,s5,rfl⟩:=h;refine zz 2 ?_;rw[iX,fw];unfold nums;rw[if_neg (of_decide_eq_false h)];rfl
theorem oT (F:Fun K "column_of" qual (top 26) f fd)(hb:∀x∈ah,mg x=none):aH P w K mg base CX0 (k+1) f fd ["table","j"] (spD K gd):=by refine fnD F px hb (by rintro _ _ ⟨_,_,rfl,_⟩; rfl) ?_;rintro _ _ ⟨t,j,rfl,hl,hj,rfl⟩ cdv A outer s H E b;refine aL (cR (cmp 0 (f:=λi=>frD ((t.getD i []).getD j 0)) b (a9 (aa 0)) E8 (by rw[fw]; omega) λi hi s0 H0 fp=>(av (aa 0) (aa 1) (aV (Fh (r:=t.getD i []) (i:=(j:Int)) (by omega) (hj i (by rw[fw]at hi; exact hi))))))) ?_;rw[fw];unfold xj;rw[GO];rfl
theorem mv (F:Fun K "columns_of" qual (top 25) f fd)(hb:∀x∈ah,mg x=none)(c_column_of:Cal P w K mg base k "column_of" gd):aH P w K mg base CX0 (k+1) f fd ["table"] (spD K fG):=by
 refine fnD F my hb (by rintro _ _ ⟨_,_,rfl,_⟩; rfl) ?_;rintro _ _ ⟨t,n,rfl,h1,hl,hn,hj,rfl⟩ cdv A outer s H E b;have e0:((t.getD 0 []).map frD).length=n:=by rw[fw]; exact hj 0 h1
 refine aL (En (Gg 0 (f:=λj=>.l (((xj t j).map frD).map .d)) b (fK b (bq b (ab (av (aa 0) ae (aV (Ea (i:=0) (by omega) (by omega)))) af) gf) ?_ ?_) fL ?_ (λj hjn s0 H0 fp=>(x_call (b.comp s0 H0 _ fp) c_column_of (ab (aa 1) (ab (aa 0) af)) ⟨t,j,rfl,hl,λi hi=>?_,rfl⟩)) λj _=>rfl)) ?_
 . omega
 . simp only[Kr,e0]; omega
 . rw[aN]; simp only[Kr,e0,GC]; omega
 . rw[aN]at hjn; simp only[Kr,e0,GC]at hjn; rw[hj i hi]; exact hjn
 . rw[aN];simp only[Kr,e0,GC];unfold y8 uC;rw[GO];rfl
theorem mq (F:Fun K "first_sums" qual (top 46) f fd)(hb:∀x∈ah,mg x=none):aH P w K mg base CX0 (k+1) f fd ["track","rows"] (spD K ff):=by
 refine fnD F mN hb (by rintro _ _ ⟨_,_,rfl,_⟩; rfl) ?_;rintro _ _ ⟨n,R,rfl,hR,rfl⟩ cdv A outer s H E b;refine aL (bz (ab (a7 (cR (cmp 0 (f:=λi=>.int (if i=n then 1 else 0)) b (fK b (aa 1) (by omega) (by omega)) fL (by rw[aN]; omega) λi hi s0 H0 fp=>(qo (aX (aa 0) (aa 1) gN) (λh=>?_) λh=>?_)))) (ab ae af))) ?_
 . have h:=of_decide_eq_true h;rw[if_pos (by omega)];exact ae
 . have h:=of_decide_eq_false h;rw[if_neg (by omega)];exact ae
 . rw[aN,GC];unfold smD l5;rw[GO];rfl
theorem i6 (F:Fun K "shared_divisor" qual (top 15) f fd)(hb:∀x∈ah,mg x=none)(c_common_divisor:Cal P w K mg base k "common_divisor" aW):aH P w K mg base CX0 (k+1) f fd ["number","others"] (spD K bM):=by
 refine fnD F dF hb (by rintro _ _ ⟨_,_,rfl,_⟩; rfl) ?_;rintro _ _ ⟨n,ns,rfl,rfl⟩ cdv A outer s H E b;have nd:=dF.nd;refine aA 2 nd (aa 0) ?_;refine bK 3 (λi τ=>∃s3,τ=[.d (.int n),.d (.lst (ns.map .int)),.d (.int (dU n (ns.take i))),s3]) b nd (a9 (aa 1)) qL ⟨_,rfl⟩ (λi hi τ h=>?_) λτ h=>?_
 . obtain⟨s3,rfl⟩:=h;rw[fw]at hi;refine aA 2 nd (x_call b c_common_divisor (ab (aa 3) (ab (aa 2) af)) ⟨_,_,rfl,rfl⟩) (aK ?_);apply ex1;rw[take_snoc 0 hi];unfold dU;rw[Hm];rfl
 . obtain⟨s3,rfl⟩:=h;refine aL (aa 2) ?_;rw[fw,Gx (ia _)]
theorem pJ (F:Fun K "told_sums" qual (top 47) f fd)(hb:∀x∈ah,mg x=none)(c_fraction:Cal P w K mg base k "fraction" iz):aH P w K mg base CX0 (k+1) f fd ["sums"] (spD K gx):=by
 refine fnD F oF hb (by rintro _ _ ⟨_,_,rfl,_⟩; rfl) ?_;rintro _ _ ⟨⟨ns,d⟩,v,rfl,h,hl,hd,rfl⟩ cdv A outer s H E b;have hlen:ns.length=v.length:=h.len;refine aL (cR (cmp 0 (f:=λi=>frD (v.getD i 0)) b (a9 (av (aa 0) ae (aq (ai (i:=0) rfl)))) qL (by simp only[fw]; omega) λi hi s0 H0 fp=>(x_call (b.comp s0 H0 _ fp) c_fraction (ab (aa 0) (ab (av (aa 1) ae (aq (ai (i:=1) rfl))) af)) ⟨_,d,v.getD i 0,rfl,h.pos,hd,h.val i (by simp only[fw]at hi; omega),rfl⟩))) ?_;rw[fw,hlen];congr 1;refine Jp (by simp) λi h1 h2=>?_;have:i<v.length:=by simpa using h2
 simp[this]
end
theorem gh:∀(ns:List Int) (n:Int),dU n ns∣n/\∀x∈ns,dU n ns∣x
 | [],n=>⟨Int.dvd_refl n,λ_ z=>nomatch z⟩
 | y::ns,n=>by
   obtain⟨h1,h2⟩:=gh ns (GG y n:Int);refine⟨Jt h1 (HR ..),λx hx=>?_⟩;rcases xb.mp hx with rfl | hx
   . exact Jt h1 (IJ ..)
   . exact h2 x hx
theorem qU {i j:Int}(h:0<j):0<(GG i j:Int):=by have:=jC (i:=i) (j:=j) (by omega);omega
theorem gB:∀(ns:List Int) (n:Int),0<n->0<dU n ns
 | [],_,h=>h
 | y::ns,n,h=>gB ns (GG y n:Int) (qU h)
structure Sm (R:Nat)(P:Int)(s:List Int×Int)(v:Nat->Rat):Prop where
 len:s.1.length=R
 pos:0<s.2
 dvd:s.2∣P
 val:∀i,i<R->((s.1.getD i 0:Int):Rat)=v i*(s.2:Rat)
theorem Sm.up {R:Nat}{P:Int}{s:List Int×Int}{v:Nat->Rat}(h:Sm R P s v)(c:Int):Sm R (P*c) s v:=⟨h.len,h.pos,Int.dvd_mul_of_dvd_left h.dvd,h.val⟩
noncomputable def wsm (s:List Int×Int)(q:Rat):List Int×Int:=(s.1.map λx=>x/dU (q.den:Nat) s.1*(q.num/(GG q.num s.2:Int)),s.2/(GG q.num s.2:Int)*(((q.den:Nat):Int)/dU (q.den:Nat) s.1))
theorem getD_map {f:Int->Int}{xs:List Int}{i:Nat}(h:i<xs.length):(xs.map f).getD i 0=f (xs.getD i 0):=by simp[h]
theorem getD_mem {xs:List Int}{i:Nat}(h:i<xs.length):xs.getD i 0∈xs:=by simp[h]
theorem E1 {a b c:Rat}(hc:c≠0)(h:a*c=b*c):a=b:=by
 have:(a-b)*c=0:=by grind
 rcases Rat.mul_eq_zero.mp this with z | z
 . grind
 . exact absurd z hc
theorem wK {a b:Int}(h:0<a*b)(ha:0<a):0<b:=by
 rcases Int.lt_or_le 0 b with z | z
 . exact z
 . have:=Int.mul_le_mul_of_nonneg_left z (Int.le_of_lt ha);rw[Int.mul_zero]at this;omega
theorem quo {a b:Int}(h0:0<a)(h:a∣b):∃c,b=a*c/\b/a=c:=by obtain⟨c,rfl⟩:=h;exact⟨c,rfl,LG _ (by omega)⟩
theorem lX {R:Nat}{P:Int}{s:List Int×Int}{v:Nat->Rat}{q:Rat}(h:Sm R P s v):Sm R (P*((q.den:Nat):Int)) (wsm s q) λi=>q*v i:=by
 obtain⟨ns,d⟩:=s;have hd:0<d:=h.pos;have hB:=gB ns (q.den:Nat) (den_pos q);obtain⟨b1,b2⟩:=gh ns (q.den:Nat);have hG:0<(GG q.num d:Int):=qU hd;obtain⟨f,ef,qf⟩:=quo hG (IJ q.num d);obtain⟨a,ea,qa⟩:=quo hG (HR q.num d);obtain⟨e,ee,qe⟩:=quo hB b1;unfold wsm;simp only;rw[qf,qa,qe];generalize dU ((q.den:Nat):Int) ns=B at *
 generalize (GG q.num d:Int)=G at *
 have ap:0<a:=wK (by rw[<- ea]; exact hd) (by assumption);have ep:0<e:=wK (by rw[<- ee]; exact den_pos q) (by assumption);refine⟨by rw[fw]; exact h.len,Jf ap ep,Int.mul_dvd_mul (Jt ⟨G,by rw[ea,Km]⟩ h.dvd) ⟨B,by rw[ee,Km]⟩,λi hi=>?_⟩;have hi':i<ns.length:=by rw[show ns.length=R from h.len]; exact hi
 simp only;rw[getD_map hi'];obtain⟨y,ey,qy⟩:=quo hB (b2 _ (getD_mem hi'));rw[qy];have hv:=h.val i hi;simp only at hv;rw[ey,ea]at hv;have hq:=fu q;rw[ef,ee]at hq;refine E1 (c:=(B:Rat)*(G:Rat)) (λz=>(Rat.mul_eq_zero.mp z).elim (pK hB) (pK hG)) ?_;simp only[GJ]at *
 grind
noncomputable def asm (s u:List Int×Int):List Int×Int:=
 let sh:Int:=(GG s.2 u.2:Int)
 let tops:=(ox s.1.length).map λi=>s.1.getD i 0*(u.2/sh)+u.1.getD i 0*(s.2/sh)
 (tops.map λx=>x/dU sh tops,s.2/sh*(u.2/dU sh tops))
theorem DO {R:Nat}{P:Int}{s u:List Int×Int}{v w:Nat->Rat}(h:Sm R P s v)(g:Sm R P u w):Sm R P (asm s u) λi=>v i+w i:=by
 obtain⟨ns,d⟩:=s;obtain⟨ms,e⟩:=u;have hd:0<d:=h.pos;have he:0<e:=g.pos;have hS:0<(GG d e:Int):=qU he;obtain⟨a,ea,qa⟩:=quo hS (IJ d e);obtain⟨b,eb,qb⟩:=quo hS (HR d e);have cop:GG a b=1:=by have h1:=Int.gcd_ediv (IJ d e) (HR d e);rw[qa,qb,JH,Nat.div_self (by omega)]at h1;exact h1
 unfold asm;simp only;rw[qa,qb];generalize hT:((ox ns.length).map λi=>ns.getD i 0*b+ms.getD i 0*a)=tops;have tl:tops.length=R:=by rw[<- hT,fw,Hd]; exact h.len
 obtain⟨b1,b2⟩:=gh tops (GG d e:Int);have hV:=gB tops _ hS;have hVe:dU (GG d e:Int) tops∣e:=Jt b1 (HR d e);obtain⟨c,ec,qc⟩:=quo hV hVe;rw[qc];generalize dU (GG d e:Int) tops=V at *
 generalize (GG d e:Int)=S at *
 have ap:0<a:=wK (by rw[<- ea]; exact hd) (by assumption);have cp:0<c:=wK (by rw[<- ec]; exact he) (by assumption);refine⟨by rw[fw]; exact tl,Jf ap cp,?_,λi hi=>?_⟩
 . obtain⟨p1,e1⟩:=h.dvd;obtain⟨p2,e2⟩:=g.dvd;simp only at e1 e2
   have e3:a*p1=b*p2:=by
     have:S*(a*p1)=S*(b*p2):=by rw[<- J1,<- J1,<- ea,<- eb,<- e1,<- e2]
     exact Int.eq_of_mul_eq_mul_left (by omega) this
   have e4:a∣p2:=by
     have:=Int.dvd_gcd_mul_iff_dvd_mul.mpr (show a∣b*p2 from⟨p1,e3.symm⟩)
     rwa [cop,Int.natCast_one,Int.one_mul]at this
   obtain⟨p3,e5⟩:=e4;exact⟨V*p3,by simp only; rw[e2,e5,ec]; grind⟩
 . simp only;rw[getD_map (by omega)];obtain⟨z,ez,qz⟩:=quo hV (b2 _ (getD_mem (i:=i) (by omega)));rw[qz]
   have et:tops.getD i 0=ns.getD i 0*b+ms.getD i 0*a:=by
     rw[<- hT];have:i<ns.length:=by rw[show ns.length=R from h.len]; exact hi
     simp[this]
   have hv:=h.val i hi;have hw:=g.val i hi;simp only at hv hw;have t1:((tops.getD i 0:Int):Rat)=((ns.getD i 0:Int):Rat)*(b:Rat)+((ms.getD i 0:Int):Rat)*(a:Rat):=by rw[et,Jy,GJ,GJ]
   rw[ez,hv,hw]at t1;have cd:(d:Rat)=(S:Rat)*(a:Rat):=by rw[ea,GJ]
   have ce:(e:Rat)=(S:Rat)*(b:Rat):=by rw[eb,GJ]
   have cf:(e:Rat)=(V:Rat)*(c:Rat):=by rw[ec,GJ]
   refine E1 (c:=(V:Rat)) (pK hV) ?_;rw[GJ]at t1 ⊢;grind
def Zq (P:Int)(n:Nat)(v:Rat):Prop:=∃z:Int,0<=z/\z<=2^n/\(z:Rat)=v*(P:Rat)
structure Wq (e:Nat)(q:Rat):Prop where
 n0:0<=q.num
 sq:Sq e q
theorem p2 (m n:Nat):(2:Int)^(m+n)=2^m*2^n:=Int.pow_add ..
theorem p0 (n:Nat):(0:Int)<=2^n:=by have e:((2^n:Nat):Int)=(2:Int)^n:=IZ ..;rw[<- e];exact Ir _
theorem bd2 {n:Nat}{i:Int}(h:Bd n i):i<=2^n:=by have h:i.natAbs<2^n:=h;have e:((2^n:Nat):Int)=(2:Int)^n:=IZ ..;omega
theorem Zq.mul {P:Int}{n e:Nat}{v q:Rat}(h:Zq P n v)(g:Wq e q):Zq (P*((q.den:Nat):Int)) (n+e) (q*v):=by
 obtain⟨z,h0,h1,h2⟩:=h;refine⟨z*q.num,Int.mul_nonneg h0 g.n0,?_,?_⟩
 . rw[p2]; exact Jj h1 (bd2 g.sq.num) g.n0 (p0 n)
 . have:=fu q;rw[GJ,GJ]; grind
theorem Zq.up {P:Int}{n e:Nat}{v q:Rat}(h:Zq P n v)(g:Wq e q):Zq (P*((q.den:Nat):Int)) (n+e) v:=by
 obtain⟨z,h0,h1,h2⟩:=h;have:=den_pos q;refine⟨z*((q.den:Nat):Int),Int.mul_nonneg h0 (by omega),?_,?_⟩
 . rw[p2]; exact Jj h1 (bd2 g.sq.den) (by omega) (p0 n)
 . rw[GJ,GJ]; grind
theorem Zq.add {P:Int}{n:Nat}{v w:Rat}(h:Zq P n v)(g:Zq P n w):Zq P (n+1) (v+w):=by obtain⟨z,h0,h1,h2⟩:=h;obtain⟨y,g0,g1,g2⟩:=g;refine⟨z+y,by omega,by rw[p2]; omega,?_⟩;rw[Jy]; grind
theorem Zq.mono {P:Int}{m n:Nat}{v:Rat}(h:Zq P m v)(g:m<=n):Zq P n v:=by
 obtain⟨z,h0,h1,h2⟩:=h;refine⟨z,h0,Int.le_trans h1 ?_,h2⟩
 exact_mod_cast Hg (n:=2) (by decide) g
theorem rn {n:Nat}{i:Int}(h0:0<=i)(h:i<=2^n):Bd (n+1) i:=by unfold Bd;have e:((2^n:Nat):Int)=(2:Int)^n:=IZ ..;have:=Kj (n:=2) (m:=n);have:=Hv n;omega
theorem Zq.sq {P:Int}{m n:Nat}{v:Rat}(h:Zq P n v)(hP:0<P)(g:P<=2^m)(hm:m<=n):Sq (n+1) v:=by obtain⟨z,h0,h1,h2⟩:=h;exact Sq.cq hP h2 (rn h0 h1) ((rn (by omega) g).mono (by omega))
theorem Sm.bd {R:Nat}{P:Int}{s:List Int×Int}{v:Nat->Rat}{m n:Nat}(h:Sm R P s v)(hP:0<P)(g:P<=2^m)(hz:∀i,i<R->Zq P n (v i)):Bd (m+1) s.2/\∀x∈s.1,Bd (n+1) x:=by
 refine⟨(rn (by omega) g).of_dvd h.dvd (by omega),λx hx=>?_⟩;obtain⟨i,hi,rfl⟩:=Jx hx;have hR:i<R:=by rw[<- h.len]; exact hi
 obtain⟨z,h0,h1,h2⟩:=hz i hR;obtain⟨c,ec⟩:=h.dvd;have hv:=h.val i hR;have eg:s.1.getD i 0=s.1[i]:=by simp[hi]
 rw[eg]at hv;have ez:z=s.1[i]*c:=by apply Rat.intCast_inj.mp;rw[h2,ec,GJ,GJ,hv]; grind
 rcases Int.lt_or_eq_of_le h0 with z0 | z0
 . exact(rn h0 h1).of_dvd ⟨c,ez⟩ (by omega)
 . have cp:0<c:=wK (by rw[<- ec]; exact hP) h.pos
   have:s.1[i]=0:=by
     rcases Int.mul_eq_zero.mp (ez.symm.trans z0.symm) with q | q
     . exact q
     . omega
   rw[this];exact Hv _
end K67
namespace Hy
open PySem PySem.Spec PyProof.Rows L2
open Ev (D Den ay ao aS aQ aM fU dD PTs cC eJ)
section
variable {X:Cx}{τ:List Sl}{x z:D}{it elt:Expr}{p:Pos}{k:Nat}{s:Sl}{N:Po}{xs:List D}{i:Nat}{scope:Scope}
theorem zJ (j l:Nat){n m:Str}{p2 pt:Pos}{md:Nat}{g g' f:Nat->D}(B:Bk X k)(hi:PI X (.Tuple [.Name n p,.Name m p2] md pt) it (dI X.K τ xs))(hx:∀i (h:i<xs.length),xs[i]=.tup [g i,g' i])(hl:xs.length<1000000)
   (he:∀i,i<xs.length->∀s H fp,PE (cpX X s H scope fp) elt (dE X.K true (((bF τ (bCp X.N scope)++[Sl.un]).set j (.d (g i))).set l (.d (g' i))) (.d (f i))))
   (hc:bOk X.env.scope scope=true:=by kernel_rfl) (hu:(bF τ (bCp X.N scope)++[Sl.un])[j]?=some .un:=by rfl) (hu':(bF τ (bCp X.N scope)++[Sl.un])[l]?=some .un:=by rfl) (hN:(bNm scope++[("#" : Str)])[j]?=some n:=by rfl) (hN':(bNm scope++[("#" : Str)])[l]?=some m:=by rfl) (hv:∀s H fp,Loc (cpX X s H scope fp).env.scope n:=by intro _ _ _; first | exact .inl rfl | exact .inr rfl) (hv':∀s H fp,Loc (cpX X s H scope fp).env.scope m:=by intro _ _ _; first | exact .inl rfl | exact .inr rfl)
   (hf:∀s H fp,(cpX X s H scope fp).fn n=true\/(cpX X s H scope fp).env.scope.names.lookup n=some .local:=by intro _ _ _; first | exact .inr rfl | exact .inl rfl) (hf':∀s H fp,(cpX X s H scope fp).fn m=true\/(cpX X s H scope fp).env.scope.names.lookup m=some .local:=by intro _ _ _; first | exact .inr rfl | exact .inl rfl) (hs:∀x,foldedSetIterable it X.env x=pure x:=by intro _; rfl) :
   Cmp X elt (.Tuple [.Name n p,.Name m p2] md pt) it [] scope τ ((ox xs.length).map f):=
 FJ (λi=>((bF τ (bCp X.N scope)++[Sl.un]).set j (.d (g i))).set l (.d (g' i))) B hi hl (λi=>⟨by rw[G7,G7],λr x h=>by
     rw[GW (λz=>by rw[<- z,hu']at h; cases h),GW (λz=>by rw[<- z,hu]at h; cases h)];exact h⟩)
   (λi h s H fp=>by rw[hx i h]; exact Bp j l (B.comp s H scope fp).calm (jc hc).2 hN hN' (hv s H fp) (hv' s H fp) (hf s H fp) (hf' s H fp)) he hc hs
theorem Ek {ns ms:List Int}(i:Nat)(h:i<(fX (ns.map D.int) (ms.map D.int)).length):(fX (ns.map D.int) (ms.map D.int))[i]=.tup [.int (ns.getD i 0),.int (ms.getD i 0)]:=by rw[oB];rw[b7,fw,fw]at h;simp[show i<ns.length by omega,show i<ms.length by omega]
end
end Hy
namespace K67
open PySem PySem.Spec PyProof.Rows L2 Hy
open Ev (D Den ay aJ aE)
def df (ds:List D)(r:Sl):Prop:=∃(s:List Int×Int) (q:Rat),ds=[smD s,frD q]/\0<s.2/\Bd 8000 s.2/\(∀x∈s.1,Bd 8000 x)/\Sq 100 q/\s.1.length<=1000/\r=.d (smD (wsm s q))
theorem cJ {a b:Int}(h:0<b):a.fdiv b=a/b:=Hn _ (by omega)
theorem vz (ns:List Int)(g:Int->D):(ox (ns.map D.int).length).map (λi=>g (ns.getD i 0))=ns.map g:=by
 refine Jp (by simp) λi h1 h2=>?_;have:i<ns.length:=by simpa using h2
 simp[this]
def eQ (ds:List D)(r:Sl):Prop:=∃s u:List Int×Int,ds=[smD s,smD u]/\0<s.2/\Bd 8000 s.2/\0<u.2/\Bd 8000 u.2/\(∀x∈s.1,Bd 8000 x)/\(∀x∈u.1,Bd 8000 x)/\s.1.length=u.1.length/\s.1.length<=1000/\r=.d (smD (asm s u))
section
variable {P:Program}{w:World}{K:gV}{mg:Str->Option Value}{base:Heap}{k:Nat}{f:Addr}{fd:FuncData}{qual:Str}
theorem j9 (F:Fun K "weighed_sums" qual (top 48) f fd)(hb:∀x∈ah,mg x=none)(c_common_divisor:Cal P w K mg base k "common_divisor" aW)(c_shared_divisor:Cal P w K mg base k "shared_divisor" bM):aH P w K mg base CX0 (k+1) f fd ["sums","weight"] (spD K df):=by
 refine fnD F fP hb (by rintro _ _ ⟨_,_,rfl,_⟩; rfl) ?_;rintro _ _ ⟨⟨ns,d⟩,q,rfl,hd,hd2,hns,hq,hl,rfl⟩ cdv A outer s H E b;have nd:=fP.nd;have hd:0<d:=hd;have hG:0<(GG q.num d:Int):=qU hd;have hB:=gB ns (q.den:Nat) (den_pos q);have dG:aE (GG q.num d:Int):=(Bd.gcd hd2 (by show d≠0; omega)).aE (Int.ne_of_gt hG) (by decide);have dB:aE (dU (q.den:Nat) ns):=(hq.den.of_dvd (gh ns _).1 (Int.ne_of_gt (den_pos q))).aE (Int.ne_of_gt hB) (by decide);have qn:Bd 8000 (q.num/(GG q.num d:Int)):=(hq.num.ediv _).mono (by decide);refine aA 2 nd (x_call b c_common_divisor (ab (av (aa 1) ae (aq (ai (i:=0) rfl))) (ab (av (aa 0) ae (aq (ai (i:=1) rfl))) af)) ⟨_,_,rfl,rfl⟩) ?_;refine aA 3 nd (x_call b c_shared_divisor (ab (av (aa 1) ae (aq (ai (i:=1) rfl))) (ab (av (aa 0) ae (aq (ai (i:=0) rfl))) af)) ⟨_,_,rfl,rfl⟩) ?_;refine aA 4 nd (aB (av (aa 1) ae (aq (ai (i:=0) rfl))) (aa 2) (bg dG)) ?_;rw[cJ hG];refine aL (bz (ab (a7 (cR (cmp 0 (f:=λi=>.int (ns.getD i 0/dU (q.den:Nat) ns*(q.num/(GG q.num d:Int)))) b (a9 (av (aa 0) ae (aq (ai (i:=0) rfl)))) qL (by rw[fw]; have:ns.length<=1000:=hl; omega) λi hi s0 H0 fp=>?_))) (ab (aB (aB (av (aa 0) ae (aq (ai (i:=1) rfl))) (aa 2) (bg dG)) (aB (av (aa 1) ae (aq (ai (i:=1) rfl))) (aa 3) (bg dB)) (bf ?_)) af))) ?_
 . have hi:i<ns.length:=by rw[fw]at hi; exact hi
   rw[<- cJ hB];exact aB (aB (aa 0) (aa 1) (bg dB)) (aa 2) (bf (by rw[cJ hB]; exact((hns _ (getD_mem hi)).ediv _).aJ qn (by decide) (by decide)))
 . rw[cJ hG,cJ hB];exact(hd2.ediv _).aJ (hq.den.ediv _) (by decide) (by decide)
 . rw[cJ hG,cJ hB,vz ns λx=>.int (x/dU (q.den:Nat) ns*(q.num/(GG q.num d:Int)))];unfold smD wsm;rw[GO];rfl
theorem mF (F:Fun K "added_sums" qual (top 49) f fd)(hb:∀x∈ah,mg x=none)(c_common_divisor:Cal P w K mg base k "common_divisor" aW)(c_shared_divisor:Cal P w K mg base k "shared_divisor" bM):aH P w K mg base CX0 (k+1) f fd ["one","other"] (spD K eQ):=by
 refine fnD F gY hb (by rintro _ _ ⟨_,_,rfl,_⟩; rfl) ?_;rintro _ _ ⟨⟨ns,d⟩,⟨ms,e⟩,rfl,hd,hd2,he,he2,hns,hms,hll,hl,rfl⟩ cdv A outer s H E b;have nd:=gY.nd;have hd:0<d:=hd;have he:0<e:=he;have hll:ns.length=ms.length:=hll;have hl:ns.length<=1000:=hl;have hS:0<(GG d e:Int):=qU he;have bS:Bd 8000 (GG d e:Int):=Bd.gcd he2 (by show e≠0; omega);have dS:aE (GG d e:Int):=bS.aE (by omega) (by decide);refine aA 2 nd (x_call b c_common_divisor (ab (av (aa 0) ae (aq (ai (i:=1) rfl))) (ab (av (aa 1) ae (aq (ai (i:=1) rfl))) af)) ⟨_,_,rfl,rfl⟩) ?_;refine aA 3 nd (aB (av (aa 1) ae (aq (ai (i:=1) rfl))) (aa 2) (bg dS)) ?_;refine aA 4 nd (aB (av (aa 0) ae (aq (ai (i:=1) rfl))) (aa 2) (bg dS)) ?_;rw[cJ hS,cJ hS];have be:Bd 8000 (e/(GG d e:Int)):=Bd.ediv he2 _;have bd:Bd 8000 (d/(GG d e:Int)):=Bd.ediv hd2 _;have zl:(fX (ns.map D.int) (ms.map D.int)).length=ns.length:=by rw[b7,fw,fw]; omega
 refine tI 5 nd (zJ 0 1 (f:=λi=>.int (ns.getD i 0*(e/(GG d e:Int))+ms.getD i 0*(d/(GG d e:Int)))) b (u5 b (av (aa 0) ae (aq (ai (i:=0) rfl))) (av (aa 1) ae (aq (ai (i:=0) rfl)))) Ek (by rw[zl]; omega) λi hi s0 H0 fp=>?_) (.inr rfl) ?_
 . have hi:i<ns.length:=by rw[zl]at hi; exact hi
   exact aB (aB (aa 0) (aa 2) (bf ((hns _ (getD_mem hi)).aJ be (by decide) (by decide)))) (aB (aa 1) (aa 3) (bf ((hms _ (getD_mem (xs:=ms) (by omega))).aJ bd (by decide) (by decide)))) bp
 rw[zl];have ec:((ox ns.length).map λi=>D.int (ns.getD i 0*(e/(GG d e:Int))+ms.getD i 0*(d/(GG d e:Int))))=((ox ns.length).map λi=>ns.getD i 0*(e/(GG d e:Int))+ms.getD i 0*(d/(GG d e:Int))).map .int:=by rw[GO]; rfl
 rw[ec];have er:asm (ns,d) (ms,e)=((((ox ns.length).map λi=>ns.getD i 0*(e/(GG d e:Int))+ms.getD i 0*(d/(GG d e:Int)))).map λx=>x/dU (GG d e:Int) ((ox ns.length).map λi=>ns.getD i 0*(e/(GG d e:Int))+ms.getD i 0*(d/(GG d e:Int))),d/(GG d e:Int)*(e/dU (GG d e:Int) ((ox ns.length).map λi=>ns.getD i 0*(e/(GG d e:Int))+ms.getD i 0*(d/(GG d e:Int))))):=rfl;rw[er];have tl:((ox ns.length).map λi=>ns.getD i 0*(e/(GG d e:Int))+ms.getD i 0*(d/(GG d e:Int))).length<=1000:=by rw[fw,Hd]; exact hl
 generalize ((ox ns.length).map λi=>ns.getD i 0*(e/(GG d e:Int))+ms.getD i 0*(d/(GG d e:Int)))=tops at tl;have hV:=gB tops _ hS;have dV:aE (dU (GG d e:Int) tops):=(bS.of_dvd (gh tops _).1 (by omega)).aE (by omega) (by decide);refine aA 6 nd (x_call b c_shared_divisor (ab (aa 2) (ab (aa 5) af)) ⟨_,_,rfl,rfl⟩) ?_;refine aL (bz (ab (a7 (cR (cmp 0 (f:=λi=>.int (tops.getD i 0/dU (GG d e:Int) tops)) b (a9 (aa 5)) qL (by rw[fw]; omega) λi hi s0 H0 fp=>?_))) (ab (aB (aa 4) (aB (av (aa 1) ae (aq (ai (i:=1) rfl))) (aa 6) (bg dV)) (bf ?_)) af))) ?_
 . rw[<- cJ hV];exact aB (aa 0) (aa 1) (bg dV)
 . rw[cJ hV];exact bd.aJ (Bd.ediv he2 _) (by decide) (by decide)
 . rw[cJ hV,vz tops λx=>.int (x/dU (GG d e:Int) tops)];unfold smD;rw[GO];rfl
end
noncomputable def fW (V:Nat->Nat->Rat)(n:Nat)(r:Nat->Rat):Nat->Nat->Rat:=λk=>if k=n then r else V k
noncomputable def stV (V:Nat->Nat->Rat)(st:Stp):Nat->Nat->Rat:=if st.1 = "weigh" then fW V st.2.1 λi=>st.2.2*V st.2.1 i else fW V (rgE st) λi=>V (rgE st) i+st.2.2*V (rgS st) i
noncomputable def V0 (k i:Nat):Rat:=if i=k then 1 else 0
noncomputable def fwd (ss:List Stp):Nat->Nat->Rat:=ss.foldl stV V0
theorem jx {n m:Nat}(h:m<n):ixN n (m:Int)=some m:=by unfold ixN;rw[if_pos (by omega),if_pos (by omega)];simp
structure TrI (e T R t:Nat)(P:Int)(tr:List (List Int×Int))(V:Nat->Nat->Rat):Prop where
 len:tr.length=T
 pos:0<P
 le:P<=2^(e*t)
 sm:∀k,k<T->Sm R P (tr.getD k ([],1)) (V k)
 zq:∀k,k<T->∀i,i<R->Zq P ((e+1)*t) (V k i)
theorem yj {α:Type}{xs:List α}{k j:Nat}{x d:α}(h:k<xs.length):(xs.set k x).getD j d=if j=k then x else xs.getD j d:=by
 by_cases e:j=k
 . subst e; simp[h]
 . simp[JN,e,GW (Hi e)]
theorem Zq.upn {P:Int}{e t:Nat}{v q:Rat}(h:Zq P ((e+1)*t) v)(g:Wq e q):Zq (P*((q.den:Nat):Int)) ((e+1)*(t+1)) v:=(h.up g).mono (by rw[IA]; omega)
theorem TrI.put {e T R t k:Nat}{P:Int}{tr:List (List Int×Int)}{V:Nat->Nat->Rat}{q:Rat}(h:TrI e T R t P tr V)(g:Wq e q)(hk:k<T){s':List Int×Int}{v':Nat->Rat}(hs:Sm R (P*((q.den:Nat):Int)) s' v')
   (hz:∀i,i<R->Zq (P*((q.den:Nat):Int)) ((e+1)*(t+1)) (v' i)):TrI e T R (t+1) (P*((q.den:Nat):Int)) (tr.set k s') (fW V k v'):=by
 refine⟨by rw[G7]; exact h.len,Jf h.pos (den_pos q),?_,λj hj=>?_,λj hj i hi=>?_⟩
 . rw[IA,p2];exact Jj h.le (bd2 g.sq.den) (by have:=den_pos q; omega) (p0 _)
 . rw[yj (by rw[h.len]; exact hk)];unfold fW;split
   . exact hs
   . exact(h.sm j hj).up _
 . unfold fW;split
   . exact hz i hi
   . exact(h.zq j hj i hi).upn g
theorem TrI.start {e T R:Nat}:TrI e T R 0 1 ((ox T).map λk=>l5 k R) V0:=by
 refine⟨by simp,by decide,by simp,λk hk=>?_,λk hk i hi=>?_⟩
 . rw[show ((ox T).map λk=>l5 k R).getD k ([],1)=l5 k R by simp[hk]];refine⟨by simp[l5],by show (0:Int)<1; decide,Int.dvd_refl _,λi hi=>?_⟩;rw[show (l5 k R).1.getD i 0=if i=k then 1 else 0 by simp[l5,hi]];unfold V0 l5;split
   . exact(Iz _).symm
   . exact(Ke _).symm
 . unfold V0;split
   . exact⟨1,by decide,by simp,(Iz _).symm⟩
   . exact⟨0,by decide,by simp,(Ke _).symm⟩
theorem TrI.bd {e T R t:Nat}{P:Int}{tr:List (List Int×Int)}{V:Nat->Nat->Rat}(h:TrI e T R t P tr V)(hn:(e+1)*t<=1500){k:Nat}(hk:k<T):0<(tr.getD k ([],1)).2/\Bd 8000 (tr.getD k ([],1)).2/\(∀x∈(tr.getD k ([],1)).1,Bd 8000 x)/\(tr.getD k ([],1)).1.length=R:=by obtain⟨h1,h2⟩:=(h.sm k hk).bd h.pos h.le (h.zq k hk);have:e*t<=(e+1)*t:=G2 _ (by omega);exact⟨(h.sm k hk).pos,h1.mono (by omega),λx hx=>(h2 x hx).mono (by omega),(h.sm k hk).len⟩
theorem xm {tr:List (List Int×Int)}{i:Nat}(h:i<tr.length):atI (tr.map smD) (i:Int)=some (smD (tr.getD i ([],1))):=ai (by simp[h])
theorem oV {tr:List (List Int×Int)}{C:Nat}(h:C<=tr.length):(cutD (tr.map smD) none (some (C:Int))).length=C:=by rw[ig,GZ,fw]; omega
theorem Em {tr:List (List Int×Int)}{C:Nat}(i:Nat)(h:i<(cutD (tr.map smD) none (some (C:Int))).length):(cutD (tr.map smD) none (some (C:Int)))[i]=smD (tr.getD i ([],1)):=by rw[List.getElem_of_eq (ig C)];rw[ig,GZ,fw]at h;simp[show i<tr.length by omega]
theorem Sm.sums {R:Nat}{P:Int}{s:List Int×Int}{v:Nat->Rat}(h:Sm R P s v):EU s ((ox R).map v):=by
 refine⟨by rw[h.len]; simp,h.pos,λi hi=>?_⟩;have hi:i<R:=by simpa using hi
 rw[h.val i hi];simp[hi]
theorem yb {e T R t:Nat}{P:Int}{tr:List (List Int×Int)}{V:Nat->Nat->Rat}{n:Nat}{q:Rat}(h:TrI e T R t P tr V)(g:Wq e q)(hn:n<T):TrI e T R (t+1) (P*((q.den:Nat):Int)) (tr.set n (wsm (tr.getD n ([],1)) q)) (stV V ("weigh",n,q)):=by unfold stV;rw[if_pos rfl];exact h.put g hn (lX (h.sm n hn)) λi hi=>((h.zq n hn i hi).mul g).mono (by rw[IA]; omega)
theorem Dh {e T R t:Nat}{P:Int}{tr:List (List Int×Int)}{V:Nat->Nat->Rat}{st:Stp}(h:TrI e T R t P tr V)(g:Wq e st.2.2)(h0:st.1 ≠ "weigh")(h1:rgS st<T)(h2:rgE st<T):TrI e T R (t+1) (P*((st.2.2.den:Nat):Int)) (tr.set (rgE st) (asm (tr.getD (rgE st) ([],1)) (wsm (tr.getD (rgS st) ([],1)) st.2.2))) (stV V st):=by unfold stV;rw[if_neg h0];exact h.put g h2 (DO ((h.sm _ h2).up _) (lX (h.sm _ h1))) λi hi=>(((h.zq _ h2 i hi).up g).add ((h.zq _ h1 i hi).mul g)).mono (by rw[IA]; omega)
theorem CJ {T:Nat}{st:Stp}(h:okS T st)(h0:st.1 ≠ "weigh"):rgS st<T/\rgE st<T/\rgS st≠rgE st:=by
 obtain⟨_,h | h⟩:=h
 . exact absurd h.1 h0
 . have:=h.2;unfold rgS rgE;split <;> omega
noncomputable def cO (C R:Nat)(V:Nat->Nat->Rat):List (List Rat):=(ox R).map λi=>(ox C).map λj=>V j i
def cY (ds:List D)(r:Sl):Prop:=∃(e T R C:Nat) (ss:List Stp),ds=[aI T R C ss]/\okL T R C ss/\(∀i,i<ss.length->Wq e (ss.getD i ("weigh",0,0)).2.2)/\(e+1)*ss.length<=1500/\e<=100/\r=.n (y8 (cO C R (fwd ss)))
theorem wU (C R:Nat)(V:Nat->Nat->Rat):uC ((ox C).map λj=>(ox R).map λi=>V j i) R=cO C R V:=by unfold uC cO;refine GY λi hi=>?_;have hi:i<R:=GQ.mp hi;unfold xj;rw[fw,Hd];refine GY λj hj=>?_;have hj:j<C:=GQ.mp hj;simp[hi,hj]
section
variable {P:Program}{w:World}{K:gV}{mg:Str->Option Value}{base:Heap}{k:Nat}{f:Addr}{fd:FuncData}{qual:Str}
theorem rb (F:Fun K "table_of" qual (top 45) f fd)(hb:∀x∈ah,mg x=none)(c_look_ladder:Cal P w K mg base k "look_ladder" bQ)(c_columns_of:Cal P w K mg base k "columns_of" fG)(c_first_sums:Cal P w K mg base k "first_sums" ff)(c_weighed_sums:Cal P w K mg base k "weighed_sums" df)(c_added_sums:Cal P w K mg base k "added_sums" eQ)(c_told_sums:Cal P w K mg base k "told_sums" gx)(c_rung_end:Cal P w K mg base k "rung_end" il)(c_rung_start:Cal P w K mg base k "rung_start" ft):aH P w K mg base CX0 (k+1) f fd ["ladder"] (spD K cY):=by
 refine fnD F jR hb (by rintro _ _ ⟨_,_,_,_,_,rfl,_⟩; rfl) ?_;rintro _ _ ⟨e,T,R,C,ss,rfl,h,hw,hn,he,rfl⟩ cdv A outer s H E b;have nd:=jR.nd;have hT:=h.t7;have h00:=h;have hRT:=h.rT;have hCT:=h.cT;refine dM (x_call b c_look_ladder (ab (aa 0) af) ⟨T,R,C,ss,rfl,h,rfl⟩) ?_;refine tI 1 nd (cmp 0 (f:=λk=>smD (l5 k R)) b (fK b (av (aa 0) ae (aq (ai (i:=0) rfl))) (by omega) (by omega)) fL (by rw[aN]; omega) λi hi s0 H0 fp=>(x_call (b.comp s0 H0 _ fp) c_first_sums (ab (aa 0) (ab (av (aa 1) ae (aq (ai (i:=1) rfl))) af)) ⟨_,R,rfl,by omega,rfl⟩)) (.inl rfl) ?_;rw[aN,GC];refine bK 2 (λi τ=>∃P tr s2 s3,TrI e T R i P tr ((ss.take i).foldl stV V0)/\τ=[.d (aI T R C ss),.o (tr.map smD),s2,s3]) b nd (a9 (av (aa 0) ae (aq (ai (i:=3) rfl)))) Cg ⟨1,(ox T).map λk=>l5 k R,.un,.un,TrI.start,?_⟩ (λi hi τ h=>?_) λτ h=>?_
 . rw[GO]; rfl
 . obtain⟨P,tr,s2,s3,I,rfl⟩:=h;have hi:i<ss.length:=by rw[fw]at hi; exact hi
   have hn':(e+1)*i<=1500:=GB (IL _ (by omega)) hn;have hn2:(e+1)*(i+1)<=1500:=GB (IL _ (by omega)) hn;have g:=hw i hi;have ok:=h00.st i hi;have nx:∀V,(ss.take (i+1)).foldl stV V=stV ((ss.take i).foldl stV V) (ss.getD i ("weigh",0,0)):=λV=>by rw[take_snoc (("weigh",0,0):Stp) hi,Hm]; rfl
   rw[nx];generalize ss.getD i ("weigh",0,0)=st at *
   obtain⟨u,n,q⟩:=st;have sq:Sq 100 q:=g.sq.mono he;refine jJ (M:=λτ=>∃P tr s2 s3,TrI e T R (i+1) P tr (stV ((ss.take i).foldl stV V0) (u,n,q))/\τ=[.d (aI T R C ss),.o (tr.map smD),s2,s3]) (aX (av (aa 2) ae (aq (ai (i:=0) rfl))) b5 nV) (λh=>?_) (λh=>?_) λτ h=>aK h
   . obtain rfl:=of_decide_eq_true h
     have hnT:n<T:=by
       rcases ok.2 with z | z
       . exact z.2
       . have:=z.2; simp only at this; omega
     obtain⟨z1,z2,z3,z4⟩:=I.bd hn' hnT;have hnl:n<tr.length:=by rw[I.len]; exact hnT
     refine nA 1 (xs:=tr.map smD) (j:=n) (av (aa 2) ae (aq (ai (i:=1) rfl))) (x_call b c_weighed_sums (ab (gZ 1 (av (aa 2) ae (aq (ai (i:=1) rfl))) (xm hnl)) (ab (av (aa 2) ae (aq (ai (i:=2) rfl))) af)) ⟨_,q,rfl,z1,z2,z3,sq,by omega,rfl⟩) (by rw[fw]; exact jx hnl) (aK ⟨_,_,.d (stD ("weigh",n,q)),s3,yb I g hnT,?_⟩);rw[List.map_set];rfl
   . have h0:u ≠ "weigh":=of_decide_eq_false h;obtain⟨hS,hE,_⟩:=CJ ok h0;obtain⟨z1,z2,z3,z4⟩:=I.bd hn' hS;obtain⟨y1,y2,y3,y4⟩:=I.bd hn' hE;have lS:rgS (u,n,q)<tr.length:=by rw[I.len]; exact hS
     have lE:rgE (u,n,q)<tr.length:=by rw[I.len]; exact hE
     obtain⟨w1,w2⟩:=(lX (q:=q) (I.sm _ hS)).bd (m:=e*(i+1)) (n:=(e+1)*(i+1)) (Jf I.pos (den_pos q)) (by rw[IA,p2]; exact Jj I.le (bd2 g.sq.den) (by have:=den_pos q; omega) (p0 _)) λr hr=>((I.zq _ hS r hr).mul g).mono (by rw[IA]; omega);have w0:=(lX (q:=q) (I.sm _ hS)).pos;have w3:=(lX (q:=q) (I.sm _ hS)).len;have:e*(i+1)<=(e+1)*(i+1):=G2 _ (by omega);refine aA 3 nd (x_call b c_weighed_sums (ab (gZ 1 (x_call b c_rung_start (ab (aa 2) af) ⟨(u,n,q),rfl,rfl⟩) (xm lS)) (ab (av (aa 2) ae (aq (ai (i:=2) rfl))) af)) ⟨_,q,rfl,z1,z2,z3,sq,by omega,rfl⟩) ?_;refine nA 1 (xs:=tr.map smD) (j:=rgE (u,n,q)) (x_call b c_rung_end (ab (aa 2) af) ⟨(u,n,q),rfl,rfl⟩) (x_call b c_added_sums (ab (gZ 1 (x_call b c_rung_end (ab (aa 2) af) ⟨(u,n,q),rfl,rfl⟩) (xm lE)) (ab (aa 3) af)) ⟨_,_,rfl,y1,y2,w0,w1.mono (by omega),y3,λx hx=>(w2 x hx).mono (by omega),by rw[y4,w3],by omega,rfl⟩) (by rw[fw]; exact jx lE) (aK ⟨_,_,.d (stD (u,n,q)),.d (smD (wsm (tr.getD (rgS (u,n,q)) ([],1)) q)),Dh I g h0 hS hE,?_⟩);rw[List.map_set];rfl
 . obtain⟨P,tr,s2,s3,I,rfl⟩:=h;rw[fw,Gx (ia _)]at I;have bds:∀j,j<T->_:=λj hj=>I.bd hn hj;have hCl:C<=tr.length:=by rw[I.len]; exact hCT
   refine jE 1 (aL (x_call b c_columns_of (ab (a7 (cR (cmp 0 (f:=λj=>.lst (((ox R).map (fwd ss j)).map frD)) b (a9 (a7 (vP (aa 1) dH (cL (av (aa 0) ae (aq (ai (i:=2) rfl))))))) Em (by rw[oV hCl]; omega) λj hj s0 H0 fp=>?_))) af) ⟨(ox C).map λj=>(ox R).map (fwd ss j),R,?_,?_,?_,?_,?_,rfl⟩) ?_)
   . rw[oV hCl]at hj;have hjT:j<T:=by omega
     exact a7 (x_call (b.comp s0 H0 _ fp) c_told_sums (ab (aa 0) af) ⟨tr.getD j ([],1),(ox R).map (fwd ss j),rfl,(I.sm j hjT).sums,by rw[fw,Hd]; omega,(bds j hjT).2.1.mono (by decide),rfl⟩)
   . rw[oV hCl];unfold kh;rw[GO];rfl
   . rw[fw,Hd]; exact h00.c1
   . rw[fw,Hd]; omega
   . omega
   . intro j hj;rw[fw,Hd]at hj;simp[hj]
   . rw[wU]
end
def ko (ds:List D)(r:Sl):Prop:=∃n:Nat,ds=[.int n]/\n<=1000/\r=.d (.int (10^n))
noncomputable def wgT (p:Int)(g:Nat):Int:=if 0<g then p.fmod (10^g) else p.fmod 7
noncomputable def wgB (p:Int)(g:Nat):Int:=if 0<g then 1+(p.fdiv (10^g)).fmod (10^g-1) else 1+(p.fdiv 7).fmod 4
noncomputable def wgt (p:Int)(g:Nat):Rat:=(wgT p g:Rat)/(wgB p g:Rat)
def fB (ds:List D)(r:Sl):Prop:=∃(p:Int) (g:Nat),ds=[.int p,.int g]/\g<=40/\r=.d (frD (wgt p g))
theorem fm {a b:Int}(h:0<b):0<=a.fmod b/\a.fmod b<b:=⟨J6 a h,KJ a h⟩
theorem yN {g:Nat}(h:g<=40):(10:Int)^g<2^140:=by
 have h1:(10:Nat)^g<=10^40:=Hg (by decide) h;have h2:(10:Nat)^40<2^140:=by decide
 have:((10^g:Nat):Int)<((2^140:Nat):Int):=Int.ofNat_lt.mpr (GX h1 h2);simpa using this
theorem uM {g:Nat}(h:0<g):(10:Int)<=10^g:=by have h1:(10:Nat)^1<=10^g:=Hg (by decide) h;have:((10^1:Nat):Int)<=((10^g:Nat):Int):=Int.ofNat_le.mpr h1;simpa using this
theorem qZ {x:Int}(h0:0<=x)(h:x<2^140):Bd 140 x:=by
 unfold Bd;have:(x.natAbs:Int)<((2^140:Nat):Int):=by rw[Int.natAbs_of_nonneg h0]; simpa using h
 exact Int.ofNat_lt.mp this
theorem xk (p:Int){g:Nat}(h:g<=40):0<=wgT p g/\Bd 140 (wgT p g)/\0<wgB p g/\Bd 140 (wgB p g):=by
 unfold wgT wgB;by_cases h0:0<g
 . have h1:=yN h;have h2:=uM h0;have f1:=fm (a:=p) (b:=10^g) (by omega);have f2:=fm (a:=p.fdiv (10^g)) (b:=10^g-1) (by omega);rw[if_pos h0,if_pos h0];exact⟨f1.1,qZ f1.1 (by omega),by omega,qZ (by omega) (by omega)⟩
 . have f1:=fm (a:=p) (b:=7) (by decide);have f2:=fm (a:=p.fdiv 7) (b:=4) (by decide);rw[if_neg h0,if_neg h0];exact⟨f1.1,qZ f1.1 (by omega),by omega,qZ (by omega) (by omega)⟩
theorem gM (p:Int){g:Nat}(h:g<=40):(wgT p g:Rat)=wgt p g*(wgB p g:Rat):=(Rat.div_mul_cancel (pK (xk p h).2.2.1)).symm
theorem oS (p:Int){g:Nat}(h:g<=40):0<=(wgt p g).num/\Sq 140 (wgt p g):=by obtain⟨h1,h2,h3,h4⟩:=xk p h;refine⟨?_,Sq.cq h3 (gM p h) h2 h4⟩;rw[(cq h3 (gM p h)).1];exact Int.ediv_nonneg h1 (Ir _)
section
variable {P:Program}{w:World}{K:gV}{mg:Str->Option Value}{base:Heap}{k:Nat}{f:Addr}{fd:FuncData}{qual:Str}
theorem xw (F:Fun K "_law_ten" qual (top 59) f fd)(hb:∀x∈ah,mg x=none):aH P w K mg base CX0 (k+1) f fd ["_law_many"] (spD K ko):=by
 refine fnD F q9 hb (by rintro _ _ ⟨_,rfl,_⟩; rfl) ?_;rintro _ _ ⟨n,rfl,hn,rfl⟩ cdv A outer s H E b;have nd:=q9.nd;refine aA 1 nd ae ?_;refine bK 2 (λi τ=>∃s2,τ=[.d (.int n),.d (.int (10^i)),s2]) b nd (fK b (aa 0) (by omega) (by omega)) fL ⟨_,rfl⟩ (λi hi τ h=>?_) λτ h=>?_
 . obtain⟨s2,rfl⟩:=h;refine aA 1 nd (aB ae (aa 1) (bf (mkL (by decide)))) (aK ⟨.d (.int (i:Nat)),?_⟩);rw[Int.pow_succ,Km];rfl
 . obtain⟨s2,rfl⟩:=h;refine aL (aa 1) ?_;rw[aN,GC]
theorem qM (F:Fun K "_law_weight" qual (top 68) f fd)(hb:∀x∈ah,mg x=none)(c_l_made:Cal P w K mg base k "_law_made" gq)(c_l_ten:Cal P w K mg base k "_law_ten" ko):aH P w K mg base CX0 (k+1) f fd ["_law_part","_law_figures"] (spD K fB):=by
 refine fnD F jT hb (by rintro _ _ ⟨_,_,rfl,_⟩; rfl) ?_;rintro _ _ ⟨p,g,rfl,hg,rfl⟩ cdv A outer s H E b;have nd:=jT.nd;obtain⟨h1,h2,h3,h4⟩:=xk p hg;have hm:=gM p hg;refine hJ (aX (aa 1) ae qQ) (λh=>?_) λh=>?_
 . have h0:0<g:=by have:=of_decide_eq_true h; omega
   have t2:=uM h0;have eT:wgT p g=p.fmod (10^g):=if_pos h0;have eB:wgB p g=1+(p.fdiv (10^g)).fmod (10^g-1):=if_pos h0;have dv:aE ((10:Int)^g):=(qZ (by omega) (yN hg)).aE (by omega) (by decide);refine aA 2 nd (x_call b c_l_ten (ab (aa 1) af) ⟨g,rfl,by omega,rfl⟩) ?_;exact aL (x_call b c_l_made (ab (aB (aa 0) (aa 2) (bP (by omega))) (ab (aB ae (aB (aB (aa 0) (aa 2) (bg dv)) (aB (aa 2) ae hU) (bP (by omega))) bp) af)) ⟨wgT p g,wgB p g,wgt p g,by rw[eT,eB],h3,h4.mono (by decide),hm,rfl⟩) rfl
 . have h0:g=0:=by have:=of_decide_eq_false h; omega
   subst h0;exact aL (x_call b c_l_made (ab (aB (aa 0) ae (bP (by decide))) (ab (aB ae (aB (aB (aa 0) ae (bg (mkD (by decide) (by decide)))) ae (bP (by decide))) bp) af)) ⟨wgT p 0,wgB p 0,wgt p 0,rfl,h3,h4.mono (by decide),hm,rfl⟩) rfl
end
noncomputable def wrd (i:Int):Str:=if i=0 then "down" else if i=1 then "up" else "weigh"
theorem BZ {i:Int}(h0:0<=i)(h:i<3):atI [D.str "down",D.str "up",D.str "weigh"] i=some (.str (wrd i)):=by obtain⟨n,rfl⟩:=HJ h0;rcases(by omega:n=0\/n=1\/n=2) with rfl | rfl | rfl <;> rfl
theorem km {α:Type}(a b c:α):∀n,(GA n [a,b,c]).flatten.length=3*n
 | 0=>rfl
 | n+1=>by rw[Hk,HA,vp,km a b c n]; simp; omega
theorem uU {a b c:Int}{n:Nat}{x:Int}(h:x∈(GA n [a,b,c]).flatten):x=a\/x=b\/x=c:=by obtain⟨l,h1,h2⟩:=List.mem_flatten.mp h;rw[(List.mem_replicate.mp h1).2]at h2;simpa using h2
theorem yz {a b c:Int}:∀(n k:Nat),k<n->(GA n [a,b,c]).flatten.getD (3*k) 0=a/\(GA n [a,b,c]).flatten.getD (3*k+1) 0=b/\(GA n [a,b,c]).flatten.getD (3*k+2) 0=c
 | n+1,0,_=>by rw[Hk,HA]; exact⟨rfl,rfl,rfl⟩
 | n+1,k+1,h=>by have:=yz (a:=a) (b:=b) (c:=c) n k (by omega);rw[Hk,HA];exact this
theorem zN (a b c:Int)(n:Nat):(GA n [D.int a,D.int b,D.int c]).flatten=((GA n [a,b,c]).flatten).map .int:=by rw[List.map_flatten,List.map_replicate]; rfl
noncomputable def adB (g:Nat):Int:=10^(2*(if (g:Int)>1 then (g:Int) else 1).toNat)*28
noncomputable def adP (c:Int)(n g:Nat):List Int:=nums c (GA n [3,7,adB g]).flatten
noncomputable def adW (ps:List Int)(T k:Nat):Str:=if wrd (ps.getD (3*k) 0) ≠ "weigh" /\ T=1 then "weigh" else wrd (ps.getD (3*k) 0)
noncomputable def adA (ps:List Int)(T k:Nat):Int:=if adW ps T k = "weigh" then (ps.getD (3*k+1) 0).fmod T else (ps.getD (3*k+1) 0).fmod ((T:Int)-1)
noncomputable def adS (ps:List Int)(T g k:Nat):Stp:=(adW ps T k,(adA ps T k).toNat,wgt (ps.getD (3*k+2) 0) g)
theorem Bi {g:Nat}(h:g<=40):0<adB g/\aE (adB g):=by
 unfold adB;have hk:(2*(if (g:Int)>1 then (g:Int) else 1).toNat)<=80:=by split <;> omega
 generalize (2*(if (g:Int)>1 then (g:Int) else 1).toNat)=k at hk;have h1:(10:Nat)^k<=10^80:=Hg (by decide) hk;have h2:0<(10:Nat)^k:=Nat.pow_pos (by decide);have e:(10:Int)^k*28=((10^k*28:Nat):Int):=by simp
 rw[e];have h3:Bd 300 ((10^k*28:Nat):Int):=by unfold Bd;rw[JH];exact GX (G2 28 h1) (by decide)
 exact⟨by omega,h3.aE (by omega) (by decide)⟩
theorem Fs {c:Int}{n g k:Nat}(h:g<=40)(hk:k<n):0<=(adP c n g).getD (3*k) 0/\(adP c n g).getD (3*k) 0<3:=by
 have hp:∀b∈(GA n [3,7,adB g]).flatten,0<b:=λb hb=>by have:=Bi h;rcases uU hb with rfl | rfl | rfl <;> omega
 have:=oA (c:=c) hp (i:=3*k) (by rw[km]; omega);rw[(yz n k hk).1]at this;exact this
theorem zb {ps:List Int}{T k:Nat}(hT:1<=T):0<=adA ps T k/\(adW ps T k = "weigh" -> adA ps T k<T)/\(adW ps T k ≠ "weigh" -> 2<=T/\adA ps T k+1<T):=by
 unfold adA;split
 . rename_i h;have:=fm (a:=ps.getD (3*k+1) 0) (b:=T) (by omega);exact⟨this.1,λ_=>this.2,λz=>absurd h z⟩
 . rename_i h
   have hT1:T≠1:=λz=>h (by
     unfold adW;split
     . rfl
     . rename_i y;exact Decidable.byContradiction λx=>y ⟨x,z⟩)
   have:=fm (a:=ps.getD (3*k+1) 0) (b:=(T:Int)-1) (by omega);exact⟨this.1,λz=>absurd z h,λ_=>by omega⟩
theorem DD (i:Int):wrd i = "weigh" \/ wrd i = "down" \/ wrd i = "up":=by
 unfold wrd;split
 . exact .inr (.inl rfl)
 . split
   . exact .inr (.inr rfl)
   . exact .inl rfl
theorem DR {ps:List Int}{T g k:Nat}(hT:1<=T)(hg:g<=40):okS T (adS ps T g k)/\Sq 140 (adS ps T g k).2.2:=by
 obtain⟨h1,h2,h3⟩:=zb (ps:=ps) (k:=k) hT;have hw:=oS (ps.getD (3*k+2) 0) hg;refine⟨⟨hw.1,?_⟩,hw.2⟩;by_cases e:adW ps T k = "weigh"
 . exact .inl ⟨e,by have:=h2 e; show (adA ps T k).toNat<T; omega⟩
 . refine .inr ⟨?_,by have:=h3 e; show (adA ps T k).toNat+1<T; omega⟩;show adW ps T k = "down" \/ adW ps T k = "up";unfold adW at e ⊢;split at e
   . exact absurd rfl e
   . rename_i y;rw[if_neg y];exact(DD _).resolve_left e
def eU (ds:List D)(r:Sl):Prop:=∃(c:Int) (T R C n g:Nat),ds=[.int c,.int T,.int R,.int C,.int n,.int g]/\1<=T/\n<=40/\g<=40/\r=.d (aI T R C ((ox n).map (adS (adP c n g) T g)))
section
variable {P:Program}{w:World}{K:gV}{mg:Str->Option Value}{base:Heap}{k:Nat}{f:Addr}{fd:FuncData}{qual:Str}
theorem rL (F:Fun K "_law_ladder" qual (top 69) f fd)(hb:∀x∈ah,mg x=none)(c_l_numbers:Cal P w K mg base k "_law_numbers" bL)(c_l_weight:Cal P w K mg base k "_law_weight" fB)(c_l_ten:Cal P w K mg base k "_law_ten" ko):aH P w K mg base CX0 (k+1) f fd ["_law_cell_here","_law_tracks","_law_rows_here","_law_columns","_law_many","_law_figures"] (spD K eU):=by
 refine fnD F j3 hb (by rintro _ _ ⟨_,_,_,_,_,_,rfl,_⟩; rfl) ?_;rintro _ _ ⟨c,T,R,C,n,g,rfl,hT,hn,hg,rfl⟩ cdv A outer s H E b;have nd:=j3.nd;have hmx:0<=(if (g:Int)>1 then (g:Int) else 1)/\(if (g:Int)>1 then (g:Int) else 1)<=40:=by split <;> omega
 have hB:=Bi hg;have hlen:(adP c n g).length=3*n:=by unfold adP; rw[fZ,km]
 refine aA 6 nd (x_call b c_l_numbers (ab (aa 0) (ab (a7 (D4 (a7 (bY (ab ae (ab ae (ab (aB (x_call b c_l_ten (ab (aB ae (bq b (ab ae (ab (aa 5) af)) (BH b.calm)) (bf (mkL (by decide)))) af) ⟨2*(if (g:Int)>1 then (g:Int) else 1).toNat,?_,by omega,rfl⟩) ae (bf (mkR (by decide)))) af))))) (aa 4) (by omega) (by omega) ?_)) af)) ⟨c,(GA n [3,7,adB g]).flatten,?_,?_,?_,rfl⟩) ?_
 . congr 2; omega
 . simp; omega
 . rw[GC,<- zN]; rfl
 . rw[km]; omega
 . intro x hx;rcases uU hx with rfl | rfl | rfl
   . exact rj (by decide) (by decide)
   . exact rj (by decide) (by decide)
   . exact hB
 refine jE 6 ?_;refine aA 7 nd (bY af) ?_;refine bK 8 (λi τ=>∃s8 s9 s10,τ=[.d (.int c),.d (.int T),.d (.int R),.d (.int C),.d (.int n),.d (.int g),.d (.lst ((adP c n g).map .int)),.o (((ox i).map (adS (adP c n g) T g)).map stD),s8,s9,s10]) b nd (fK b (aa 4) (by omega) (by omega)) fL ⟨_,_,_,rfl⟩ (λi hi τ h=>?_) λτ h=>?_
 . obtain⟨s8,s9,s10,rfl⟩:=h;have hi:i<n:=by rw[aN]at hi; omega
   have lt3:=Fs (c:=c) hg hi;have e0:(3*(i:Int)).toNat=3*i:=by omega
   have e1:(3*(i:Int)+1).toNat=3*i+1:=by omega
   have e2:(3*(i:Int)+2).toNat=3*i+2:=by omega
   have k0:atI ((adP c n g).map D.int) (3*(i:Int))=some (.int ((adP c n g).getD (3*i) 0)):=by rw[<- e0]; exact bB (by omega) (by omega)
   have k1:atI ((adP c n g).map D.int) (3*(i:Int)+1)=some (.int ((adP c n g).getD (3*i+1) 0)):=by rw[<- e1]; exact bB (by omega) (by omega)
   have k2:atI ((adP c n g).map D.int) (3*(i:Int)+2)=some (.int ((adP c n g).getD (3*i+2) 0)):=by rw[<- e2]; exact bB (by omega) (by omega)
   obtain⟨a1,a2,a3⟩:=zb (ps:=adP c n g) (k:=i) hT;refine aA 9 nd (av (a7 (bY (ab b5 (ab b5 (ab b5 af))))) (av (aa 6) (aB ae (aa 8) (bf (mkL (by decide)))) (aV k0)) (aV (BZ lt3.1 lt3.2))) ?_;refine aA 10 nd (aB (av (aa 6) (aB (aB ae (aa 8) (bf (mkL (by decide)))) ae bp) (aV k1)) (aa 1) (bP (by omega))) ?_;refine jJ (M:=λτ=>τ=[.d (.int c),.d (.int T),.d (.int R),.d (.int C),.d (.int n),.d (.int g),.d (.lst ((adP c n g).map .int)),.o (((ox i).map (adS (adP c n g) T g)).map stD),.d (.int i),.d (.str (adW (adP c n g) T i)),.d (.int (((adP c n g).getD (3*i+1) 0).fmod T))]) (PW.pt (ze (aX (aa 9) b5 Bw) λh=>(tD (aX (aa 1) ae gN)))) (λh=>?_) (λh=>?_) ?_
   . refine aA 9 nd b5 (aK ?_);have:wrd ((adP c n g).getD (3*i) 0) ≠ "weigh" /\ T=1:=by simp only[Hc,KN,decide_eq_true_eq,decide_eq_false_iff_not]at h;exact⟨h.1,by omega⟩
     unfold adW;rw[if_pos this];rfl
   . refine aK ?_;have:¬(wrd ((adP c n g).getD (3*i) 0) ≠ "weigh" /\ T=1):=λ⟨z1,z2⟩=>by rw[decide_eq_false z1,decide_eq_true (show (T:Int)=1 by omega)]at h;cases h
     unfold adW;rw[if_neg this];rfl
   . rintro _ rfl;refine jJ (M:=λτ=>τ=[.d (.int c),.d (.int T),.d (.int R),.d (.int C),.d (.int n),.d (.int g),.d (.lst ((adP c n g).map .int)),.o (((ox i).map (adS (adP c n g) T g)).map stD),.d (.int i),.d (.str (adW (adP c n g) T i)),.d (.int (adA (adP c n g) T i))]) (aX (aa 9) b5 Bw) (λh=>?_) (λh=>?_) ?_
     . have h:adW (adP c n g) T i ≠ "weigh":=by simpa using h
       have:=a3 h;refine aA 10 nd (aB (av (aa 6) (aB (aB ae (aa 8) (bf (mkL (by decide)))) ae bp) (aV k1)) (aB (aa 1) ae hU) (bP (by omega))) (aK ?_);unfold adA;rw[if_neg h];rfl
     . have h:adW (adP c n g) T i = "weigh":=by simpa using h
       refine aK ?_;unfold adA;rw[if_pos h]
     . rintro _ rfl;refine qx 7 (bz (ab (aa 9) (ab (aa 10) (ab (x_call b c_l_weight (ab (av (aa 6) (aB (aB ae (aa 8) (bf (mkL (by decide)))) ae bp) (aV k2)) (ab (aa 5) af)) ⟨_,g,rfl,hg,rfl⟩) af)))) ?_ (aK ⟨.d (.int i),.d (.str (adW (adP c n g) T i)),.d (.int (adA (adP c n g) T i)),?_⟩)
       . rw[fw,fw,Hd]; omega
       . rw[HD,GN,GN];have:((adA (adP c n g) T i).toNat:Int)=adA (adP c n g) T i:=Kw a1;show _=[_,_,_,_,_,_,_,Sl.o (_++[D.tup [.str _,.int ((adA (adP c n g) T i).toNat:Int),frD _]]),_,_,_];rw[this];rfl
 . obtain⟨s8,s9,s10,rfl⟩:=h;rw[aN,GC];exact aL (bz (ab (aa 1) (ab (aa 2) (ab (aa 3) (ab (gu 7) af))))) rfl
end
noncomputable def bkV (L:Nat->Nat->Rat)(st:Stp):Nat->Nat->Rat:=if st.1 = "weigh" then fW L st.2.1 λi=>st.2.2*L st.2.1 i else fW L (rgS st) λi=>L (rgS st) i+st.2.2*L (rgE st) i
noncomputable def bwd (ss:List Stp):Nat->Nat->Rat:=ss.reverse.foldl bkV V0
noncomputable def dot:Nat->(Nat->Rat)->(Nat->Rat)->Rat
 | 0,_,_=>0
 | T+1,f,g=>dot T f g+f T*g T
theorem p8 {f f' g g':Nat->Rat}:∀T,(∀k,k<T->f k=f' k)->(∀k,k<T->g k=g' k)->dot T f g=dot T f' g'
 | 0,_,_=>rfl
 | T+1,h,e=>by rw[dot,dot,p8 T (λk hk=>h k (by omega)) (λk hk=>e k (by omega)),h T (by omega),e T (by omega)]
theorem eF {f g:Nat->Rat}:∀T,dot T f g=dot T g f
 | 0=>rfl
 | T+1=>by rw[dot,dot,eF T,Rat.mul_comm]
theorem iV {f g:Nat->Rat}{n:Nat}{x:Rat}:∀T,n<T->dot T (λk=>if k=n then x else f k) g=dot T f g+(x-f n)*g n
 | T+1,h=>by
   rw[dot,dot];by_cases e:T=n
   . subst e;rw[if_pos rfl,p8 (f':=f) (g':=g) T (λk hk=>if_neg (by omega)) λ_ _=>rfl];grind
   . rw[if_neg e,iV T (by omega)];grind
theorem oE {g:Nat->Rat}{n:Nat}:∀T,n<T->dot T (λk=>if n=k then 1 else 0) g=g n
 | T+1,h=>by
   rw[dot];by_cases e:n=T
   . subst e
     have z:∀m,m<=n->dot m (λk=>if n=k then 1 else 0) g=0:=by
       intro m;induction m with
       | zero=>intro _; rfl
       | succ m ih=>intro hm; rw[dot,ih (by omega),if_neg (by omega)]; grind
     rw[z n (ia _),if_pos rfl];grind
   . rw[if_neg e,oE T (by omega)];grind
theorem kA (V:Nat->Nat->Rat)(n:Nat)(r:Nat->Rat)(i:Nat):(λk=>fW V n r k i)=λk=>if k=n then r i else V k i:=by funext k;unfold fW;split <;> rfl
theorem xQ {T:Nat}{V L:Nat->Nat->Rat}{st:Stp}(h:okS T st)(i j:Nat):dot T (λk=>stV V st k i) (λk=>L k j)=dot T (λk=>V k i) λk=>bkV L st k j:=by
 unfold stV bkV;by_cases e:st.1 = "weigh"
 . rw[if_pos e,if_pos e,kA,kA]
   have hn:st.2.1<T:=by
     rcases h.2 with z | z
     . exact z.2
     . have:=z.2; omega
   rw[iV T hn,eF T (g:=λk=>if k=st.2.1 then _ else _),iV T hn,eF T];grind
 . obtain⟨h1,h2,h3⟩:=CJ h e;rw[if_neg e,if_neg e,kA,kA,iV T h2,eF T (g:=λk=>if k=rgS st then _ else _),iV T h1,eF T];grind
theorem vb {T:Nat}(i j:Nat):∀(ss:List Stp) (V L:Nat->Nat->Rat),(∀st∈ss,okS T st)->dot T (λk=>ss.foldl stV V k i) (λk=>L k j)=dot T (λk=>V k i) λk=>ss.foldr (λst L=>bkV L st) L k j
 | [],_,_,_=>rfl
 | st::ss,V,L,h=>by rw[IT,List.foldr_cons,vb i j ss (stV V st) L λs hs=>h s (pq _ hs)];exact xQ (h st (rp ..)) i j
theorem zX {T:Nat}{ss:List Stp}{i j:Nat}(h:∀st∈ss,okS T st)(hi:i<T)(hj:j<T):fwd ss j i=bwd ss i j:=by
 have:=vb i j ss V0 V0 h;unfold fwd bwd;rw[List.foldl_reverse];have e1:(λk=>V0 k j)=λk=>if j=k then (1:Rat) else 0:=rfl
 have e2:(λk=>V0 k i)=λk=>if i=k then (1:Rat) else 0:=rfl
 rw[e1,eF,oE T hj,e2,oE T hi]at this;exact this
noncomputable def cA (C T:Nat)(L:Nat->Nat->Rat):List D:=(ox T).map λk=>.lst (((ox C).map (L k)).map frD)
theorem ou {C T n:Nat}{L:Nat->Nat->Rat}{r:Nat->Rat}(h:n<T):(cA C T L).set n (.lst (((ox C).map r).map frD))=cA C T (fW L n r):=by
 refine Jp (by simp[cA]) λk h1 h2=>?_;have hk:k<T:=by simpa[cA]using h2
 rw[List.getElem_set];unfold cA fW;by_cases e:n=k
 . subst e; simp
 . rw[if_neg e]; simp[Hi e]
theorem l9 {C T n:Nat}{L:Nat->Nat->Rat}(h:n<T):atI (cA C T L) (n:Int)=some (.lst (((ox C).map (L n)).map frD)):=ai (by simp[cA,h])
theorem zH {C T R:Nat}{L:Nat->Nat->Rat}(h:R<=T):cutD (cA C T L) none (some (R:Int))=cA C R L:=by rw[ig];unfold cA;rw[<- Ik,List.take_range,IY h]
structure BkI (e T C t:Nat)(P:Int)(L:Nat->Nat->Rat):Prop where
 pos:0<P
 le:P<=2^(e*t)
 zq:∀k,k<T->∀j,j<C->Zq P ((e+1)*t) (L k j)
theorem BkI.put {e T C t n:Nat}{P:Int}{L:Nat->Nat->Rat}{q:Rat}(h:BkI e T C t P L)(g:Wq e q){r:Nat->Rat}(hz:∀j,j<C->Zq (P*((q.den:Nat):Int)) ((e+1)*(t+1)) (r j)):BkI e T C (t+1) (P*((q.den:Nat):Int)) (fW L n r):=by
 refine⟨Jf h.pos (den_pos q),?_,λk hk j hj=>?_⟩
 . rw[IA,p2];exact Jj h.le (bd2 g.sq.den) (by have:=den_pos q; omega) (p0 _)
 . unfold fW;split
   . exact hz j hj
   . exact(h.zq k hk j hj).upn g
theorem BkI.start {e T C:Nat}:BkI e T C 0 1 V0:=⟨by decide,by simp,λk hk j hj=>by
 unfold V0;split
 . exact⟨1,by decide,by simp,(Iz _).symm⟩
 . exact⟨0,by decide,by simp,(Ke _).symm⟩⟩
theorem BkI.sq {e T C t:Nat}{P:Int}{L:Nat->Nat->Rat}(h:BkI e T C t P L)(hn:(e+1)*t<=1500){k j:Nat}(hk:k<T)(hj:j<C):Sq 1501 (L k j):=((h.zq k hk j hj).sq h.pos h.le (G2 _ (by omega))).mono (by omega)
theorem BkI.step {e T C t:Nat}{P:Int}{L:Nat->Nat->Rat}{st:Stp}(h:BkI e T C t P L)(g:Wq e st.2.2)(ok:okS T st):BkI e T C (t+1) (P*((st.2.2.den:Nat):Int)) (bkV L st):=by
 unfold bkV;by_cases e0:st.1 = "weigh"
 . rw[if_pos e0]
   have hn:st.2.1<T:=by
     rcases ok.2 with z | z
     . exact z.2
     . have:=z.2; omega
   exact h.put g λj hj=>((h.zq _ hn j hj).mul g).mono (by rw[IA]; omega)
 . rw[if_neg e0];obtain⟨h1,h2,h3⟩:=CJ ok e0;exact h.put g λj hj=>(((h.zq _ h1 j hj).up g).add ((h.zq _ h2 j hj).mul g)).mono (by rw[IA]; omega)
theorem FT {r:List Rat}(i:Nat)(h:i<(r.map frD).length):(r.map frD)[i]=frD (r.getD i 0):=by
 have:i<r.length:=by simpa using h
 simp[this]
theorem gI {C:Nat}{r u:Nat->Rat}:(fX (((ox C).map r).map frD) (((ox C).map u).map frD)).length=C:=by rw[b7]; simp
theorem tW {C m:Nat}(hm:m=C)(r:Nat->Rat):((ox m).map λj=>frD (r j))=((ox C).map r).map frD:=by subst hm;rw[GO];rfl
theorem FC {ss:List Stp}(i:Nat)(h:i<(ss.map stD).reverse.length):(ss.map stD).reverse[i]=stD (ss.reverse.getD i ("weigh",0,0)):=by
 have:i<ss.length:=by simpa using h
 simp[this]
def cb (ds:List D)(r:Sl):Prop:=∃(e T R C:Nat) (ss:List Stp),ds=[aI T R C ss]/\okL T R C ss/\(∀i,i<ss.length->Wq e (ss.getD i ("weigh",0,0)).2.2)/\(e+1)*ss.length<=1500/\e<=100/\r=.o (cA C R (bwd ss))
section
variable {P:Program}{w:World}{K:gV}{mg:Str->Option Value}{base:Heap}{k:Nat}{f:Addr}{fd:FuncData}{qual:Str}
theorem iw (F:Fun K "_law_ladders_table" qual (top 72) f fd)(hb:∀x∈ah,mg x=none)(c_l_times:Cal P w K mg base k "_law_times" jK)(c_l_plus:Cal P w K mg base k "_law_plus" ly):aH P w K mg base CX0 (k+1) f fd ["_law_ladder_here"] (spD K cb):=by
 refine fnD F dh hb (by rintro _ _ ⟨_,_,_,_,_,rfl,_⟩; rfl) ?_;rintro _ _ ⟨e,T,R,C,ss,rfl,h00,hw,hn,he,rfl⟩ cdv A outer s H E b;have nd:=dh.nd;have hT:=h00.t7;have hRT:=h00.rT;have hCT:=h00.cT;refine B4 (aa 0) (yA b.calm (cP 1 nd (cP 2 nd (cP 3 nd (cP 4 nd sC))))) ?_;refine tI 5 nd (cmp 0 (f:=λk=>.lst ((ox (jB 0 (C:Int).toNat).length).map λj=>frD (V0 k j))) b (fK b (aa 1) (by omega) (by omega)) fL (by rw[aN]; omega) λk hk s0 H0 fp=>a7 (cR (cmp 0 (f:=λj=>frD (V0 k j)) (b.comp s0 H0 _ fp) (fK (b.comp s0 H0 _ fp) (aa 1) (by omega) (by omega)) fL (by rw[aN]; omega) λj hj s1 H1 fq=>?_))) (.inl rfl) ?_
 . have ev:frD (V0 k j)=.tup [.int (if decide ((j:Int)=(k:Int)) then 1 else 0),.int 1]:=by
     unfold V0;by_cases z:j=k
     . rw[if_pos z,decide_eq_true (by omega)]; rfl
     . rw[if_neg z,decide_eq_false (by omega)]; rfl
   rw[ev];exact bz (ab (kR ((b.comp s0 H0 _ fp).comp s1 H1 _ fq) (ab (cc (aa 0) (aa 1) gN) af) qh) (ab ae af))
 have el:((ox (jB 0 (T:Int).toNat).length).map λk=>D.lst ((ox (jB 0 (C:Int).toNat).length).map λj=>frD (V0 k j)))=cA C T V0:=by rw[aN,aN,GC,GC];unfold cA;exact GY λk _=>by rw[GO]; rfl
 rw[el];have rl:(ss.map stD).reverse.length=ss.length:=by simp
 refine BM (λi τ=>∃P s6 s7 s8,BkI e T C i P ((ss.reverse.take i).foldl bkV V0)/\τ=[.d (aI T R C ss),.d (.int T),.d (.int R),.d (.int C),.d (.lst (ss.map stD)),.o (cA C T ((ss.reverse.take i).foldl bkV V0)),s6,s7,s8])
   (λi τ=>((τ.set 6 (.d (.str (ss.reverse.getD i ("weigh",0,0)).1))).set 7 (.d (.int ((ss.reverse.getD i ("weigh",0,0)).2.1:Nat)))).set 8 (.d (frD (ss.reverse.getD i ("weigh",0,0)).2.2))) b (Ft b (aa 4)) (λi hi τ _=>by rw[FC i hi]; exact yA b.calm (cP 6 nd (cP 7 nd (cP 8 nd sC)))) ⟨1,.un,.un,.un,BkI.start,rfl⟩ (λi hi τ h=>?_) λτ h=>?_
 . obtain⟨P,s6,s7,s8,I,rfl⟩:=h;have hi:i<ss.length:=by rw[rl]at hi; exact hi
   have hn':(e+1)*i<=1500:=GB (IL _ (by omega)) hn;have hn2:(e+1)*(i+1)<=1500:=GB (IL _ (by omega)) hn;have ei:ss.reverse.getD i ("weigh",0,0)=ss.getD (ss.length-1-i) ("weigh",0,0):=by simp[JN,List.getElem?_reverse hi]
   have g:Wq e (ss.reverse.getD i ("weigh",0,0)).2.2:=by rw[ei]; exact hw _ (by omega)
   have ok:okS T (ss.reverse.getD i ("weigh",0,0)):=by rw[ei]; exact h00.st _ (by omega)
   have nx:∀V,(ss.reverse.take (i+1)).foldl bkV V=bkV ((ss.reverse.take i).foldl bkV V) (ss.reverse.getD i ("weigh",0,0)):=λV=>by rw[take_snoc (("weigh",0,0):Stp) (show i<ss.reverse.length by simpa using hi),Hm]; rfl
   rw[nx];have I2:=I.step g ok;have sqL:∀k,k<T->∀j,j<C->Sq 1501 ((ss.reverse.take i).foldl bkV V0 k j):=λk hk j hj=>I.sq hn' hk hj;generalize (ss.reverse.take i).foldl bkV V0=V at *
   generalize ss.reverse.getD i ("weigh",0,0)=st at *
   obtain⟨u,n,q⟩:=st;have sq:Sq 100 q:=g.sq.mono he;have ll:(cA C T V).length=T:=by simp[cA]
   have sqm:∀k,k<T->∀j,j<C->Sq 1601 (q*V k j):=λk hk j hj=>(sq.mul (sqL k hk j hj)).mono (by decide);refine jJ (M:=λτ=>∃P s6 s7 s8,BkI e T C (i+1) P (bkV V (u,n,q))/\τ=[.d (aI T R C ss),.d (.int T),.d (.int R),.d (.int C),.d (.lst (ss.map stD)),.o (cA C T (bkV V (u,n,q))),s6,s7,s8]) (aX (aa 6) b5 nV) (λh=>?_) (λh=>?_) λτ h=>aK h
   . obtain rfl:=of_decide_eq_true h
     have hnT:n<T:=by
       rcases ok.2 with z | z
       . exact z.2
       . have:=z.2; simp only at this; omega
     refine nA 5 (xs:=cA C T V) (j:=n) (aa 7) (a7 (cR (cmp 0 (f:=λj=>frD (q*V n j)) b (a9 (gZ 5 (aa 7) (l9 hnT))) FT (by simp; omega) λj hj s0 H0 fp=>?_))) (by rw[ll]; exact jx hnT) (aK ⟨_,.d (.str "weigh"),.d (.int n),.d (frD q),I2,?_⟩)
     . have hj:j<C:=by simpa using hj
       rw[eG _ hj];exact x_call (b.comp s0 H0 _ fp) c_l_times (ab (aa 1) (ab (aa 0) af)) ⟨100,1501,q,V n j,rfl,sq,sqL n hnT j hj,by decide,rfl⟩
     . rw[tW (C:=C) (by simp) λj=>q*V n j];show [_,_,_,_,_,Sl.o ((cA C T V).set n _),_,_,_]=_;rw[ou hnT];rfl
   . have h0:u ≠ "weigh":=of_decide_eq_false h
     have hnT:n+1<T:=by
       rcases ok.2 with z | z
       . exact absurd z.1 h0
       . exact z.2
     have hnT':n<T:=by omega
     refine jJ (M:=λτ=>∃P s6 s7 s8,BkI e T C (i+1) P (bkV V (u,n,q))/\τ=[.d (aI T R C ss),.d (.int T),.d (.int R),.d (.int C),.d (.lst (ss.map stD)),.o (cA C T (bkV V (u,n,q))),s6,s7,s8]) (aX (aa 6) b5 nV) (λh=>?_) (λh=>?_) λτ h=>aK h
     . obtain rfl:=of_decide_eq_true h;have eb:bkV V ("down",n,q)=fW V n λj=>V n j+q*V (n+1) j:=by unfold bkV;rw[if_neg h0];rfl
       refine nA 5 (xs:=cA C T V) (j:=n) (aa 7) (a7 (cR (zJ 0 1 (f:=λj=>frD (V n j+q*V (n+1) j)) b (u5 b (gZ 5 (aa 7) (l9 hnT')) (gZ 5 (aB (aa 7) ae bp) (l9 hnT))) Bt (by rw[gI]; omega) λj hj s0 H0 fp=>?_))) (by rw[ll]; exact jx hnT') (aK ⟨_,.d (.str "down"),.d (.int n),.d (frD q),I2,?_⟩)
       . have hj:j<C:=by rw[gI]at hj; exact hj
         rw[eG _ hj,eG _ hj];exact x_call (b.comp s0 H0 _ fp) c_l_plus (ab (aa 0) (ab (x_call (b.comp s0 H0 _ fp) c_l_times (ab (aa 2) (ab (aa 1) af)) ⟨100,1501,q,V (n+1) j,rfl,sq,sqL _ hnT j hj,by decide,rfl⟩) af)) ⟨1501,1601,V n j,q*V (n+1) j,rfl,sqL _ hnT' j hj,sqm _ hnT j hj,by decide,rfl⟩
       . rw[tW gI λj=>V n j+q*V (n+1) j,eb];show [_,_,_,_,_,Sl.o ((cA C T V).set n _),_,_,_]=_;rw[ou hnT']
     . have h1:u ≠ "down":=of_decide_eq_false h;have eb:bkV V (u,n,q)=fW V (n+1) λj=>V (n+1) j+q*V n j:=by unfold bkV rgS rgE;rw[if_neg h0,if_neg h1,if_neg h1]
       refine nA 5 (xs:=cA C T V) (j:=n+1) (aB (aa 7) ae bp) (a7 (cR (zJ 0 1 (f:=λj=>frD (V (n+1) j+q*V n j)) b (u5 b (gZ 5 (aa 7) (l9 hnT')) (gZ 5 (aB (aa 7) ae bp) (l9 hnT))) Bt (by rw[gI]; omega) λj hj s0 H0 fp=>?_))) (by rw[ll]; exact jx hnT) (aK ⟨_,.d (.str u),.d (.int n),.d (frD q),I2,?_⟩)
       . have hj:j<C:=by rw[gI]at hj; exact hj
         rw[eG _ hj,eG _ hj];exact x_call (b.comp s0 H0 _ fp) c_l_plus (ab (aa 1) (ab (x_call (b.comp s0 H0 _ fp) c_l_times (ab (aa 2) (ab (aa 0) af)) ⟨100,1501,q,V n j,rfl,sq,sqL _ hnT' j hj,by decide,rfl⟩) af)) ⟨1501,1601,V (n+1) j,q*V n j,rfl,sqL _ hnT j hj,sqm _ hnT' j hj,by decide,rfl⟩
       . rw[tW gI λj=>V (n+1) j+q*V n j,eb];show [_,_,_,_,_,Sl.o ((cA C T V).set (n+1) _),_,_,_]=_;rw[ou hnT]
 . obtain⟨P,s6,s7,s8,I,rfl⟩:=h;rw[rl,Gx (by simp)];refine jE 5 (aL (vP (aa 5) dH (cL (aa 2))) ?_);rw[zH hRT];rfl
end
theorem uP {T R C:Nat}{ss:List Stp}(h:okL T R C ss):∀s∈ss,okS T s:=λs hs=>by obtain⟨i,hi,rfl⟩:=Jx hs;have:=h.st i hi;simpa[hi]using this
def cQ (ds:List D)(r:Sl):Prop:=∃(T R C:Nat) (ss ss':List Stp),ds=[aI T R C ss,.lst (ss'.map stD)]/\r=.d (aI T R C ss')
def uZ (ds:List D)(r:Sl):Prop:=∃(T R C:Nat) (ss:List Stp),ds=[aI T R C ss]/\r=.d (aI T R C ss)
def l4 (ds:List D)(r:Sl):Prop:=∃(T R C:Nat) (ss:List Stp),ds=[aI T R C ss]/\r=.d (aI T R C ss)
section
variable {P:Program}{w:World}{K:gV}{mg:Str->Option Value}{base:Heap}{k:Nat}{f:Addr}{fd:FuncData}{qual:Str}
theorem mC (F:Fun K "with_steps" qual (top 55) f fd)(hb:∀x∈ah,mg x=none):aH P w K mg base CX0 (k+1) f fd ["ladder","steps"] (spD K cQ):=by refine fnD F gX hb (by rintro _ _ ⟨_,_,_,_,_,rfl,_⟩; rfl) ?_;rintro _ _ ⟨T,R,C,ss,ss',rfl,rfl⟩ cdv A outer s H E b;exact aL (bz (ab (av (aa 0) ae (aq (ai (i:=0) rfl))) (ab (av (aa 0) ae (aq (ai (i:=1) rfl))) (ab (av (aa 0) ae (aq (ai (i:=2) rfl))) (ab (aa 1) af))))) rfl
theorem Ds (F:Fun K "own" qual (top 56) f fd)(hb:∀x∈ah,mg x=none)(c_with_steps:Cal P w K mg base k "with_steps" cQ):aH P w K mg base CX0 (k+1) f fd ["ladder"] (spD K uZ):=by refine fnD F xK hb (by rintro _ _ ⟨_,_,_,_,rfl,_⟩; rfl) ?_;rintro _ _ ⟨T,R,C,ss,rfl,rfl⟩ cdv A outer s H E b;exact aL (x_call b c_with_steps (ab (aa 0) (ab (a7 (kR b (ab (av (aa 0) ae (aq (ai (i:=3) rfl))) af) pP)) af)) ⟨T,R,C,ss,ss,rfl,rfl⟩) rfl
theorem wQ (F:Fun K "_law_copy" qual (top 77) f fd)(hb:∀x∈ah,mg x=none):aH P w K mg base CX0 (k+1) f fd ["_law_ladder_here"] (spD K l4):=by refine fnD F wX hb (by rintro _ _ ⟨_,_,_,_,rfl,_⟩; rfl) ?_;rintro _ _ ⟨T,R,C,ss,rfl,rfl⟩ cdv A outer s H E b;exact aL (bz (ab (av (aa 0) ae (aq (ai (i:=0) rfl))) (ab (av (aa 0) ae (aq (ai (i:=1) rfl))) (ab (av (aa 0) ae (aq (ai (i:=2) rfl))) (ab (a7 (kR b (ab (av (aa 0) ae (aq (ai (i:=3) rfl))) af) pP)) af))))) rfl
end
mutual
theorem eD:∀x:D,Ev.eqD x x=true
 | .non=>by rw[Ev.eqD]
 | .bl a=>by simp[Ev.eqD]
 | .int a=>by simp[Ev.eqD]
 | .str a=>by simp[Ev.eqD]
 | .tup xs=>by rw[Ev.eqD]; exact jG xs
 | .lst xs=>by rw[Ev.eqD]; exact jG xs
 | .box x=>by rw[Ev.eqD]
theorem jG:∀xs:List D,Ev.jI xs xs=true
 | []=>by rw[Ev.jI]
 | x::xs=>by rw[Ev.jI,eD x,jG xs]; rfl
end
theorem vF:∀r:List Rat,Ev.cW (r.map frD)=true/\Ev.dX (r.map frD)<=1
 | []=>by simp[Ev.cW,Ev.dX]
 | x::r=>by
   obtain⟨h1,h2⟩:=vF r;rw[GP,Ev.cW,Ev.dX,h1,frD];refine⟨by simp[Ev.cln,Ev.cW],?_⟩;have:Ev.dep (.tup [.int x.num,.int (x.den:Nat)])=1:=by simp[Ev.dep,Ev.dX]
   rw[this];omega
theorem uN:∀m:List (List Rat),Ev.cW (m.map λr=>.lst (r.map frD))=true/\Ev.dX (m.map λr=>.lst (r.map frD))<=2
 | []=>by simp[Ev.cW,Ev.dX]
 | r::m=>by obtain⟨h1,h2⟩:=uN m;obtain⟨h3,h4⟩:=vF r;rw[GP,Ev.cW,Ev.dX,h1,Ev.cln,Ev.dep,h3];exact⟨rfl,by omega⟩
theorem yr (m:List (List Rat)):Ev.eX (kh m):=by obtain⟨h1,h2⟩:=uN m;unfold kh Ev.eX;rw[Ev.cln,Ev.dep,h1];exact⟨rfl,by omega⟩
theorem C6 {T:Nat}{s:Stp}(h:okS T s):Ev.cln (stD s)=true/\Ev.dep (stD s)<=2:=by
 obtain⟨u,n,q⟩:=s
 have hu:J2 u=true:=by
   rcases h.2 with z | z
   . obtain rfl:u = "weigh":=z.1;decide +kernel
   . rcases z.1 with y | y
     . obtain rfl:u = "down":=y;decide +kernel
     . obtain rfl:u = "up":=y;decide +kernel
 simp[stD,frD,Ev.cln,Ev.cW,Ev.dep,Ev.dX,hu]
theorem pG {T:Nat}:∀(ss:List Stp),(∀s∈ss,okS T s)->Ev.cW (ss.map stD)=true/\Ev.dX (ss.map stD)<=2
 | [],_=>by simp[Ev.cW,Ev.dX]
 | s::ss,h=>by obtain⟨h1,h2⟩:=C6 (h s (rp ..));obtain⟨h3,h4⟩:=pG ss λs hs=>h s (pq _ hs);rw[GP,Ev.cW,Ev.dX,h1,h3];exact⟨rfl,by omega⟩
theorem pe {T R C:Nat}{ss:List Stp}(h:okL T R C ss):Ev.eX (aI T R C ss):=by obtain⟨h1,h2⟩:=pG ss (uP h);unfold aI Ev.eX;simp only[Ev.cln,Ev.cW,Ev.dep,Ev.dX,h1];refine⟨rfl,by omega⟩
theorem rD (xs:List D):mG (xs.map .d)=xs:=by
 induction xs with
 | nil=>rfl
 | cons x xs ih=>rw[GP,mG,ndD,ih]
theorem nr {α:Type}(f:α->List Nd):∀t:List α,mG (t.map λr=>.l (f r))=t.map λr=>D.lst (mG (f r))
 | []=>rfl
 | r::t=>by rw[GP,mG,ndD,nr f t]; rfl
theorem yp (t:List (List Rat)):ndD (y8 t)=kh t:=by unfold y8 kh;rw[ndD,nr];congr 1;exact GY λr _=>by rw[rD]
theorem x9 (C R:Nat)(L:Nat->Nat->Rat):D.lst (cA C R L)=kh (cO C R λj i=>L i j):=by unfold cA kh cO;rw[GO];rfl
theorem zV {T R C:Nat}{ss:List Stp}(h:okL T R C ss):D.lst (cA C R (bwd ss))=kh (cO C R (fwd ss)):=by have h1:=h.rT;have h2:=h.cT;rw[x9];congr 1;unfold cO;refine GY λi hi=>GY λj hj=>?_;have hi:=GQ.mp hi;have hj:=GQ.mp hj;exact(zX (uP h) (by omega) (by omega)).symm
theorem ql:∀ss:List Str,(∀s∈ss,J2 s=true)->Ev.cW (ss.map .str)=true/\Ev.dX (ss.map .str)=0
 | [],_=>by simp[Ev.cW,Ev.dX]
 | s::ss,h=>by obtain⟨h1,h2⟩:=ql ss λx hx=>h x (pq _ hx);rw[GP,Ev.cW,Ev.dX,h1,h2];exact⟨by simp[Ev.cln,h s (rp ..)],by simp[Ev.dep]⟩
theorem zQ {ss:List Str}(h:∀s∈ss,J2 s=true):Ev.eX (.lst (ss.map .str)):=by obtain⟨h1,h2⟩:=ql ss h;exact⟨by rw[Ev.cln]; exact h1,by rw[Ev.dep,h2]; decide⟩
end K67
namespace L2
open PySem PySem.Spec PyProof.Rows
section
variable {κ:Type}[DecidableEq κ]
noncomputable def cG (kvs:List (κ×V))(k:κ):Option V:=(kvs.find? λkv=>decide (kv.1=k)).map (·.2)
noncomputable def putK (kvs:List (κ×V))(k:κ)(v:V):List (κ×V):=if (kvs.any λkv=>decide (kv.1=k))=true then kvs.map (λkv=>if kv.1=k then (kv.1,v) else kv) else kvs++[(k,v)]
theorem bC {p:κ×V}{r:List (κ×V)}{k:κ}(e:p.1=k):cG (p::r) k=some p.2:=by simp[cG,HU,e]
theorem bG {p:κ×V}{r:List (κ×V)}{k:κ}(e:¬p.1=k):cG (p::r) k=cG r k:=by simp[cG,HU,e]
theorem kH (k:κ):∀kvs:List (κ×V),(kvs.any λkv=>decide (kv.1=k))=(cG kvs k).isSome
 | []=>rfl
 | p::r=>by
   rw[IU];by_cases e:p.1=k
   . simp only[bC e,decide_eq_true e,Bool.true_or,Option.isSome_some]
   . rw[bG e,decide_eq_false e,Bool.false_or]; exact kH k r
theorem qV (k j:κ)(y:V):∀kvs:List (κ×V),cG (kvs.map λkv=>if kv.1=k then (kv.1,y) else kv) j=(cG kvs j).map λx=>if j=k then y else x
 | []=>rfl
 | p::r=>by
   have ih:=qV k j y r;rw[GP];by_cases h:p.1=k
   . rw[if_pos h];by_cases e:p.1=j
     . rw[bC (p:=(p.1,y)) e,bC e,HN,if_pos (e.symm.trans h)]
     . rw[bG (p:=(p.1,y)) e,bG e,ih]
   . rw[if_neg h];by_cases e:p.1=j
     . rw[bC (p:=p) e,bC e,HN,if_neg (λz=>h (e.trans z))]
     . rw[bG (p:=p) e,bG e,ih]
theorem m8 (k j:κ)(y:V):∀kvs:List (κ×V),cG kvs k=none->cG (kvs++[(k,y)]) j=if j=k then some y else cG kvs j
 | [],_=>by
   by_cases e:k=j
   . rw[if_pos e.symm]; exact bC (p:=(k,y)) e
   . rw[if_neg (λz=>e z.symm)]; exact bG (p:=(k,y)) e
 | p::r,hn=>by
   rw[Hq];have hk:¬p.1=k:=λz=>by rw[bC z]at hn; cases hn
   rw[bG hk]at hn;have ih:=m8 k j y r hn;by_cases e:p.1=j
   . rw[bC e,bC e,if_neg (λz=>hk (e.trans z))]
   . rw[bG e,bG e,ih]
theorem iN (kvs:List (κ×V))(k j:κ)(y:V):cG (putK kvs k y) j=if j=k then some y else cG kvs j:=by
 unfold putK;by_cases a:(kvs.any λkv=>decide (kv.1=k))=true
 . rw[if_pos a,qV];rw[kH]at a;by_cases e:j=k
   . obtain⟨x,hx⟩:=Lj.mp a;rw[if_pos e,e,hx,HN,if_pos rfl]
   . rw[if_neg e];cases cG kvs j with
     | none=>rfl
     | some x=>rw[HN,if_neg e]
 . rw[if_neg a];refine m8 k j y kvs ?_;rw[kH]at a;cases q:cG kvs k with
   | none=>rfl
   | some x=>rw[q]at a; exact(a rfl).elim
theorem jY (kvs:List (κ×V))(k:κ)(v:V):(putK kvs k v).length<=kvs.length+1:=by
 unfold putK;split
 . rw[fw]; omega
 . rw[vp,GK,Kc]; omega
theorem gS.nE {o:Option V}{u:Option Value}(r:gS o u):o.isSome=u.isSome:=by
 cases o with
 | none=>cases u with
   | none=>rfl
   | some _=>exact(show False from r).elim
 | some _=>cases u with
   | none=>exact(show False from r).elim
   | some _=>rfl
theorem gS.getD {o:Option V}{u:Option Value}{d:V}{d':Value}(r:gS o u)(rd:RelV d d'):RelV (o.getD d) (u.getD d'):=by
 cases o with
 | none=>cases u with
   | none=>exact rd
   | some _=>exact(show False from r).elim
 | some _=>cases u with
   | none=>exact(show False from r).elim
   | some _=>exact r
theorem KV.val {kvs:List (κ×V)}{vs:List (κ×Value)}(r:KV kvs vs)(k:κ):gS (cG kvs k) (valueAt vs k):=by
 unfold KV at r;induction r with
 | nil=>exact HL
 | @cons p q ps qs h t ih=>
   obtain⟨h1,h2⟩:=h;by_cases e:p.1=k
   . have e':q.1=k:=h1.symm.trans e;have b:valueAt (q::qs) k=some q.2:=by simp[valueAt,HU,e']
     rw[bC e,b]; exact h2
   . have e':¬q.1=k:=λz=>e (h1.trans z);have b:valueAt (q::qs) k=valueAt qs k:=by simp[valueAt,HU,e']
     rw[bG e,b]; exact ih
theorem KV.any {kvs:List (κ×V)}{vs:List (κ×Value)}(r:KV kvs vs)(k:κ):(kvs.any λkv=>decide (kv.1=k))=vs.any λkv=>decide (kv.1=k):=by
 unfold KV at r;induction r with
 | nil=>rfl
 | cons h t ih=>rw[IU,IU,ih,h.1]
theorem KV.FV {kvs:List (κ×V)}{vs:List (κ×Value)}(r:KV kvs vs)(k:κ){y:V}{u:Value}(ry:RelV y u):
   KV (kvs.map λkv=>if kv.1=k then (kv.1,y) else kv) (vs.map λkv=>if kv.1=k then (kv.1,u) else kv):=by
 unfold KV at r ⊢;induction r with
 | nil=>exact .nil
 | @cons p q ps qs h t ih=>
   rw[GP,GP];refine .cons ?_ ih;obtain⟨h1,h2⟩:=h;by_cases e:p.1=k
   . rw[if_pos e,if_pos (h1.symm.trans e)]; exact⟨h1,ry⟩
   . rw[if_neg e,if_neg (λz=>e (h1.trans z))]; exact⟨h1,h2⟩
theorem KV.put {kvs:List (κ×V)}{vs:List (κ×Value)}(r:KV kvs vs)(k:κ){y:V}{u:Value}(ry:RelV y u):KV (putK kvs k y) (stored vs k u):=by
 unfold putK stored;rw[r.any k];by_cases e:(vs.any λkv=>decide (kv.1=k))=true
 . rw[if_pos e,if_pos e]; exact r.FV k ry
 . rw[if_neg e,if_neg e]; exact Paired.snoc r ⟨rfl,ry⟩
theorem KV.keys {kvs:List (κ×V)}{vs:List (κ×Value)}(r:KV kvs vs):kvs.map (·.1)=vs.map (·.1):=by
 unfold KV at r;induction r with
 | nil=>rfl
 | cons h t ih=>rw[GP,GP,ih,h.1]
theorem KV.length {kvs:List (κ×V)}{vs:List (κ×Value)}(r:KV kvs vs):kvs.length=vs.length:=Paired.length r
end
theorem lg {P:Program}{w:World}{k:Key}{u:Value}(r:RelV (kV k) u):(bb P w).is k u=true:=by
 cases k with
 | inl i=>obtain⟨t,e⟩:=(show ∃t,u=K6 i t from r); subst e; exact qX P w i t
 | inr x=>obtain⟨t,e⟩:=(show ∃t,u=K5 x t from r); subst e; exact qT P w x t
section
variable {P:Program}{w:World}{H:Hp}{h:Heap}{a:Addr}
theorem Fd {u:HO}(ok:HOk P w H h)(e:Rd H a u):bj P w H h a u:=e.ok ok
theorem jQ {kvs:List (Key×V)}(ok:HOk P w H h)(e:Rd H a (.dK kvs)):kvs.length<=sizeLine/\(a==sysModules)=false/\∃vs,KV kvs vs/\h.DictOf (bb P w) a vs:=show bj P w H h a (.dK kvs) from Fd ok e
theorem rG {kvs:List (Key×V)}(ok:HOk P w H h)(e:H a=some (.dK kvs)):kvs.length<=sizeLine/\(a==sysModules)=false/\∃vs,KV kvs vs/\h.DictOf (bb P w) a vs:=jQ ok (.inl e)
end
def fS (H:Hp)(a:Addr)(y:V)(r:Option V):Prop:=∃kvs k,Rd H a (.dK kvs)/\y=kV k/\r=cG kvs k
def yi (H:Hp)(a:Addr)(y v:V)(H':Hp):Prop:=∃kvs k,H a=some (.dK kvs)/\y=kV k/\kvs.length<sizeLine/\H'=upd H a (.dK (putK kvs k v))
theorem fS.k {H:Hp}{a:Addr}{kvs:List (Key×V)}{k:Key}(e:H a=some (.dK kvs)):fS H a (kV k) (cG kvs k):=⟨kvs,k,.inl e,rfl,rfl⟩
theorem yi.k {H:Hp}{a:Addr}{kvs:List (Key×V)}{k:Key}{v:V}(e:H a=some (.dK kvs))(hl:kvs.length<sizeLine):yi H a (kV k) v (upd H a (.dK (putK kvs k v))):=⟨kvs,k,e,rfl,hl,rfl⟩
section
variable {X:Cx}{pins:List (Addr×Obj)}{σ:St}{H:Hp}{s:Shared}{a:Addr}{y v:V}{u r:Value}{o:Option V}{A:Around}{E:Value->Shared->Prop}
theorem Inv.big (I:Inv X pins σ H s):sysModules<s.heap.objs.size:=by have h:mainGlobals<s.heap.objs.size:=(I.mod.glob.keeps I.bk).lt;exact HP (by decide) h
theorem wO {Q:Value->Shared->Prop}(hu:A.units+1<cLine)(I:Inv X pins σ H s)(g:fS H a y (some v))(ry:RelV y u)(h:∀w' s',Inv X pins σ H s'->RelV v w'->Q w' s'):
   wpAny (model X.prog X.w) A (getItem (.ref a) u) Q E s:=by
 obtain⟨kvs,k,e,ey,l⟩:=g;subst ey;obtain⟨z,hd,vs,rel,dd⟩:=jQ I.hok e;obtain⟨w',hw,rw'⟩:=gS.some_of (v:=v) (o:=valueAt vs k) (by rw[l]; exact rel.val k);exact wpAny_getItem_of (lg ry) dd.mapOf hw (h w' _ (I.tok _) rw')
theorem F5 {Q:Value->Shared->Prop}(hu:A.units+1<cLine)(I:Inv X pins σ H s)(g:fS H a y o)(ry:RelV y u)(h:∀s',Inv X pins σ H s'->Q (.bool o.isSome) s'):
   wpAny (model X.prog X.w) A (compareOp .In u (.ref a)) Q E s:=by
 obtain⟨kvs,k,e,ey,l⟩:=g;subst ey;obtain⟨z,hd,vs,rel,dd⟩:=jQ I.hok e;refine wpAny_in_of (lg ry) hd dd.mapOf ?_;rw[<- (rel.val k).nE,<- l];exact h _ (I.tok _)
theorem AX {Q:Value->Shared->Prop}(hu:A.units+1<cLine)(I:Inv X pins σ H s)(g:fS H a y o)(ry:RelV y u)(h:∀s',Inv X pins σ H s'->Q (.bool (!o.isSome)) s'):
   wpAny (model X.prog X.w) A (compareOp .NotIn u (.ref a)) Q E s:=by
 obtain⟨kvs,k,e,ey,l⟩:=g;subst ey;obtain⟨z,hd,vs,rel,dd⟩:=jQ I.hok e;refine wpAny_notIn_of (lg ry) hd dd.mapOf ?_;rw[<- (rel.val k).nE,<- l];exact h _ (I.tok _)
theorem eY {h':Heap}{t':Nat}{ob:HO}(I:Inv X pins σ H s)(mu:Mut (H a))(hs:Jh a s.heap h')(he:∃q,h'.get? a=some q)(new:bj X.prog X.w (upd H a ob) h' a ob):
   Inv X pins σ (upd H a ob) { s with heap:=h',toks:=t' }:=
 I.write (x:=a) (e:=a) mu (.inl rfl) (λb q hb z=>(hs.2 b hb).trans z) he new
theorem oJ {P:Program}{w:World}{H':Hp}{h':Heap}{kvs:List (Key×V)}{vs:List (Key×Value)}(z:kvs.length<=sizeLine)(hd:(a==sysModules)=false)(rel:KV kvs vs)(dd:h'.DictOf (bb P w) a vs):
   bj P w H' h' a (.dK kvs):=⟨z,hd,vs,rel,dd⟩
theorem vK {H':Hp}{Q:Unit->Shared->Prop}(hu:A.units+1<cLine)(I:Inv X pins σ H s)(g:yi H a y v H')(ry:RelV y u)(rv:RelV v r)(h:∀s',Inv X pins σ H' s'->Q () s'):
   wpAny (model X.prog X.w) A (setItem (.ref a) u r) Q E s:=by
 obtain⟨kvs,k,e,ey,l,eH⟩:=g;subst ey eH;obtain⟨z,hd,vs,rel,dd⟩:=rG I.hok e;have hz:vs.length<=sizeLine:=by rw[<- rel.length]; exact z
 have hl:(putK kvs k v).length<=sizeLine:=by have:=jY kvs k v; omega
 refine wpAny_setItem_pairs (hsz:=hz) (lg ry) dd λh' dd' hs=>h _ ?_;have he:∃q,h'.get? a=some q:=let ⟨q,_,_,hq,_⟩:=dd'; ⟨q,hq⟩
 exact eY I (by rw[e]; exact HL) hs he (oJ hl hd (rel.put k rv) dd')
end
def k6 (i:Expr):Prop:=∀ov iv,subscripted i false ov iv=operate [ov,iv] (getItem ov iv)
theorem oM {prog:Program}{w:World}{A:Around}{E:Value->Shared->Prop}{s:Shared}{env:Env}{value slice:Expr}{pos:Pos}{T id:String}{Q:Value->Shared->Prop}
   (hl:typeLookup (.type T) "__getitem__" = pure (some (.builtin id))) (hs:k6 slice)
   (h:wpAny (model prog w) A (eval value env) (λo s₁=>wpAny (model prog w) A (eval slice env) (λi s₂=>s₂.TypeIs o T/\wpAny (model prog w) A (getItem o i) Q E s₂) E s₁) E s) :
   wpAny (model prog w) A (eval (.Subscript value slice pos) env) Q E s:=by
 refine Subscript_ (wpAny_mono h (λo s₁ h₁=>wpAny_mono h₁ (λi s₂ h₂=>?_) λ_ _ x=>x) λ_ _ x=>x);obtain⟨hT,h₂⟩:=h₂;unfold subscriptTail;refine wpAny_bind ?_;rw[getitemInPython_of_ne hT.not_modules];refine wpAny_bind (wpAny_specialOf hT hl ?_);have fin:wpAny (model prog w) A (subscripted slice false o i) (λr s₃=>wpAny (model prog w) A (letTemporaryGo value o r >>= λ_=>pure r) Q E s₃) E s₂:=by rw[hs o i];exact wpAny_operating (wpAny_mono h₂ (λr s₃ h₃=>wpAny_bind (wpAny_letTemporaryGo (wpAny_pure h₃))) λ_ _ x=>x)
 first
   | exact wpAny_pure (wpAny_bind fin)
   | exact wpAny_bind (wpAny_pure (wpAny_bind fin))
   | exact wpAny_bind fin
theorem qj {X:Cx}{pins:List (Addr×Obj)}{σ:St}{H:Hp}{s:Shared}{a:Addr}{y:V}{o:Option V}(I:Inv X pins σ H s)(g:fS H a y o):s.TypeIs (.ref a) "dict":=by obtain⟨kvs,k,e,_,_⟩:=g;obtain⟨_,_,vs,_,dd⟩:=jQ I.hok e;exact dd.typeIs
def EJ (td ty:TE):TE:=λσ H Q=>td σ H λx H1=>ty σ H1 λy H2=>∃a v,x=.ref a/\fS H2 a y (some v)/\Q v H2
def FI (ty td:TE):TE:=λσ H Q=>ty σ H λy H1=>td σ H1 λx H2=>∃a o,x=.ref a/\fS H2 a y o/\Q (.bl o.isSome) H2
def A8 (ty td:TE):TE:=λσ H Q=>ty σ H λy H1=>td σ H1 λx H2=>∃a o,x=.ref a/\fS H2 a y o/\Q (.bl (!o.isSome)) H2
def E3 (td ty tv:TE):TS:=λD σ H=>tv σ H λv H1=>td σ H1 λx H2=>ty σ H2 λy H3=>∃a H4,x=.ref a/\yi H3 a y v H4/\D.nx σ H4
section
variable {X:Cx}{o i value:Expr}{pos pos':Pos}{td ty tv:TE}
theorem vj (hu:X.A.units+1<cLine)(ho:PE X o td)(hi:PE X i ty)(hs:k6 i):PE X (.Subscript o i pos) (EJ td ty):=by intro pins s σ H Q I h;refine oM PySem.F.slot_dict_getitem.lookup hs (thn (ho pins s σ H _ I h) λu s1 ⟨x,H1,I1,rx,q1⟩=>thn (hi pins s1 σ H1 _ I1 q1) λiv s2 ⟨y,H2,I2,ry,a,v,ex,g,q2⟩=>?_);subst ex;obtain rfl:u=GI a:=rx;exact⟨qj I2 g,wO hu I2 g ry λw' s3 I3 rw'=>⟨v,H2,I3,rw',q2⟩⟩
theorem Dg (hu:X.A.units+1<cLine)(hi:PE X i ty)(ho:PE X o td):PC X .In i o (FI ty td):=by intro pins s σ H Q I h;refine thn (hi pins s σ H _ I h) λiv s1 ⟨y,H1,I1,ry,q1⟩=>thn (ho pins s1 σ H1 _ I1 q1) λu s2 ⟨x,H2,I2,rx,a,ov,ex,g,q2⟩=>?_;subst ex;obtain rfl:u=GI a:=rx;exact F5 hu I2 g ry λs3 I3=>⟨.bl ov.isSome,H2,I3,rfl,q2⟩
theorem v9 (hu:X.A.units+1<cLine)(hi:PE X i ty)(ho:PE X o td):PC X .NotIn i o (A8 ty td):=by intro pins s σ H Q I h;refine thn (hi pins s σ H _ I h) λiv s1 ⟨y,H1,I1,ry,q1⟩=>thn (ho pins s1 σ H1 _ I1 q1) λu s2 ⟨x,H2,I2,rx,a,ov,ex,g,q2⟩=>?_;subst ex;obtain rfl:u=GI a:=rx;exact AX hu I2 g ry λs3 I3=>⟨.bl (!ov.isSome),H2,I3,rfl,q2⟩
theorem ur (hu:X.A.units+1<cLine)(ho:PE X o td)(hi:PE X i ty)(hv:PE X value tv)(hs:swapsWith value (some (.Subscript o i pos')) pos.line X.env=pure false):
   PS X (.Assign [.Subscript o i pos'] value pos) (E3 td ty tv):=by
 intro pins s σ H D I h;refine wpAny_Assign_Subscript (thn (hv pins s σ H _ I h) λr s1 ⟨v,H1,I1,rv,q1⟩=>thn (ho pins s1 σ H1 _ I1 q1) λu s2 ⟨x,H2,I2,rx,q2⟩=>thn (hi pins s2 σ H2 _ I2 q2) λiv s3 ⟨y,H3,I3,ry,a,H4,ex,g,q3⟩=>?_) hs;subst ex;obtain rfl:u=GI a:=rx;exact vK hu I3 g ry rv λs4 I4=>⟨σ,H4,I4,q3⟩
end
theorem qm {P:Program}{w:World}{H:Hp}(h:Heap)(hb:sysModules<h.objs.size):bj P w H (h.push { cls:=.type "dict",data:=.dict #[] }) h.objs.size (.dK []):=⟨G5 _,beq_eq_false_iff_ne.mpr (Hi (GR hb)),[],.nil,Heap.DictOf.new h⟩
def B9:TE:=λ_ H Q=>∀p,H p=none->Q (.ref p) (upd H p (.dK []))
section
variable {X:Cx}{pos:Pos}
theorem rS:PE X (.Dict [] [] pos) B9:=λpins s σ H Q I h=>wpAny_Dict_empty ⟨.ref s.heap.objs.size,_,I.laid (a:=s.heap.objs.size) (o:=.dK []) (t':=s.toks) (λ_ _ q=>ip _ q) (ia _) (qm s.heap I.big),rfl,h _ (I.hok.fresh (ia _))⟩
end
noncomputable def tZ:List (TE×TE)->St->Hp->(List (V×V)->Hp->Prop)->Prop
 | [],_,H,Q=>Q [] H
 | (tk,tv)::r,σ,H,Q=>tk σ H λx H1=>tv σ H1 λy H2=>tZ r σ H2 λps H3=>Q ((x,y)::ps) H3
noncomputable abbrev VV:List (V×V)->List (Value×Value)->Prop:=Paired λp q=>RelV p.1 q.1/\RelV p.2 q.2
def PPs (X:Cx)(pos:Pos)(keys:List (Option Expr))(values:List Expr)(trs:List (TE×TE)):Prop:=
 ∀(pins:List (Addr×Obj)) (s:Shared) (σ:St) (H:Hp) (Q:List (V×V)->Hp->Prop),Inv X pins σ H s->tZ trs σ H Q ->
   wpAny (model X.prog X.w) X.A (evalPairs (pairTrees keys values X.env pos)) (λvs s'=>∃ps H',Inv X pins σ H' s'/\VV ps vs/\Q ps H') X.xe s
theorem uT {X:Cx}{pos:Pos}:PPs X pos [] [] []:=λpins s σ H Q I h=>pairTrees_nil_walk ⟨[],H,I,.nil,h⟩
theorem i4 {X:Cx}{pos:Pos}{k v:Expr}{ks:List (Option Expr)}{vs:List Expr}{tk tv:TE}{trs:List (TE×TE)}(hk:PE X k tk)(hv:PE X v tv)(hr:PPs X pos ks vs trs):
   PPs X pos (some k::ks) (v::vs) ((tk,tv)::trs):=λpins s σ H Q I h=>
 pairTrees_cons_walk (thn (hk pins s σ H _ I h) λu s1 ⟨x,H1,I1,rx,q1⟩=>thn (hv pins s1 σ H1 _ I1 q1) λw2 s2 ⟨y,H2,I2,ry,q2⟩=>
   thn (hr pins s2 σ H2 _ I2 q2) λws s3 ⟨ps,H3,I3,rel,q3⟩=>⟨(x,y)::ps,H3,I3,.cons ⟨rx,ry⟩ rel,q3⟩)
noncomputable def gA (kvs more:List (Key×V)):List (Key×V):=more.foldl (λacc kv=>putK acc kv.1 kv.2) kvs
theorem KV.merge:∀{more:List (Key×V)} {rs:List (Key×Value)} {kvs:List (Key×V)} {vs:List (Key×Value)},KV more rs->KV kvs vs->KV (gA kvs more) (merged vs rs):=by
 intro more rs kvs vs r;unfold KV at r;induction r generalizing kvs vs with
 | nil=>intro q; exact q
 | @cons p q ps qs h t ih=>
   intro r0;have e:KV (putK kvs p.1 p.2) (stored vs q.1 q.2):=by have:=r0.put p.1 h.2;rw[<- h.1]; exact this
   exact ih e
theorem g9:∀(more kvs:List (Key×V)),(gA kvs more).length<=kvs.length+more.length
 | [],kvs=>by show kvs.length<=kvs.length+0; omega
 | p::r,kvs=>by have h1:=g9 r (putK kvs p.1 p.2);have h2:=jY kvs p.1 p.2;show (gA (putK kvs p.1 p.2) r).length<=_;rw[GK]; omega
theorem lM {P:Program}{w:World}:∀{kvs:List (Key×V)} {ws:List (Value×Value)},VV (kvs.map λkv=>(kV kv.1,kv.2)) ws->∃rs,Carries (bb P w) ws rs/\KV kvs rs
 | [],_,r=>by rw[KU]at r; cases r; exact⟨[],HL,.nil⟩
 | p::kvs,_,r=>by
   rw[GP]at r;cases r with
   | @cons a b as bs h t=>obtain⟨rs,c,q⟩:=lM (P:=P) (w:=w) t;obtain⟨b1,b2⟩:=b;exact⟨(p.1,b2)::rs,⟨lg h.1,rfl,c⟩,.cons ⟨rfl,h.2⟩ q⟩
def Eo (trs:List (TE×TE)):TE:=λσ H Q=>∀p,H p=none->tZ trs σ (upd H p (.dK [])) λps H2=>H2 p=some (.dK [])/\∃kvs:List (Key×V),ps=kvs.map (λkv=>(kV kv.1,kv.2))/\kvs.length<=15/\Q (.ref p) (upd H2 p (.dK (gA [] kvs)))
theorem vB {X:Cx}{pos:Pos}{keys:List (Option Expr)}{values:List Expr}{trs:List (TE×TE)}(h:PPs X pos keys values trs)(hall:keys.all (·.isSome)=true)(hl:keys.length=values.length)(h0:keys≠[])
   (h15:keys.length<=15):PE X (.Dict keys values pos) (Eo trs):=by
 intro pins s σ H Q I q;have hn:=I.hok.fresh (ia s.heap.objs.size);have I1:=I.laid (a:=s.heap.objs.size) (o:=.dK []) (h':=s.heap.push { cls:=.type "dict",data:=.dict #[] }) (t':=s.toks) (λ_ _ q=>ip _ q) (ia _) (qm s.heap I.big);refine wpAny_Dict_walk (knd:=bb X.prog X.w) hall hl h0 h15 (thn (h pins _ σ _ _ I1 (q _ hn)) λws s2 ⟨ps,H2,I2,rel,e,kvs,ep,lk,q2⟩=>?_);subst ep;obtain⟨rs,c,rk⟩:=lM (P:=X.prog) (w:=X.w) rel;obtain⟨z,hd,vs0,r0,dd⟩:=rG I2.hok e;cases r0;refine⟨rs,c,dd,λh' dd' hs=>⟨.ref s.heap.objs.size,_,?_,rfl,q2⟩⟩;have hz:(gA [] kvs).length<=sizeLine:=by have h1:=g9 kvs [];rw[Kc]at h1;rw[sizeLine_eq]; omega
 have he:∃q,h'.get? s.heap.objs.size=some q:=let ⟨q,_,_,hq,_⟩:=dd'; ⟨q,hq⟩
 exact eY I2 (by rw[e]; exact HL) hs he (oJ hz hd (rk.merge .nil) dd')
structure M1 (X:Cx)(o:Expr)(m:Str)(apos:Pos)(e:Expr)(cpos:Pos):Prop where
 base:attributeBase o m X.env (eval o X.env)=eval o X.env
 few:((backTo cpos (starEach [e] X.env)).all (λx=>!x.1)&&(backToKw cpos (keywordEach [] X.env)).all (λx=>x.1.isSome)
   && decide (([e]:List Expr).length+([]:List Keyword).length+(if ([]:List Keyword).isEmpty then 0 else 1)<30))=true
 line:(apos.endLine==cpos.line)=true
 trees:backTo cpos (starEach [e] X.env)=[(false,eval e X.env)]
structure M2 (X:Cx)(o:Expr)(m:Str)(apos:Pos)(e f:Expr)(cpos:Pos):Prop where
 base:attributeBase o m X.env (eval o X.env)=eval o X.env
 few:((backTo cpos (starEach [e,f] X.env)).all (λx=>!x.1)&&(backToKw cpos (keywordEach [] X.env)).all (λx=>x.1.isSome)
   && decide (([e,f]:List Expr).length+([]:List Keyword).length+(if ([]:List Keyword).isEmpty then 0 else 1)<30))=true
 line:(apos.endLine==cpos.line)=true
 trees:backTo cpos (starEach [e,f] X.env)=[(false,eval e X.env),(false,eval f X.env)]
def IsD (H:Hp)(a:Addr):Prop:=∃kvs,Rd H a (.dK kvs)
theorem xJ {X:Cx}{pins:List (Addr×Obj)}{σ:St}{H:Hp}{s:Shared}{a:Addr}(I:Inv X pins σ H s)(d:IsD H a):
   s.TypeIs (.ref a) "dict" /\ (∀b,GI a=.ref b->∃ob,s.heap.get? b=some ob/\ob.dict=none)/\(a==sysModules)=false:=by
 obtain⟨kvs,e⟩:=d;obtain⟨_,hd,vs,_,dd⟩:=jQ I.hok e;refine⟨dd.typeIs,λb q=>?_,hd⟩;cases q;obtain⟨ob,_,_,h1,h2,_⟩:=dd;exact⟨ob,h1,h2.2.1⟩
section
variable {X:Cx}{pins:List (Addr×Obj)}{σ:St}{H:Hp}{s:Shared}{a:Addr}{y d:V}{u r:Value}{o:Option V}{A:Around}{E:Value->Shared->Prop}
theorem Df {Q:Value->Shared->Prop}(hu:A.units+1<cLine)(I:Inv X pins σ H s)(g:fS H a y o)(ry:RelV y u)(h:∀w' s',Inv X pins σ H s'->RelV (o.getD .non) w'->Q w' s'):
   wpAny (model X.prog X.w) A (call (.builtin "dict.get") [.ref a,u]) Q E s:=by
 obtain⟨kvs,k,e,ey,l⟩:=g;subst ey;obtain⟨z,hd,vs,rel,dd⟩:=jQ I.hok e;refine call_meetsIn Ja dd.typeIs Lo (PySem.F.args_dict_get_2 _ _) (meets_dict_get (bb X.prog X.w) a (lg ry) hd) ⟨_,dd.mapOf,h _ _ (I.tok _) ?_⟩;rw[l];exact(rel.val k).getD rfl
theorem Dz {Q:Value->Shared->Prop}(hu:A.units+1<cLine)(I:Inv X pins σ H s)(g:fS H a y o)(ry:RelV y u)(rd:RelV d r)(h:∀w' s',Inv X pins σ H s'->RelV (o.getD d) w'->Q w' s'):
   wpAny (model X.prog X.w) A (call (.builtin "dict.get") [.ref a,u,r]) Q E s:=by
 obtain⟨kvs,k,e,ey,l⟩:=g;subst ey;obtain⟨z,hd,vs,rel,dd⟩:=jQ I.hok e;refine call_meetsIn Ja dd.typeIs Lo (PySem.F.args_dict_get_3 _ _ _) (meets_dict_get_default (bb X.prog X.w) a (lg ry) hd r) ⟨_,dd.mapOf,h _ _ (I.tok _) ?_⟩;rw[l];exact(rel.val k).getD rd
end
def CM (td ty:TE):TE:=λσ H Q=>td σ H λx H1=>∃a,x=.ref a/\IsD H1 a/\ty σ H1 λy H2=>∃o,fS H2 a y o/\Q (o.getD .non) H2
def DC (td ty tx:TE):TE:=λσ H Q=>td σ H λx H1=>∃a,x=.ref a/\IsD H1 a/\ty σ H1 λy H2=>tx σ H2 λz H3=>∃o,fS H3 a y o/\Q (o.getD z) H3
section
variable {X:Cx}{o e f:Expr}{apos cpos:Pos}{td ty tx:TE}
theorem yS (hu:X.A.units+1<cLine)(ho:PE X o td)(he:PE X e ty)(m:M1 X o "get" apos e cpos):PE X (.Call (.Attribute o "get" apos) [e] [] cpos) (CM td ty):=by intro pins s σ H Q I h;refine wpAny_Call_method m.base m.few m.line JJ Ja Lv (thn (ho pins s σ H _ I h) λu s1 ⟨x,H1,I1,rx,a,ex,d,q1⟩=>?_);subst ex;obtain rfl:u=GI a:=rx;obtain⟨t1,t2,_⟩:=xJ I1 d;refine⟨t1,t2,?_⟩;rw[m.trees];refine Im rfl (Kh (IP (thn (he pins s1 σ H1 _ I1 q1) λiv s2 ⟨y,H2,I2,ry,ov,g,q2⟩=>JL ?_)));exact Df hu I2 g ry λw' s3 I3 rw'=>⟨_,H2,I3,rw',q2⟩
theorem rY (hu:X.A.units+1<cLine)(ho:PE X o td)(he:PE X e ty)(hf:PE X f tx)(m:M2 X o "get" apos e f cpos):PE X (.Call (.Attribute o "get" apos) [e,f] [] cpos) (DC td ty tx):=by
 intro pins s σ H Q I h;refine wpAny_Call_method m.base m.few m.line JJ Ja Lv (thn (ho pins s σ H _ I h) λu s1 ⟨x,H1,I1,rx,a,ex,d,q1⟩=>?_);subst ex;obtain rfl:u=GI a:=rx;obtain⟨t1,t2,_⟩:=xJ I1 d;refine⟨t1,t2,?_⟩;rw[m.trees]
 refine Im rfl (Kh (IP (thn (he pins s1 σ H1 _ I1 q1) λiv s2 ⟨y,H2,I2,ry,q2⟩=>
   IP (thn (hf pins s2 σ H2 _ I2 q2) λfv s3 ⟨z,H3,I3,rz,ov,g,q3⟩=>JL ?_))))
 exact Dz hu I3 g ry rz λw' s4 I4 rw'=>⟨_,H3,I4,rw',q3⟩
end
end L2
namespace Ev
open PySem PySem.Spec PyProof.Rows L2
noncomputable def Its (x:Str):L2.It:=⟨λi _=>i<x.cps.size,λi H v H'=>H'=H/\v=.str ⟨#[x.cps.getD i 0]⟩,λi _=>x.cps.size<=i⟩
theorem xI {P:Program}{w:World}{K:gV}{tg:Expr}(it:Addr)(x:Str)(t:Tok):Turn P w K false tg (Its x) [it] it (λi h=>i<=x.cps.size/\h.IsStrIter it "str_ascii_iterator" x t i) where
 mem:=by simp
 obj:=λi h st b hb=>by
   have e:b=it:=by simpa using hb
   subst e;obtain⟨o,h1,h2,h3⟩:=st.2;exact⟨o,h1,λv z=>by rw[h3]at z; cases z⟩
 keep:=λi h h' st k=>⟨st.1,let ⟨o,h1,r⟩:=st.2; ⟨o,k it (by simp) _ h1,r⟩⟩
 item:=by
   intro X hP hw hK hc i pins s σ H E I hf st hg;subst hP hw hK;obtain⟨f0,f1,f2,f3,f4,f5⟩:=hf it (by simp);have W:=Walks.strAscii (prog:=X.prog) (w:=X.w) (I.ok.hd hc.calm) it x t;refine W.item i s _ _ hg st.2 λv h' tk hv st' kk=>?_;obtain⟨c,u,hc',rfl⟩:=hv;have I1:Inv X pins σ H { s with heap:=h',toks:=tk }:=I.turned (λb o hb e=>kk b o (by simpa using hb) e) f0 f1 f3 f4 f5;obtain⟨o,o1,o2,o3⟩:=id st';refine⟨_,rfl,iH (s:={ s with heap:=h',toks:=tk }) (n:="str_ascii_iterator") o1 o2 o3 (by decide) ⟨.str ⟨#[x.cps.getD i 0]⟩,H,I1,⟨u,?_⟩,⟨rfl,rfl⟩,⟨hg,st'⟩,λb hb=>(hf b hb).1⟩⟩;have:x.cps.getD i 0=c:=by rw[Array.getD_eq_getD_getElem?,hc']; rfl
   rw[this]
 done:=by intro X hP hw hK hc i pins s σ H E I hf st hg;subst hP hw hK;obtain⟨f0,f1,f2,f3,f4,f5⟩:=hf it (by simp);have hg:x.cps.size<=i:=hg;obtain rfl:i=x.cps.size:=Nat.le_antisymm st.1 hg;have W:=Walks.strAscii (prog:=X.prog) (w:=X.w) (I.ok.hd hc.calm) it x t;exact W.done s _ _ st.2 λh' tk kk=>⟨rfl,I.turned (λb o hb e=>kk b o (by simpa using hb) e) f0 f1 f3 f4 f5⟩
 self:=λ_ _ _ _ _ st h=>wpAny_pyIter_striter_ascii st.2 h
section
variable {X:Cx}{tg l:Expr}{tl:TE}
def FK (tl:TE):TI:=λσ H R=>tl σ H λx H1=>∃z,x=.str z/\z.cps.all (·<128)=true/\R (Its z) H1
theorem CC (hc:X.calm=true)(hl:PE X l tl):PI X tg l (FK tl):=by
 intro pins s σ H R I h;refine thn (hl pins s σ H _ I h) λv s1 ⟨x,H1,I1,r1,z,e,ha,q⟩=>?_;subst e;obtain⟨t,rfl⟩:=r1;refine wpAny_pyIter_ascii ha ?_;refine⟨false,s1.heap.objs.size,[s1.heap.objs.size],_,_,H1,rfl,I1.kept (t':=s1.toks) λb o e=>ip _ e,.inl hc,xI _ z t,⟨G5 _,_,Et _ rfl,rfl,rfl⟩,λb hb=>?_,q⟩;have e:b=s1.heap.objs.size:=by simpa using hb
 subst e;exact I1.jv (ia _) (I1.hok.fresh (ia _))
end
end Ev
namespace Hy
open PySem PySem.Spec PyProof.Rows L2
open Ev (D Den ay ao)
section
variable {X:Cx}{τ:List Sl}{e:Expr}{z w v:Str}{k:Nat}
theorem BE {i:Int}{c:Nat}(hz:z.length<=sizeLine)(h:atI z.cps.toList i=some c):Aw X (.str z) (.int i) (.str ⟨#[c]⟩):=⟨_,BX,λM v w H Q _ d1 d2 q=>by
 cases d1;cases d2;exact⟨z,i,c,rfl,rfl,hz,h,q _ H (ak.refl _) .str⟩⟩
theorem DE (hz:z.length<=sizeLine):iy X (.builtin "len") [.str z] (.d (.int z.length)):=⟨_,pM,λM vs H Q hM d q=>by
 cases d with
 | cons d r=>
   cases r;cases d;exact⟨z,rfl,hz,q _ H [] (ak.refl _) eP (i7 .int)⟩⟩
theorem Fj {c:Nat}:bW X (compareOp .In) (.str ⟨#[c]⟩) (.str z) (.bl (decide (c∈z.cps.toList))):=⟨_,vT,λ_ v w H Q _ d1 d2 k=>by
 cases d1;cases d2;exact⟨_,z,rfl,rfl,by rw[StrLaws.found_one]; exact k _ H (ak.refl _) .bl⟩⟩
theorem xX (h:z.length+w.length<=sizeLine):bW X (binaryOp .Add) (.str z) (.str w) (.str (z++w)):=⟨_,tH,λ_ v w' H Q _ d1 d2 k=>by
 cases d1;cases d2;exact⟨z,w,rfl,rfl,h,k _ H (ak.refl _) .str⟩⟩
noncomputable def jL (z:Str):List D:=z.cps.toList.map λc=>.str ⟨#[c]⟩
theorem C7 {tg:Expr}(h:PE X e (dE X.K true τ (.d (.str z))))(ha:z.cps.all (·<128)=true)(hc:X.calm=true:=by first | rfl | assumption):PI X tg e (dI X.K τ (jL z)):=piW (Ev.CC hc h) λσ H R ⟨A,H₀,B,S,k⟩=>aF S λv H1 e1 d1=>by
 cases d1;refine⟨z,rfl,ha,k _ H1 e1 λH2 s2=>⟨λi hi=>?_,λi hi=>⟨?_,λx H' ⟨e,ex⟩=>?_⟩⟩⟩
 . have:(jL z).length=z.cps.size:=by simp[jL]
   show z.cps.size<=i;omega
 . have:(jL z).length=z.cps.size:=by simp[jL]
   show i<z.cps.size;omega
 . subst e ex;refine⟨ak.refl _,λM _ _=>?_⟩;have hi':i<z.cps.size:=by simpa[jL]using hi
   have:(jL z)[i]=.str ⟨#[z.cps.getD i 0]⟩:=by simp[jL,hi',Array.getD]
   rw[this];exact .str
end
end Hy
namespace Tx
open PySem
noncomputable def inj (c:Nat):List (List Nat)->List Nat
 | []=>[]
 | [a]=>a
 | a::b::r=>a++c::inj c (b::r)
noncomputable def cs (x:Str):List Nat:=x.cps.toList
theorem CF (x:Str):(cs x).length=x.length:=by simp[cs,Str.length]
end Tx
namespace K67
open PySem PySem.Spec PyProof.Rows L2 Hy
open Ev (D Den ay aJ aE)
theorem F6 {X:Cx}{C:Bool}{τ:List Sl}{pos:Pos}{n x:Str}(h:∃t,X.mg n=some (.str x t))(hg:Gl X n:=by rfl)(hd:(n==("__debug__" : Str))=false:=by decide):PE X (.Name n pos) (dE X.K C τ (.d (.str x))):=by obtain⟨t,hm⟩:=h;exact nJ (uS (v:=.str x) hg hm ⟨t,rfl⟩ hd) λ_=>.str
noncomputable def jM:Str:="abcdefghijklmnopqrstuvwxyz"
structure oY (n:Str):Prop where
 l1:1<=n.length
 l8:n.length<=8
 az:∀c∈n.cps.toList,97<=c/\c<123
def ba (ds:List D)(r:Sl):Prop:=∃n:Str,ds=[.str n]/\oY n/\r=.d (.bl true)
theorem DY:∀c,97<=c->c<123->c∈jM.cps.toList:=by
 have:∀c,c<123->97<=c->c∈jM.cps.toList:=by decide +kernel
 exact λc h1 h2=>this c h2 h1
noncomputable def nmP (c:Int):List Int:=nums c [8,8031810176,26]
noncomputable def nmR (c:Int):Nat->Int
 | 0=>(nmP c).getD 1 0
 | i+1=>(nmR c i).fdiv 26
noncomputable def ltr (i:Int):Str:=⟨#[97+(i.fmod 26).toNat]⟩
noncomputable def nmB (c:Int):Nat->Str
 | 0=>""
 | i+1=>nmB c i++ltr (nmR c i)
noncomputable def nm (c:Int)(k:Nat):Str:=nmB c ((nmP c).getD 0 0).toNat++ltr ((nmP c).getD 2 0+(k:Int))
theorem yC (i:Int):atI jM.cps.toList (i.fmod 26)=some (97+(i.fmod 26).toNat):=by
 have h:=fm (a:=i) (b:=26) (by decide);generalize i.fmod 26=m at h ⊢;obtain⟨n,rfl⟩:=HJ h.1;have:∀n,n<26->jM.cps.toList[n]?=some (97+n):=by decide +kernel
 have h2:=this n (by omega);exact ai h2
theorem iE (a b:Str):(a++b).cps.toList=a.cps.toList++b.cps.toList:=Array.toList_append
theorem kz (a:Str):a.length=a.cps.toList.length:=(G8).symm
theorem oO (i:Int):(ltr i).cps.toList=[97+(i.fmod 26).toNat]:=rfl
theorem kr (c:Int):∀i,(nmB c i).length=i
 | 0=>rfl
 | i+1=>by rw[nmB,kz,iE,vp,<- kz,kr c i]; rfl
theorem zh (c:Int):∀i,∀x∈(nmB c i).cps.toList,97<=x/\x<123
 | 0=>by intro x hx; exact absurd (show x∈([]:List Nat) from hx) (by simp)
 | i+1=>by
   intro x hx;rw[nmB,iE,Gv]at hx;rcases hx with hx | hx
   . exact zh c i x hx
   . rw[oO,ib]at hx;have h:=fm (a:=nmR c i) (b:=26) (by decide);omega
theorem Ff (c:Int):(0<=(nmP c).getD 0 0/\(nmP c).getD 0 0<8):=by
 have hp:∀b∈([8,8031810176,26]:List Int),0<b:=by decide
 exact oA (c:=c) hp (i:=0) (by decide)
theorem yK (c:Int)(k:Nat):oY (nm c k):=by
 have hp:=Ff c;have hl:(nm c k).length=((nmP c).getD 0 0).toNat+1:=by rw[nm,kz,iE,vp,<- kz,kr]; rfl
 refine⟨by omega,by omega,λx hx=>?_⟩;rw[nm,iE,Gv]at hx;rcases hx with hx | hx
 . exact zh c _ x hx
 . rw[oO,ib]at hx;have h:=fm (a:=(nmP c).getD 2 0+(k:Int)) (b:=26) (by decide);omega
theorem FD (c:Int){i j:Nat}(h:i<j)(hj:j<26):nm c i≠nm c j:=by
 intro e;have e:=congrArg (λz:Str=>z.cps.toList) e;simp only[nm,iE,oO]at e;have e:=List.append_cancel_left e;have e:=(List.cons.inj e).1;have h1:=fm (a:=(nmP c).getD 2 0+(i:Int)) (b:=26) (by decide);have h2:=fm (a:=(nmP c).getD 2 0+(j:Int)) (b:=26) (by decide);have e1:((nmP c).getD 2 0+(i:Int)).fmod 26=((nmP c).getD 2 0+(j:Int)).fmod 26:=by omega
 have d1:=Int.mul_fdiv_add_fmod ((nmP c).getD 2 0+(i:Int)) 26;have d2:=Int.mul_fdiv_add_fmod ((nmP c).getD 2 0+(j:Int)) 26;omega
def jm (ds:List D)(r:Sl):Prop:=∃(c:Int) (m:Nat),ds=[.int c,.int m]/\m<=26/\r=.o ((ox m).map λk=>.str (nm c k))
section
variable {P:Program}{w:World}{K:gV}{mg:Str->Option Value}{base:Heap}{k:Nat}{f:Addr}{fd:FuncData}{qual:Str}
theorem sF (F:Fun K "is_name" qual (top 53) f fd)(hb:∀x∈ah,mg x=none)(y_LETTERS:∃t,mg "LETTERS" = some (.str jM t))(y_MOST_LETTERS:∃t,mg "MOST_LETTERS" = some (.int 8 t)):aH P w K mg base CX0 (k+1) f fd ["thing"] (spD K ba):=by
 refine fnD F t8 hb (by rintro _ _ ⟨_,rfl,_⟩; rfl) ?_;rintro _ _ ⟨n,rfl,h,rfl⟩ cdv A outer s H E b;have l1:=h.l1;have l8:=h.l8;have sl:(1000:Nat)<=sizeLine:=by decide
 have cl:(Tx.cs n).length=n.length:=Tx.CF _;have clen:(jL n).length=(Tx.cs n).length:=by simp[jL,Tx.cs]
 have cat:∀j (hj:j<(jL n).length),(jL n)[j]=.str ⟨#[(Tx.cs n).getD j 0]⟩:=λj hj=>by rw[clen]at hj;simp[jL,Tx.cs]at hj ⊢;simp[hj]
 have asc:n.cps.all (·<128)=true:=by rw[Array.all_eq_true'];intro c hc;have:=h.az c (by simpa using hc);exact decide_eq_true (by omega)
 have tr:(ox (Tx.cs n).length).map (λj=>decide ((Tx.cs n).getD j 0∈jM.cps.toList))=GA (Tx.cs n).length true:=by rw[List.eq_replicate_iff];refine⟨by simp,λb hb=>?_⟩;obtain⟨j,hj,rfl⟩:=Gy.mp hb;have hj:=GQ.mp hj;have:=h.az ((Tx.cs n).getD j 0) (show (Tx.cs n).getD j 0∈Tx.cs n by simp[hj]);exact decide_eq_true (DY _ this.1 this.2)
 refine bE (PW.pt (cn (a5 (a6 (cE .str b (aa 0)))) λh=>(cg (a5 ((jd ae (bq b (ab (aa 0) af) (DE (by omega))) (jq y_MOST_LETTERS) oH oH).2 rfl))))) (by rw[decide_eq_true (show (1:Int)<=n.length by omega),decide_eq_true (show (n.length:Int)<=8 by omega)]; rfl) ?_;refine aL (bq b (ab (a7 (cR (cmp 0 (g:=λj=>.str ⟨#[(Tx.cs n).getD j 0]⟩) (f:=λj=>.bl (decide ((Tx.cs n).getD j 0∈jM.cps.toList))) b (C7 (aa 0) asc) cat (by rw[clen,cl]; omega) λj hj s0 H0 fp=>cc (aa 0) (F6 y_LETTERS) Fj))) af) (lD b.calm ((ox (Tx.cs n).length).map λj=>decide ((Tx.cs n).getD j 0∈jM.cps.toList)) (by rw[clen,GO]; rfl))) ?_;rw[tr];simp
theorem sZ (F:Fun K "_law_names" qual (top 73) f fd)(hb:∀x∈ah,mg x=none)(c_l_numbers:Cal P w K mg base k "_law_numbers" bL):aH P w K mg base CX0 (k+1) f fd ["_law_cell_here","_law_many"] (spD K jm):=by
 refine fnD F kP hb (by rintro _ _ ⟨_,_,rfl,_⟩; rfl) ?_;rintro _ _ ⟨c,m,rfl,hm,rfl⟩ cdv A outer s H E b;have nd:=kP.nd;have hp:=Ff c;have hl:(nmP c).length=3:=fZ ..;have sl:(1000:Nat)<=sizeLine:=by decide
 have a0:atI ((nmP c).map D.int) 0=some (.int ((nmP c).getD 0 0)):=bB (by decide) (by rw[hl]; decide);have a1:atI ((nmP c).map D.int) 1=some (.int ((nmP c).getD 1 0)):=bB (by decide) (by rw[hl]; decide);have a2:atI ((nmP c).map D.int) 2=some (.int ((nmP c).getD 2 0)):=bB (by decide) (by rw[hl]; decide);have lz:jM.length<=sizeLine:=GB (by decide) sl;refine aA 2 nd (b5 (s:=jM)) ?_;refine aA 3 nd (x_call b c_l_numbers (ab (aa 0) (ab (a7 (bY (ab ae (ab (aB ae ae (xu (by unfold L2.wo; decide))) (ab ae af))))) af)) ⟨c,[8,8031810176,26],rfl,by decide,λb hb=>rj (by simp at hb; omega) (by simp at hb; omega),rfl⟩) (jE 3 ?_);refine aA 4 nd b5 ?_;refine aA 5 nd (av (aa 3) ae (aV a1)) ?_;refine bK 6 (λi τ=>∃s6,τ=[.d (.int c),.d (.int m),.d (.str jM),.d (.lst ((nmP c).map .int)),.d (.str (nmB c i)),.d (.int (nmR c i)),s6]) b nd (fK b (av (aa 3) ae (aV a0)) (by omega) (by omega)) fL ⟨_,rfl⟩ (λi hi τ h=>?_) λτ h=>?_
 . obtain⟨s6,rfl⟩:=h;rw[aN]at hi;refine aA 4 nd (aB (aa 4) (av (aa 2) (aB (aa 5) ae (bP (by decide))) (BE lz (yC _))) (xX ?_)) ?_
   . rw[kr]; show i+1<=sizeLine; omega
   refine aA 5 nd (aB (aa 5) ae (bg (mkD (by decide) (by decide)))) (aK ⟨_,rfl⟩)
 . obtain⟨s6,rfl⟩:=h;rw[aN];refine aL (cR (cmp 0 (f:=λk=>.str (nm c k)) b (fK b (aa 1) (by omega) (by omega)) fL (by rw[aN]; omega) λi hi s0 H0 fp=>(aB (aa 1) (av (aa 2) (aB (aB (av (aa 3) ae (aV a2)) (aa 0) bp) ae (bP (by decide))) (BE lz (yC _))) (xX ?_)))) ?_
   . rw[kr]; show _+1<=sizeLine; omega
   . rw[aN]; simp
end
end K67
namespace Hy
open PySem PySem.Spec PyProof.Rows L2
open Ev (D Den ay ao aS aQ)
end Hy
namespace Hy
open PySem PySem.Spec PyProof.Rows L2
open Ev (D Den ay)
def kG (P:Program)(w:World)(K:gV)(mg:Str->Option Value)(base:Heap)(k:Nat)(n:Str)(sp:Sp):Prop:=∃f fd ps,aH P w K mg base CX0 k f fd ps sp/\mg n=some (.ref f)/\G9 K (.ref f)=true/\Binds K fd ps []
theorem kG.mono {P:Program}{w:World}{K:gV}{mg:Str->Option Value}{base:Heap}{j k:Nat}{n:Str}{sp:Sp}(c:kG P w K mg base j n sp)(h:j<=k):kG P w K mg base k n sp:=let ⟨f,fd,ps,F,r⟩:=c; ⟨f,fd,ps,F.mono h,r⟩
end Hy
namespace Hy
open PySem PySem.Spec PyProof.Rows L2
open Ev (D Den ay ao aS aQ)
def Pj (σ:L2.St)(H:Hp)(i j k:Nat):Prop:=∃a vs v,(σ[i]?).join=some (.ref a)/\H a=some (.lst vs)/\vs[k]?=some v/\σ[j]?=some (some v)
def dEJ (K:gV)(τ:List Sl)(i j k:Nat)(x:D):TE:=λσ H Q=>∃A H₀ B,Sta K A H₀ τ B σ H/\Pj σ H i j k/\∀v H',ak H H'->Den K (hd H' A) v x->Q v H'
end Hy
namespace Hx
open PySem PySem.Spec PyProof.Rows
end Hx
namespace Hx
open PySem PySem.Spec PySem.Calls PyProof.Rows PySem.W
end Hx
namespace Hx
open PySem PySem.Spec PySem.Calls PyProof.Rows PySem.W L2
theorem there {P:Program}{w:World}{H:Hp}{h:Heap}{a:Addr}{o:HO}(x:bj P w H h a o):∃u,h.get? a=some u:=by
 cases o with
 | lst xs=>obtain⟨_,_,_,_,e⟩:=x; exact⟨_,e⟩
 | tup xs=>obtain⟨_,_,_,o,e,_⟩:=x; exact⟨_,e⟩
 | dK kvs=>obtain⟨_,_,_,_,o,_,_,e,_⟩:=x; exact⟨_,e⟩
 | dT kvs=>obtain⟨_,_,_,_,o,_,_,e,_⟩:=x; exact⟨_,e⟩
 | set S n=>obtain⟨o,_,_,_,e,_⟩:=x; exact⟨_,e⟩
 | ins C dx fs=>obtain⟨_,_,_,e,_⟩:=x; exact⟨_,e⟩
 | own y=>exact x
 | xd fs=>obtain⟨_,⟨o,_,_,e,_⟩,_⟩:=x; exact⟨_,e⟩
 | met f y=>exact⟨_,x⟩
 | rng lo hi=>obtain⟨_,_,_,e⟩:=x; exact⟨_,e⟩
 | frz o u=>exact⟨_,x.1⟩
 | tbl ps=>exact⟨_,x⟩
 | ext φ=>exact x.2.1
end Hx
namespace Hy
open PySem PySem.Spec PyProof.Rows L2
open Ev (D Den ay ao)
end Hy
namespace Hx
open PySem PySem.Spec PyProof.Rows L2
end Hx
namespace Hy
open PySem PySem.Spec PyProof.Rows L2
end Hy
namespace Hy
open PySem PySem.Spec PyProof.Rows L2
open Ev (D Den ay ao aS aQ)
section
variable {X:Cx}{C:Bool}{τ:List Sl}{a e1 e2 e3:Expr}{pos p2:Pos}{k:Nat}
theorem rg {lo hi:Option Expr}{l u:Option Int}{xs:List D}(ha:PE X a (dE X.K C τ (.d (.tup xs))))(hl:PO X lo (dO X.K τ l))(hu:PO X hi (dO X.K τ u))(hw:¬(HT.sIx xs.length 0 l=0/\HT.sIx xs.length xs.length u=xs.length)):PE X (.Subscript a (.Slice lo hi none p2) pos) (dE X.K C τ (.d (.tup (cutD xs l u)))):=
 peW (p6 DM ha hl hu) λσ H Q q=>by
   obtain⟨A,H₀,B,S,k⟩:=ck q
   exact aF S λv H1 e1 d1=>⟨A,H₀,B,S.mono e1,λH2 e2=>⟨A,H₀,B,(S.mono e1).mono e2,λH3 e3=>by
     cases d1 with
     | @tup _ ws _ h r=>
       have h:=aS (e2.trans e3) (aS aG h);have r:=r.mono (aw (e2.trans e3) λ_ z=>z);refine⟨_,_,rfl,h,by rw[r.length]; exact hw,λp hp=>?_⟩;have r':ay X.K (hd H3 (vw C A B)) (ma ws l u) (cutD xs l u):=by unfold ma cutD;rw[r.length];exact(r.drop _).take _
       have hM:=(((S.mono e1).mono e2).mono e3).vd (C:=C);have e4:=ao hp (.tup (ma ws l u));exact k _ _ ((e1.trans (e2.trans e3)).trans e4) (.tup (SqT.of (lK hM hp)) (r'.mono (aw e4 λ_ z=>z)))⟩⟩
end
section
variable {X:Cx}{τ:List Sl}{x:D}{e:Expr}{q:Pos}{i j k:Nat}
theorem ej (h:PE X e (dE X.K false τ (.d x))):PE X e (dEJ X.K τ i j k x):=peW h λσ H Q ⟨A,H₀,B,S,_,q⟩=>aF S λv H' e d=>q v H' e d
end
end Hy
namespace L2
open PySem PySem.Spec PyProof.Rows
theorem mT (b:List Stmt)(env:Env):∀a:List Stmt,execs (a++b) env=(do match <- execs a env with | .next=>execs b env | f=>pure f)
 | []=>by rw[Lg,execs];exact(pure_bind _ _).symm
 | st::a=>by
   rw[Hq,execs,execs,bind_assoc];refine bind_congr λf=>?_;cases f with
   | next=>exact mT b env a
   | ret v=>exact(pure_bind _ _).symm
   | brk=>exact(pure_bind _ _).symm
   | cont=>exact(pure_bind _ _).symm
theorem u3 {X:Cx}{a b:List Stmt}{t u:TS}(h1:PSs X a t)(h2:PSs X b u):PSs X (a++b) (ET t u):=by
 intro pins s σ H D I h;rw[mT];refine wpAny_bind (thn (h1 pins s σ H { D with nx:=u D } I h) λf s1 q=>?_);cases f with
 | next=>obtain⟨σ',H',I',q⟩:=q;exact h2 pins s1 σ' H' D I' q
 | ret v=>exact wpAny_pure q
 | brk=>exact wpAny_pure q
 | cont=>exact wpAny_pure q
end L2
namespace Hy
open PySem PySem.Spec PyProof.Rows L2
open Ev (D Den ay ao aS aQ aM fU dD PTs cC eJ)
end Hy
namespace Hy
open PySem PySem.Spec PyProof.Rows L2
open Ev (D Den ay)
def qt (bs:List Addr)(H H':Hp):Prop:=∀b o,b∉bs->H b=some o->H' b=some o
theorem qt.hd {H H':Hp}{bs:List Addr}{M:Addr->Prop}(e:qt bs H H')(h:∀b∈bs,M b):ak (Hy.hd H M) (Hy.hd H' M):=λb o z=>by obtain⟨z1,z2⟩:=ax.mp z;exact ax.mpr ⟨z1,e b o (λy=>z1 (h b y)) z2⟩
def tK (M:Addr->Prop)(H:Hp)(bs:List Addr):Prop:=(∀b∈bs,M b)/\∀b,M b->∃o,H b=some o
theorem tK.but {M:Addr->Prop}{H H':Hp}{bs:List Addr}(h:tK M H bs)(e:qt bs H H')(hd:∀b∈bs,∃o,H' b=some o):tK M H' bs:=⟨h.1,λb z=>by
 by_cases q:b∈bs
 . exact hd b q
 . obtain⟨o,y⟩:=h.2 b z;exact⟨o,e b o q y⟩⟩
section
variable {K:gV}{A:Addr->Prop}{H₀ H H':Hp}{τ:List Sl}{B:Nat->List Addr}{σ:L2.St}
theorem Sta.sE (S:Sta K A H₀ τ B σ H)(i:Nat):tK (own A B) H (B i):=⟨λ_ hb=>.inr ⟨i,hb⟩,S.dm⟩
theorem Sta.AR (S:Sta K A H₀ τ B σ H){i:Nat}{W W':Wx}{u:V}(hi:τ[i]?=some (.w W))(hu:(σ[i]?).join=some u)(e:qt (B i) H H')(d:W'.p K (hd H' (own A B)) H' u (B i)):Sta K A H₀ (τ.set i (.w W')) B σ H':=by
 have sm:ak (hd H (own A B)) (hd H' (own A B)):=e.hd (S.sE i).1;obtain⟨n0,u',e1,e2⟩:=S.sl i _ hi;have ho:∀b∈B i,∃o,H' b=some o:=λb hb=>let ⟨o,z,_⟩:=W'.al d b hb; ⟨o,z⟩
 have hs:ak H₀ H':=λb o z=>e b o (λq=>by rw[S.fr i b q]at z; cases z) (S.same b o z);refine⟨hs,by rw[G7,S.len],λj t hj=>?_,S.fr,S.uq,S.ad,λj b hb=>((S.sE i).but e ho).2 b (.inr ⟨j,hb⟩)⟩;by_cases ej:j=i
 . subst ej;have hl:=(GD.mp hi).1;rw[G1 hl]at hj;cases hj;exact⟨n0,u,hu,d⟩
 . rw[GW (λz=>ej z.symm)]at hj;have ne:∀b∈B j,H' b=H b:=λb hb=>by obtain⟨o,q⟩:=S.bd j b hb;rw[q];exact e b o (λz=>ej (S.uq j i b hb z)) q
   exact(S.sl j t hj).frame sm ne
end
def bA (P:Program)(w:World)(K:gV)(mg:Str->Option Value)(base:Heap)(k:Nat)(C:Addr)(m:Str)(sp:Sp):Prop:=∃f fd ps,aH P w K mg base CX0 k f fd ps sp/\Meth K C m f/\Binds K fd ps []
def A7 (K:gV)(C:Addr)(m:Str)(W:Wx):Prop:=∀{G H:Hp} {u:V} {bs:List Addr},W.p K G H u bs->∃a dx fs,u=.ref a/\H a=some (.ins C dx fs)/\fs.lookup m=none
noncomputable def dQ (R:V->List Addr->Prop)(W:Wx):Wx where
 p:=λK G H v cs=>R v cs/\W.p K G H v cs
 fr:=λg e ⟨h1,h3⟩=>⟨h1,W.fr g e h3⟩
 al:=λ⟨_,h⟩=>W.al h
noncomputable def uk (W:Wx)(u:V)(bs:List Addr)(Hf:Hp):Wx where
 p:=λK G H v cs=>v=u/\cs=bs/\(∀b∈bs,H b=Hf b)/\W.p K G H v cs
 fr:=λg e ⟨h1,h2,h3,h4⟩=>⟨h1,h2,λb hb=>by rw[<- h3 b hb]; exact e b (by rw[h2]; exact hb),W.fr g e h4⟩
 al:=λ⟨_,_,_,h⟩=>W.al h
def LeW (W' W:Wx):Prop:=∀{K:gV} {G H:Hp} {u:V} {bs:List Addr},W'.p K G H u bs->W.p K G H u bs
theorem LeW.res (R:V->List Addr->Prop)(W:Wx):LeW (dQ R W) W:=λh=>h.2
theorem LeW.keep (W:Wx)(u:V)(bs:List Addr)(Hf:Hp):LeW (uk W u bs Hf) W:=λh=>h.2.2.2
def spW (K:gV)(Φ:Wx->List D->Wx->Prop):Sp:=λvs H Q _=>∃(M:Addr->Prop) (bs:List Addr) (u:V) (us:List V) (W:Wx) (ds:List D) (W':Wx),vs=u::us/\tK M H bs/\bs.Nodup/\W.p K (hd H M) H u bs/\ay K (hd H M) us ds/\Φ W ds W' /\
 ∀H',qt bs H H'->W'.p K (hd H' M) H' u bs->Q .non H'
def spV (K:gV)(Φ:Wx->List D->Sl->Prop):Sp:=λvs H Q _=>∃(M:Addr->Prop) (bs:List Addr) (u:V) (us:List V) (W:Wx) (ds:List D) (s:Sl),vs=u::us/\tK M H bs/\bs.Nodup/\W.p K (hd H M) H u bs/\ay K (hd H M) us ds/\Φ W ds s /\
 ∀v H' cs,ak H H'->Fr H H' cs->bO K (hd H' λb=>M b\/b∈cs) H' (some v) cs s->Q v H'
def dN (K:gV)(τ τ':List Sl):TE:=λσ H Q=>∃A H₀ B,Sta K A H₀ τ B σ H/\∀H',Sta K A H₀ τ' B σ H'->Q .non H'
section
variable {X:Cx}{τ τ':List Sl}{e o:Expr}{es:List Expr}{pos p q pr apos:Pos}{k:Nat}{N:Po}{rest:List Stmt}{ds:List D}{W W':Wx}{s:Sl}{R:V->List Addr->Prop}
theorem dR (i:Nat){nk m:Str}{C:Addr}{Φ:Wx->List D->Wx->Prop}{pl:Sem Bool}(Bb:Bk X k)(hc:Cls X.K C)(cl:bA X.prog X.w X.K X.mg X.base k C m (spW X.K Φ))(hW:A7 X.K C m W)(hΦ:Φ W ds W')(hi:τ[i]?=some (.w (dQ R W)))(ha:PA X (e::es) (dA X.K true τ ds))(hNi:X.N[i]?=some nk:=by rfl)
   (hv:Vis X.env.scope nk:=by first | exact Hh rfl | exact G0 (Hh rfl) | exact G0 (G0 rfl)) (hd1:(nk==("__debug__" : Str))=false:=by decide) (hcd:(nk==("__classdict__" : Str))=false:=by decide)
   (hst:starEach (e::es) X.env=(false,eval e X.env)::starEach es X.env:=by rfl) (hpl:(backTo pos (starEach es X.env)).any (·.1)=false:=by rfl)
   (ht:eval (.Call (.Attribute (.Name nk q) m apos) (e::es) [] pos) X.env=(do
     let ov <- eval (.Name nk q) X.env
     standAt apos.atName
     let (f,first) <- holding [ov] (getMethod ov m pl)
     callWith pos f first (backTo pos (starEach (e::es) X.env)) (backToKw pos (keywordEach [] X.env))):=by rfl) :
   PE X (.Call (.Attribute (.Name nk q) m apos) (e::es) [] pos) (dN X.K τ (τ.set i (.w (dQ R W')))):=by
 obtain⟨f,fd,ps,F,hm,hb⟩:=cl;refine peW (u6 (pl:=pl) (a4 (i:=i) hNi hv hd1 hcd) hc hm F Bb.room hb .nil jX ha hst hpl ht) λσ H Q ⟨A,H₀,B,S,kk⟩=>?_;obtain⟨nd,u,h2,_,wp⟩:=S.sl i _ hi;obtain⟨a,dx,fs,rfl,ea,l⟩:=hW wp;refine⟨_,slot_of h2,a,dx,fs,rfl,ea,l,c9 S λvs H1 e1 d1=>?_⟩;have S1:=S.mono e1;obtain⟨nd1,u',g2,r1,wp1⟩:=S1.sl i _ hi;rw[h2]at g2;cases g2;show spW X.K Φ (_::(_++[])) _ _ _;rw[G3];exact⟨own A B,B i,_,vs,W,ds,W',rfl,S1.sE i,nd1,wp1,d1,hΦ,λH' b1 w1=>kk H' (S1.AR hi h2 b1 ⟨r1,w1⟩)⟩
theorem cH (i:Nat){nk m:Str}{C:Addr}{Φ:Wx->List D->Sl->Prop}{pl:Sem Bool}(Bb:Bk X k)(hc:Cls X.K C)(cl:bA X.prog X.w X.K X.mg X.base k C m (spV X.K Φ))(hW:A7 X.K C m W)(hΦ:Φ W ds s)(hi:τ[i]?=some (.w W'))(hle:LeW W' W)(ha:PA X (e::es) (dA X.K true τ ds))(hNi:X.N[i]?=some nk:=by rfl)
   (hv:Vis X.env.scope nk:=by first | exact Hh rfl | exact G0 (Hh rfl) | exact G0 (G0 rfl)) (hd1:(nk==("__debug__" : Str))=false:=by decide) (hcd:(nk==("__classdict__" : Str))=false:=by decide)
   (hst:starEach (e::es) X.env=(false,eval e X.env)::starEach es X.env:=by rfl) (hpl:(backTo pos (starEach es X.env)).any (·.1)=false:=by rfl)
   (ht:eval (.Call (.Attribute (.Name nk q) m apos) (e::es) [] pos) X.env=(do
     let ov <- eval (.Name nk q) X.env
     standAt apos.atName
     let (f,first) <- holding [ov] (getMethod ov m pl)
     callWith pos f first (backTo pos (starEach (e::es) X.env)) (backToKw pos (keywordEach [] X.env))):=by rfl) :
   PE X (.Call (.Attribute (.Name nk q) m apos) (e::es) [] pos) (dE X.K true τ s):=by
 obtain⟨f,fd,ps,F,hm,hb⟩:=cl;refine peW (u6 (pl:=pl) (a4 (i:=i) hNi hv hd1 hcd) hc hm F Bb.room hb .nil jX ha hst hpl ht) λσ H Q ⟨A,H₀,B,S,kk⟩=>?_;obtain⟨nd,u,h2,wp⟩:=S.sl i _ hi;obtain⟨a,dx,fs,rfl,ea,l⟩:=hW (hle wp);refine⟨_,slot_of h2,a,dx,fs,rfl,ea,l,c9 S λvs H1 e1 d1=>?_⟩;have S1:=S.mono e1;obtain⟨nd1,u',g2,wp1⟩:=S1.sl i _ hi;rw[h2]at g2;cases g2;show spV X.K Φ (_::(_++[])) _ _ _;rw[G3];refine⟨own A B,B i,_,vs,W,ds,s,rfl,S1.sE i,nd1,hle wp1,d1,hΦ,λv H' cs e2 fr z=>kk v H' cs (e1.trans e2) (λb hb=>⟨?_,(fr b hb).2⟩) z⟩;have:=(fr b hb).1;cases y:H b with
 | none=>rfl
 | some o=>rw[e1 b o y]at this; cases this
theorem B6 (i:Nat){nk f':Str}{Φ:Wx->List D->Sl->Prop}(Bb:Bk X k)(cl:kG X.prog X.w X.K X.mg X.base k f' (spV X.K Φ))(hΦ:Φ W ds s)(hi:τ[i]?=some (.w W'))(hle:LeW W' W)(ha:PA X es (dA X.K true τ ds))(hNi:X.N[i]?=some nk:=by rfl)
   (hv:Vis X.env.scope nk:=by first | exact Hh rfl | exact G0 (Hh rfl) | exact G0 (G0 rfl)) (hd1:(nk==("__debug__" : Str))=false:=by decide) (hcd:(nk==("__classdict__" : Str))=false:=by decide)
   (hg:Gl X f':=by rfl) (hdb:(f'==("__debug__" : Str))=false:=by decide) (he:starEach (.Name nk q::es) X.env=(false,eval (.Name nk q) X.env)::starEach es X.env:=by rfl) (hpl:(backTo pos (starEach es X.env)).any (·.1)=false:=by rfl) :
   PE X (.Call (.Name f' p) (.Name nk q::es) [] pos) (dE X.K true τ s):=by
 obtain⟨f,fd,ps,F,hm,hk,hb⟩:=cl;refine peW (ky F Bb.room hg hm hk hb .nil jX (bw (a4 (i:=i) hNi hv hd1 hcd) ha he) hdb he hpl) λσ H Q ⟨A,H₀,B,S,kk⟩=>?_;obtain⟨nd,u,h2,wp⟩:=S.sl i _ hi;refine⟨_,slot_of h2,c9 S λvs H1 e1 d1=>?_⟩;have S1:=S.mono e1;obtain⟨nd1,u',g2,wp1⟩:=S1.sl i _ hi;rw[h2]at g2;cases g2;show spV X.K Φ (_++[]) _ _ _;rw[G3];refine⟨own A B,B i,_,vs,W,ds,s,rfl,S1.sE i,nd1,hle wp1,d1,hΦ,λv H' cs e2 fr z=>kk v H' cs (e1.trans e2) (λb hb=>⟨?_,(fr b hb).2⟩) z⟩;have:=(fr b hb).1;cases y:H b with
 | none=>rfl
 | some o=>rw[e1 b o y]at this; cases this
theorem e7 (h:PE X e (dN X.K τ τ'))(hr:PSs X rest (dS X.K τ' N))(hs:swapsWith e none pr.line X.env=pure false:=by rfl):PSs X (.Expr e pr::rest) (dS X.K τ N):=bh (M:=(·=τ')) (psW (fF h hs) λD σ H ⟨A,H₀,B,S,Me⟩=>⟨A,H₀,B,S,λH' S'=>Me.nx _ _ _ _ rfl S'⟩) λ_ e=>e▸hr
end
section
variable {P:Program}{w:World}{K:gV}{mg:Str->Option Value}{base:Heap}
theorem wk {x qual:Str}{st:Stmt}{f:Addr}{fd:FuncData}{N ps:List Str}{k:Nat}{Φ:Wx->List D->Wx->Prop}(F:Fun K x qual st f fd)(S:aj N ps (ag st))(hb:∀x∈ah,mg x=none)(len:∀W ds r,Φ W ds r->ds.length+1=ps.length)
   (body:∀W ds r,Φ W ds r->∀R cdv A outer s H E0,Bk (Xc P w K mg base N qual st f cdv A outer s H E0) k->PSs (Xc P w K mg base N qual st f cdv A outer s H E0) (aY st) (dS K (.w (dQ R W)::(ds.map .d++GA (N.length-(ds.length+1)) .un)) { nx:=λτ=>τ[0]?=some (.w (dQ R r)),rt:=λ_=>False })) :
   aH P w K mg base CX0 (k+1) f fd ps (spW K Φ):=by
 refine F.ok S (λvs H Q E ⟨M,bs,u,us,W,ds,r,hvs,_,_,_,dd,h,_⟩=>by rw[hvs,GK,dd.length]; exact len _ ds r h) λcdv A outer s H vs Q E hr' ⟨M,bs,u,us,W,ds,r,hvs,hM,nd,hp,dd,h,q⟩=>?_;subst hvs;have key:=body W ds r h (λv cs=>v=u/\cs=bs) cdv A outer s H E ⟨hr',rfl,hb,IH⟩
 let B0:Nat->List Addr:=λi=>if i=0 then bs else []
 have hB:∀i b,b∈B0 i->i=0/\b∈bs:=λi b z=>by
   by_cases e:i=0
   . simp only[B0,if_pos e]at z; exact⟨e,z⟩
   . simp only[B0,if_neg e]at z; cases z
 have ow:∀b,own (λb=>M b/\b∉bs) B0 b↔M b:=λb=>by
   refine⟨λz=>z.elim (·.1) λ⟨i,z⟩=>hM.1 b (hB i b z).2,λz=>?_⟩;by_cases e:b∈bs
   . exact .inr ⟨0,by simp[B0,e]⟩
   . exact .inl ⟨z,e⟩
 have vw:ak (Hy.hd H M) (Hy.hd H (own (λb=>M b/\b∉bs) B0)):=aw (ak.refl _) λb z=>(ow b).mp z;refine⟨_,key,λb=>M b/\b∉bs,Hy.hd H (·∈bs),B0,⟨aG,?_,λi s hi=>?_,λi b z=>?_,λi j b z1 z2=>((hB i b z1).1).trans ((hB j b z2).1).symm,λb z=>?_,λi b z=>let ⟨o,y,_⟩:=W.al hp b (hB i b z).2; ⟨o,y⟩⟩,λτ B σ H' h S=>?_,λ_ _ _ _ h=>h.elim,λ_ _ _ _ h=>h.elim,λ_ _ _ _ h=>h.elim,λ_ _=>trivial⟩
 . unfold L2.start;simp[dd.length]
 . have hl:=dd.length;unfold L2.start
   match i,hi with
   | 0,hi=>cases hi;exact⟨nd,u,rfl,⟨rfl,rfl⟩,W.fr vw (λ_ _=>rfl) hp⟩
   | i+1,hi=>
     rw[IS]at hi;show bO K _ H ((((us.map some)++_)[i]?).join) _ s;by_cases hlt:i<ds.length
     . rw[Gw (by simpa using hlt),GL,ph hlt]at hi;cases hi;obtain⟨v,e,dv⟩:=dd.get (ph hlt);refine⟨rfl,v,?_,dv.mono vw⟩;rw[Gw (by simpa[hl]using hlt),GL,e];rfl
     . rw[GU (by simpa using hlt),HI]at hi;split at hi
       . cases hi; rfl
       . cases hi
 . unfold Hy.hd;rw[if_pos (hB i b z).2]
 . obtain⟨o,y⟩:=hM.2 b z.1;exact⟨o,ax.mpr ⟨λe=>z.2 e,y⟩⟩
 . obtain⟨_,u',_,⟨h1,h2⟩,h3⟩:=S.sl 0 _ h;subst h1
   have sub:∀b,M b->own (λb=>M b/\b∉bs) B b:=λb z=>by
     by_cases e:b∈bs
     . exact .inr ⟨0,by rw[h2]; exact e⟩
     . exact .inl ⟨z,e⟩
   rw[h2]at h3;exact q H' (λb o ne z=>S.same b o (ax.mpr ⟨ne,z⟩)) (r.fr (aw (ak.refl _) sub) (λ_ _=>rfl) h3)
theorem fnV {x qual:Str}{st:Stmt}{f:Addr}{fd:FuncData}{N ps:List Str}{k:Nat}{Φ:Wx->List D->Sl->Prop}{e:Expr}{p2:Pos}{M':Wx->Wx->List D->List Sl->Prop}(F:Fun K x qual st f fd)(S:aj N ps (ag st))(hb:∀x∈ah,mg x=none)(len:∀W ds r,Φ W ds r->ds.length+1=ps.length)
   (hbody:aY st=(aY st).dropLast++[.Return (some e) p2])
   (hM:∀W' W ds τ,M' W' W ds τ->τ[0]?=some (.w W'))
   (hret:∀W ds r,Φ W ds r->∀W',LeW W' W->∀τ,M' W' W ds τ->∀cdv A outer s H E0,Bk (Xc P w K mg base N qual st f cdv A outer s H E0) k->PE (Xc P w K mg base N qual st f cdv A outer s H E0) e (dE K true τ r))
   (body:∀W ds r,Φ W ds r->∀W',LeW W' W->∀cdv A outer s H E0,Bk (Xc P w K mg base N qual st f cdv A outer s H E0) k->PSs (Xc P w K mg base N qual st f cdv A outer s H E0) (aY st).dropLast (dS K (.w W'::(ds.map .d++GA (N.length-(ds.length+1)) .un)) { nx:=M' W' W ds,rt:=λ_=>False })) :
   aH P w K mg base CX0 (k+1) f fd ps (spV K Φ):=by
 refine F.ok S (λvs H Q E ⟨M,bs,u,us,W,ds,r,hvs,_,_,_,dd,h,_⟩=>by rw[hvs,GK,dd.length]; exact len _ ds r h) λcdv A outer s H vs Q E hr' ⟨M,bs,u,us,W,ds,r,hvs,hH,nd,hp,dd,h,q⟩=>?_;subst hvs;have Bb:Bk (Xc P w K mg base N qual st f cdv A outer s H E) k:=⟨hr',rfl,hb,IH⟩;have hle:LeW (uk W u bs H) W:=LeW.keep W u bs H;have last:PSs (Xc P w K mg base N qual st f cdv A outer s H E) [.Return (some e) p2] λD σ H'=>∃τ,M' (uk W u bs H) W ds τ/\∃A H₀ B,Sta K A H₀ τ B σ H'/\∀v H2 cs,ak H' H2->Fr H' H2 cs->bO K (Hy.hd H2 λb=>own A B b\/b∈cs) H2 (some v) cs r->D.rt v H2:=λpins s' σ H' D I ⟨τ,hm,A1,H₀,B,S,q⟩=>kq (k9 (pos:=p2) (hret W ds r h _ hle τ hm cdv A outer s H E Bb)) pins s' σ H' D I ⟨A1,H₀,B,S,q⟩;have key:=u3 (body W ds r h _ hle cdv A outer s H E Bb) last;rw[<- hbody]at key
 let B0:Nat->List Addr:=λi=>if i=0 then bs else []
 have hB:∀i b,b∈B0 i->i=0/\b∈bs:=λi b z=>by
   by_cases e:i=0
   . simp only[B0,if_pos e]at z; exact⟨e,z⟩
   . simp only[B0,if_neg e]at z; cases z
 have ow:∀b,own (λb=>M b/\b∉bs) B0 b↔M b:=λb=>by
   refine⟨λz=>z.elim (·.1) λ⟨i,z⟩=>hH.1 b (hB i b z).2,λz=>?_⟩;by_cases e:b∈bs
   . exact .inr ⟨0,by simp[B0,e]⟩
   . exact .inl ⟨z,e⟩
 have vw:ak (Hy.hd H M) (Hy.hd H (own (λb=>M b/\b∉bs) B0)):=aw (ak.refl _) λb z=>(ow b).mp z;refine⟨_,key,λb=>M b/\b∉bs,Hy.hd H (·∈bs),B0,⟨aG,?_,λi s hi=>?_,λi b z=>?_,λi j b z1 z2=>((hB i b z1).1).trans ((hB j b z2).1).symm,λb z=>?_,λi b z=>let ⟨o,y,_⟩:=W.al hp b (hB i b z).2; ⟨o,y⟩⟩,λτ B σ H' h S=>?_,λ_ _ _ _ h=>h.elim,λ_ _ _ _ h=>h.elim,λ_ _ _ _ h=>h.elim,λ_ _=>trivial⟩
 . unfold L2.start;simp[dd.length]
 . have hl:=dd.length;unfold L2.start
   match i,hi with
   | 0,hi=>cases hi;exact⟨nd,u,rfl,rfl,rfl,λ_ _=>rfl,W.fr vw (λ_ _=>rfl) hp⟩
   | i+1,hi=>
     rw[IS]at hi;show bO K _ H ((((us.map some)++_)[i]?).join) _ s;by_cases hlt:i<ds.length
     . rw[Gw (by simpa using hlt),GL,ph hlt]at hi;cases hi;obtain⟨v,e,dv⟩:=dd.get (ph hlt);refine⟨rfl,v,?_,dv.mono vw⟩;rw[Gw (by simpa[hl]using hlt),GL,e];rfl
     . rw[GU (by simpa using hlt),HI]at hi;split at hi
       . cases hi; rfl
       . cases hi
 . unfold Hy.hd;rw[if_pos (hB i b z).2]
 . obtain⟨o,y⟩:=hH.2 b z.1;exact⟨o,ax.mpr ⟨λe=>z.2 e,y⟩⟩
 . obtain⟨_,u',_,h1,h2,h3,h4⟩:=S.sl 0 _ (hM _ _ _ _ h);subst h1
   have sub:∀b,M b->own (λb=>M b/\b∉bs) B b:=λb z=>by
     by_cases e:b∈bs
     . exact .inr ⟨0,by rw[h2]; exact e⟩
     . exact .inl ⟨z,e⟩
   have sm:ak H H':=λb o z=>by
     by_cases e:b∈bs
     . rw[h3 b e]; exact z
     . exact S.same b o (ax.mpr ⟨e,z⟩)
   refine⟨τ,h,_,_,_,S,λv H2 cs e2 fr z=>q v H2 cs (sm.trans e2) (λb hb=>⟨?_,(fr b hb).2⟩) (z.mono (aw (ak.refl _) λb z=>z.imp (sub b) id) (ak.refl _))⟩;have:=(fr b hb).1;cases y:H b with
   | none=>rfl
   | some o=>rw[sm b o y]at this; cases this
theorem Cv {x qual:Str}{st:Stmt}{f:Addr}{fd:FuncData}{N ps:List Str}{k:Nat}{Φ:Wx->List D->Prop}{M':Wx->Wx->List D->List Sl->Prop}(F:Fun K x qual st f fd)(S:aj N ps (ag st))(hb:∀x∈ah,mg x=none)(len:∀W ds,Φ W ds->ds.length+1=ps.length)
   (hM:∀W' W ds τ,M' W' W ds τ->τ[0]?=some (.w W'))
   (body:∀W ds,Φ W ds->∀W',LeW W' W->∀cdv A outer s H E0,Bk (Xc P w K mg base N qual st f cdv A outer s H E0) k->PSs (Xc P w K mg base N qual st f cdv A outer s H E0) (aY st) (dS K (.w W'::(ds.map .d++GA (N.length-(ds.length+1)) .un)) { nx:=M' W' W ds,rt:=λ_=>False })) :
   aH P w K mg base CX0 (k+1) f fd ps (spV K λW ds s=>Φ W ds/\s=.d .non):=by
 refine F.ok S (λvs H Q E ⟨M,bs,u,us,W,ds,r,hvs,_,_,_,dd,h,_⟩=>by rw[hvs,GK,dd.length]; exact len _ ds h.1) λcdv A outer s H vs Q E hr' ⟨M,bs,u,us,W,ds,r,hvs,hH,nd,hp,dd,h,q⟩=>?_;subst hvs;have Bb:Bk (Xc P w K mg base N qual st f cdv A outer s H E) k:=⟨hr',rfl,hb,IH⟩;have hle:LeW (uk W u bs H) W:=LeW.keep W u bs H;obtain⟨h,rfl⟩:=h;have key:=body W ds h _ hle cdv A outer s H E Bb
 let B0:Nat->List Addr:=λi=>if i=0 then bs else []
 have hB:∀i b,b∈B0 i->i=0/\b∈bs:=λi b z=>by
   by_cases e:i=0
   . simp only[B0,if_pos e]at z; exact⟨e,z⟩
   . simp only[B0,if_neg e]at z; cases z
 have ow:∀b,own (λb=>M b/\b∉bs) B0 b↔M b:=λb=>by
   refine⟨λz=>z.elim (·.1) λ⟨i,z⟩=>hH.1 b (hB i b z).2,λz=>?_⟩;by_cases e:b∈bs
   . exact .inr ⟨0,by simp[B0,e]⟩
   . exact .inl ⟨z,e⟩
 have vw:ak (Hy.hd H M) (Hy.hd H (own (λb=>M b/\b∉bs) B0)):=aw (ak.refl _) λb z=>(ow b).mp z;refine⟨_,key,λb=>M b/\b∉bs,Hy.hd H (·∈bs),B0,⟨aG,?_,λi s hi=>?_,λi b z=>?_,λi j b z1 z2=>((hB i b z1).1).trans ((hB j b z2).1).symm,λb z=>?_,λi b z=>let ⟨o,y,_⟩:=W.al hp b (hB i b z).2; ⟨o,y⟩⟩,λτ B σ H' h S=>?_,λ_ _ _ _ h=>h.elim,λ_ _ _ _ h=>h.elim,λ_ _ _ _ h=>h.elim,λ_ _=>trivial⟩
 . unfold L2.start;simp[dd.length]
 . have hl:=dd.length;unfold L2.start
   match i,hi with
   | 0,hi=>cases hi;exact⟨nd,u,rfl,rfl,rfl,λ_ _=>rfl,W.fr vw (λ_ _=>rfl) hp⟩
   | i+1,hi=>
     rw[IS]at hi;show bO K _ H ((((us.map some)++_)[i]?).join) _ s;by_cases hlt:i<ds.length
     . rw[Gw (by simpa using hlt),GL,ph hlt]at hi;cases hi;obtain⟨v,e,dv⟩:=dd.get (ph hlt);refine⟨rfl,v,?_,dv.mono vw⟩;rw[Gw (by simpa[hl]using hlt),GL,e];rfl
     . rw[GU (by simpa using hlt),HI]at hi;split at hi
       . cases hi; rfl
       . cases hi
 . unfold Hy.hd;rw[if_pos (hB i b z).2]
 . obtain⟨o,y⟩:=hH.2 b z.1;exact⟨o,ax.mpr ⟨λe=>z.2 e,y⟩⟩
 . obtain⟨_,u',_,h1,h2,h3,h4⟩:=S.sl 0 _ (hM _ _ _ _ h);subst h1
   have sub:∀b,M b->own (λb=>M b/\b∉bs) B b:=λb z=>by
     by_cases e:b∈bs
     . exact .inr ⟨0,by rw[h2]; exact e⟩
     . exact .inl ⟨z,e⟩
   have sm:ak H H':=λb o z=>by
     by_cases e:b∈bs
     . rw[h3 b e]; exact z
     . exact S.same b o (ax.mpr ⟨e,z⟩)
   exact q .non H' [] sm (λ_ z=>nomatch z) ⟨rfl,_,rfl,.non⟩
end
noncomputable def b6 (K:gV)(G:Hp):List (Key×V)->List (Str×D)->Prop
 | [],[]=>True
 | p::r,q::m=>(p.1=.inr q.1/\Den K G p.2 q.2)/\b6 K G r m
 | _,_=>False
noncomputable def aU (m:List (Str×D))(n:Str):Option D:=(m.find? λp=>decide (p.1=n)).map (·.2)
noncomputable def fh (m:List (Str×D))(n:Str)(d:D):List (Str×D):=if (m.any λp=>decide (p.1=n))=true then m.map (λp=>if p.1=n then (p.1,d) else p) else m++[(n,d)]
section
variable {K:gV}{G G':Hp}
theorem b6.mono (g:ak G G'):∀{kvs:List (Key×V)} {m:List (Str×D)},b6 K G kvs m->b6 K G' kvs m
 | [],[],_=>trivial
 | _::_,_::_,⟨⟨a,b⟩,c⟩=>⟨⟨a,b.mono g⟩,b6.mono g c⟩
 | [],_::_,h=>h.elim
 | _::_,[],h=>h.elim
theorem b6.len:∀{kvs:List (Key×V)} {m:List (Str×D)},b6 K G kvs m->kvs.length=m.length
 | [],[],_=>rfl
 | _::_,_::_,⟨_,c⟩=>by rw[GK,GK,b6.len c]
 | [],_::_,h=>h.elim
 | _::_,[],h=>h.elim
theorem b6.look (n:Str):∀{kvs:List (Key×V)} {m:List (Str×D)},b6 K G kvs m->(cG kvs (.inr n)=none/\aU m n=none)\/∃v d,cG kvs (.inr n)=some v/\aU m n=some d/\Den K G v d
 | [],[],_=>.inl ⟨rfl,rfl⟩
 | p::r,q::m,⟨⟨a,b⟩,c⟩=>by
   by_cases e:q.1=n
   . exact .inr ⟨p.2,q.2,bC (by rw[a,e]),by simp[aU,e],b⟩
   . have e':¬p.1=.inr n:=λz=>e (by rw[a]at z; exact JI z);rw[bG e',show aU (q::m) n=aU m n by simp[aU,e]];exact b6.look n c
 | [],_::_,h=>h.elim
 | _::_,[],h=>h.elim
theorem b6.any (n:Str):∀{kvs:List (Key×V)} {m:List (Str×D)},b6 K G kvs m->(kvs.any λkv=>decide (kv.1=.inr n))=m.any λp=>decide (p.1=n)
 | [],[],_=>rfl
 | p::r,q::m,⟨⟨a,b⟩,c⟩=>by rw[IU,IU,b6.any n c,a];simp
 | [],_::_,h=>h.elim
 | _::_,[],h=>h.elim
theorem b6.map {n:Str}{v:V}{d:D}(dv:Den K G v d):∀{kvs:List (Key×V)} {m:List (Str×D)},b6 K G kvs m->b6 K G (kvs.map λkv=>if kv.1=.inr n then (kv.1,v) else kv) (m.map λp=>if p.1=n then (p.1,d) else p)
 | [],[],_=>trivial
 | p::r,q::m,⟨⟨a,b⟩,c⟩=>by
   rw[GP,GP];refine⟨?_,b6.map dv c⟩;by_cases e:q.1=n
   . rw[if_pos e,if_pos (by rw[a,e])]; exact⟨a,dv⟩
   . rw[if_neg e,if_neg (λz=>e (by rw[a]at z; exact JI z))]; exact⟨a,b⟩
 | [],_::_,h=>h.elim
 | _::_,[],h=>h.elim
theorem b6.app {n:Str}{v:V}{d:D}(dv:Den K G v d):∀{kvs:List (Key×V)} {m:List (Str×D)},b6 K G kvs m->b6 K G (kvs++[(.inr n,v)]) (m++[(n,d)])
 | [],[],_=>⟨⟨rfl,dv⟩,trivial⟩
 | _::_,_::_,⟨a,c⟩=>⟨a,b6.app dv c⟩
 | [],_::_,h=>h.elim
 | _::_,[],h=>h.elim
theorem b6.put {n:Str}{v:V}{d:D}{kvs:List (Key×V)}{m:List (Str×D)}(h:b6 K G kvs m)(dv:Den K G v d):b6 K G (putK kvs (.inr n) v) (fh m n d):=by
 unfold putK fh;rw[h.any n];split
 . exact h.map dv
 . exact h.app dv
end
noncomputable def wkW (C:Addr)(m:List (Str×D))(ds:List D):Wx where
 p:=λK G H u bs=>∃x dx kd dl kvs vs,bs=[x,dx,kd,dl]/\u=.ref x/\H x=some (.ins C dx [("kept",.ref kd),("deeds",.ref dl)])/\H dx=some (.own x)/\H kd=some (.dK kvs)/\H dl=some (.lst vs)/\b6 K G kvs m/\ay K G vs ds
 fr:=λ{K G G' H H' u bs} g e h=>by obtain⟨x,dx,kd,dl,kvs,vs,h0,h1,h2,h3,h4,h5,h6,h7⟩:=h;subst h0;exact⟨x,dx,kd,dl,kvs,vs,rfl,h1,by rw[e x (by simp)]; exact h2,by rw[e dx (by simp)]; exact h3,by rw[e kd (by simp)]; exact h4,by rw[e dl (by simp)]; exact h5,h6.mono g,h7.mono g⟩
 al:=λ{K G H u bs} h b hb=>by
   obtain⟨x,dx,kd,dl,kvs,vs,h0,h1,h2,h3,h4,h5,h6,h7⟩:=h;subst h0;simp only[xb,Hl,or_false]at hb;rcases hb with rfl | rfl | rfl | rfl
   . exact⟨_,h2,trivial⟩
   . exact⟨_,h3,trivial⟩
   . exact⟨_,h4,trivial⟩
   . exact⟨_,h5,trivial⟩
theorem wkW.ins {K:gV}{C:Addr}{m:List (Str×D)}{ds:List D}{f:Str}(h:(f==("kept" : Str))=false/\(f==("deeds" : Str))=false):A7 K C f (wkW C m ds):=λ{G H u bs} ⟨x,dx,kd,dl,kvs,vs,h0,h1,h2,_⟩=>⟨x,dx,_,h1,h2,by simp[G6,h.1,h.2]⟩
def dKp (K:gV)(τ:List Sl)(m:List (Str×D)):TE:=λσ H Q=>∃A H₀ B,Sta K A H₀ τ B σ H/\∀kd kvs,H kd=some (.dK kvs)->b6 K (hd H (own A B)) kvs m->Q (.ref kd) H
section
variable {X:Cx}{τ:List Sl}{e o:Expr}{pos q apos cpos:Pos}{k:Nat}{N:Po}{rest:List Stmt}{ds:List D}{W:Wx}{s:Sl}{R:V->List Addr->Prop}{C:Addr}{m:List (Str×D)}{n:Str}{d:D}
theorem cI (i:Nat){nk:Str}(hc:Cls X.K C)(hn:a8 X.K C "kept")(hi:τ[i]?=some (.w W))(hle:LeW W (wkW C m ds))(hb:attributeBase (.Name nk q) "kept" X.env (eval (.Name nk q) X.env)=eval (.Name nk q) X.env:=by rfl)(hNi:X.N[i]?=some nk:=by rfl)
   (hv:Vis X.env.scope nk:=by first | exact Hh rfl | exact G0 (Hh rfl) | exact G0 (G0 rfl)) (hd1:(nk==("__debug__" : Str))=false:=by decide) (hcd:(nk==("__classdict__" : Str))=false:=by decide) :
   PE X (.Attribute (.Name nk q) "kept" apos) (dKp X.K τ m):=by
 refine peW (r9 (a4 (i:=i) hNi hv hd1 hcd) hb) λσ H Q ⟨A,H₀,B,S,kk⟩=>?_;obtain⟨nd,u,h2,wp⟩:=S.sl i _ hi;obtain⟨x,dx,kd,dl,kvs,vs,h0,rfl,h3,_,h5,_,h7,_⟩:=hle wp;exact⟨_,slot_of h2,x,C,dx,_,.ref kd,rfl,h3,hc,hn,rfl,kk kd kvs h5 h7⟩
theorem Gb (hu:X.A.units+1<cLine)(hx:PE X e (dE X.K true τ (.d (.str n))))(ho:PE X o (dKp X.K τ m)):PC X .In e o (dE X.K true τ (.d (.bl (aU m n).isSome))):=by
 intro pins s σ H Q I h;refine Dg hu hx ho pins s σ H Q I ?_;obtain⟨A,H₀,B,S,kk⟩:=ck h;refine aF S λv H1 e1 d1=>⟨A,H₀,B,S.mono e1,λkd kvs hk ok=>?_⟩;cases d1;refine⟨kd,_,rfl,fS.k (k:=.inr n) hk,?_⟩;have:(cG kvs (.inr n)).isSome=(aU m n).isSome:=by rcases ok.look n with ⟨z1,z2⟩ | ⟨_,_,z1,z2,_⟩ <;> rw[z1,z2] <;> rfl
 rw[this];exact kk _ H1 e1 .bl
theorem rm (hu:X.A.units+1<cLine)(ho:PE X o (dKp X.K τ m))(hx:PE X e (dE X.K true τ (.d (.str n))))(hs:k6 e)(hd:aU m n=some d):PE X (.Subscript o e pos) (dE X.K true τ (.d d)):=by
 intro pins s σ H Q I h;refine vj hu ho hx hs pins s σ H Q I ?_;obtain⟨A,H₀,B,S,kk⟩:=ck h;refine⟨A,H₀,B,S,λkd kvs hk ok=>aF S λv H1 e1 d1=>?_⟩;cases d1;rcases ok.look n with ⟨_,z2⟩ | ⟨v,d',z1,z2,z3⟩
 . rw[hd]at z2; cases z2
 . rw[hd]at z2; cases z2;exact⟨kd,v,rfl,z1▸fS.k (k:=.inr n) (e1 _ _ hk),kk _ H1 e1 (z3.mono (aw e1 λ_ z=>z))⟩
theorem Ey (hu:X.A.units+1<cLine)(ho:PE X o (dKp X.K τ m))(hx:PE X e (dE X.K true τ (.d (.str n))))(mm:M1 X o "get" apos e cpos):PE X (.Call (.Attribute o "get" apos) [e] [] cpos) (dE X.K true τ (.d ((aU m n).getD .non))):=by
 intro pins s σ H Q I h;refine yS hu ho hx mm pins s σ H Q I ?_;obtain⟨A,H₀,B,S,kk⟩:=ck h;refine⟨A,H₀,B,S,λkd kvs hk ok=>⟨kd,rfl,⟨kvs,.of hk⟩,aF S λv H1 e1 d1=>?_⟩⟩;cases d1;refine⟨_,fS.k (k:=.inr n) (e1 _ _ hk),?_⟩;rcases ok.look n with ⟨z1,z2⟩ | ⟨v,d',z1,z2,z3⟩
 . rw[z1]; exact kk _ H1 e1 (by rw[z2]; exact .non)
 . rw[z1]; exact kk _ H1 e1 (by rw[z2]; exact z3.mono (aw e1 λ_ z=>z))
theorem CZ (i:Nat){nk:Str}{x:D}{a1 ap cp:Pos}(hc:Cls X.K C)(hn:a8 X.K C "deeds")(he:PE X e (dE X.K true τ (.d x)))(hl:ds.length<1000000)(hi:τ[i]?=some (.w (dQ R (wkW C m ds))))(hr:PSs X rest (dS X.K (τ.set i (.w (dQ R (wkW C m (ds++[x]))))) N))(hNi:X.N[i]?=some nk:=by rfl)
   (hb:attributeBase (.Name nk q) "deeds" X.env (eval (.Name nk q) X.env)=eval (.Name nk q) X.env:=by rfl)
   (hv:Vis X.env.scope nk:=by first | exact Hh rfl | exact G0 (Hh rfl) | exact G0 (G0 rfl)) (hd1:(nk==("__debug__" : Str))=false:=by decide) (hcd:(nk==("__classdict__" : Str))=false:=by decide)
   (hfew:((backTo cp (starEach [e] X.env)).all (λx=>!x.1)&&(backToKw cp (keywordEach [] X.env)).all (λx=>x.1.isSome)&&decide (([e]:List Expr).length+([]:List Keyword).length+(if ([]:List Keyword).isEmpty then 0 else 1)<30))=true:=by rfl)
   (hline:(ap.endLine==cp.line)=true:=by rfl) (hst:starEach [e] X.env=(false,eval e X.env)::starEach [] X.env:=by rfl) (hpl:(backTo cp (starEach [] X.env)).any (·.1)=false:=by rfl)
   (hs:swapsWith (.Call (.Attribute (.Attribute (.Name nk q) "deeds" a1) "append" ap) [e] [] cp) none pos.line X.env=pure false:=by rfl) (hbase:attributeBase (.Attribute (.Name nk q) "deeds" a1) "append" X.env (eval (.Attribute (.Name nk q) "deeds" a1) X.env)=eval (.Attribute (.Name nk q) "deeds" a1) X.env:=by rfl) :
   PSs X (.Expr (.Call (.Attribute (.Attribute (.Name nk q) "deeds" a1) "append" ap) [e] [] cp) pos::rest) (dS X.K τ N):=
 bh (M:=(·=τ.set i (.w (dQ R (wkW C m (ds++[x])))))) (psW (fF (vC Ih JY Lc gL (r9 (a4 (i:=i) hNi hv hd1 hcd) hb) (bw he c8 hst) hbase hfew hline hst hpl) hs) λD σ H ⟨A,H₀,B,S,Me⟩=>by
   obtain⟨nd,u,h2,r,x0,dx,kd,dl,kvs,vs,h0,rfl,h3,h4,h5,h6,h7,h8⟩:=S.sl i _ hi;refine⟨_,slot_of h2,x0,C,dx,_,.ref dl,rfl,h3,hc,hn,rfl,.inl ⟨rfl,_,SqL.of h6⟩,aF S λv H1 e1 d1=>⟨dl,vs,v,rfl,rfl,e1 _ _ h6,by rw[h8.length]; exact HP hl (by decide),?_⟩⟩;rw[h0]at nd;simp only[Ha,xb,Hl,or_false,not_or]at nd;obtain⟨⟨_,_,n1⟩,⟨_,n2⟩,n3,_⟩:=nd;have bt:qt (B i) H1 (upd H1 dl (.lst (vs++[v]))):=λb o z y=>by rw[ar (λw:b=dl=>z (by rw[h0,w]; simp))]; exact y
   have sm:ak (hd H1 (own A B)) (hd (upd H1 dl (.lst (vs++[v]))) (own A B)):=bt.hd λb z=>.inr ⟨i,z⟩;have sm0:ak (hd H (own A B)) (hd (upd H1 dl (.lst (vs++[v]))) (own A B)):=(aw e1 λ_ z=>z).trans sm;exact Me.nx _ _ _ _ rfl ((S.mono e1).AR hi h2 bt ⟨r,x0,dx,kd,dl,kvs,vs++[v],h0,rfl,by rw[ar n1]; exact e1 _ _ h3,by rw[ar n2]; exact e1 _ _ h4,by rw[ar n3]; exact e1 _ _ h5,au,h7.mono sm0,(h8.mono sm0).append (.cons (d1.mono sm) .nil)⟩)) λ_ e=>e▸hr
theorem D3 (i:Nat){nk:Str}{x:D}{y:Expr}{a1 pos':Pos}(hu:X.A.units+1<cLine)(hc:Cls X.K C)(hn:a8 X.K C "kept")(he:PE X e (dE X.K true τ (.d x)))(hy:PE X y (dE X.K true τ (.d (.str n))))(hl:m.length<sizeLine)(hi:τ[i]?=some (.w (dQ R (wkW C m ds))))(hr:PSs X rest (dS X.K (τ.set i (.w (dQ R (wkW C (fh m n x) ds)))) N))(hNi:X.N[i]?=some nk:=by rfl)
   (hb:attributeBase (.Name nk q) "kept" X.env (eval (.Name nk q) X.env)=eval (.Name nk q) X.env:=by rfl)
   (hv:Vis X.env.scope nk:=by first | exact Hh rfl | exact G0 (Hh rfl) | exact G0 (G0 rfl)) (hd1:(nk==("__debug__" : Str))=false:=by decide) (hcd:(nk==("__classdict__" : Str))=false:=by decide)
   (hs:swapsWith e (some (.Subscript (.Attribute (.Name nk q) "kept" a1) y pos')) pos.line X.env=pure false:=by rfl) :
   PSs X (.Assign [.Subscript (.Attribute (.Name nk q) "kept" a1) y pos'] e pos::rest) (dS X.K τ N):=
 bh (M:=(·=τ.set i (.w (dQ R (wkW C (fh m n x) ds))))) (psW (ur hu (r9 (a4 (i:=i) hNi hv hd1 hcd) hb) hy he hs) λD σ H ⟨A,H₀,B,S,Me⟩=>aF S λv H1 e1 d1=>by
   have S1:=S.mono e1;obtain⟨nd,u,h2,r,x0,dx,kd,dl,kvs,vs,h0,rfl,h3,h4,h5,h6,h7,h8⟩:=S1.sl i _ hi;refine⟨_,slot_of h2,x0,C,dx,_,.ref kd,rfl,h3,hc,hn,rfl,aF S1 λw H2 e2 d2=>?_⟩;cases d2;refine⟨kd,_,rfl,yi.k (k:=.inr n) (e2 _ _ h5) (by rw[h7.len]; exact hl),?_⟩;rw[h0]at nd;simp only[Ha,xb,Hl,or_false,not_or]at nd;obtain⟨⟨_,n1,_⟩,⟨n2,_⟩,n3,_⟩:=nd;have bt:qt (B i) H2 (upd H2 kd (.dK (putK kvs (.inr n) v))):=λb o z y=>by rw[ar (λw:b=kd=>z (by rw[h0,w]; simp))]; exact y
   have sm:ak (hd H2 (own A B)) (hd (upd H2 kd (.dK (putK kvs (.inr n) v))) (own A B)):=bt.hd λb z=>.inr ⟨i,z⟩;have sm0:ak (hd H1 (own A B)) (hd (upd H2 kd (.dK (putK kvs (.inr n) v))) (own A B)):=(aw e2 λ_ z=>z).trans sm;exact Me.nx _ _ _ _ rfl ((S1.mono e2).AR hi h2 bt ⟨r,x0,dx,kd,dl,_,vs,h0,rfl,by rw[ar n1]; exact e2 _ _ h3,by rw[ar n2]; exact e2 _ _ h4,au,by rw[ar (Hi n3)]; exact e2 _ _ h6,(h7.mono sm0).put (d1.mono sm0),h8.mono sm0⟩)) λ_ e=>e▸hr
theorem FF (hu:X.A.units+1<cLine)(hx:PE X e (dE X.K true τ (.d (.str n))))(ho:PE X o (dKp X.K τ m))(h1:behindInMarks .In o=false:=by first | exact lV _ (by decide) (by decide) | rfl):PT X (.Compare e [.In] [o] pos) (dT X.K τ (aU m n).isSome):=ptW (tU (Gb hu hx ho) h1) λσ H Q ⟨A,H₀,B,S,kk⟩=>aF S λv H1 e1 d1=>by cases d1; exact⟨_,rfl,kk H1 e1⟩
theorem AS (hu:X.A.units+1<cLine)(hx:PE X e (dE X.K true τ (.d (.str n))))(ho:PE X o (dKp X.K τ m)):PC X .NotIn e o (dE X.K true τ (.d (.bl (!(aU m n).isSome)))):=by
 intro pins s σ H Q I h;refine v9 hu hx ho pins s σ H Q I ?_;obtain⟨A,H₀,B,S,kk⟩:=ck h;refine aF S λv H1 e1 d1=>⟨A,H₀,B,S.mono e1,λkd kvs hk ok=>?_⟩;cases d1;refine⟨kd,_,rfl,fS.k (k:=.inr n) hk,?_⟩;have:(cG kvs (.inr n)).isSome=(aU m n).isSome:=by rcases ok.look n with ⟨z1,z2⟩ | ⟨_,_,z1,z2,_⟩ <;> rw[z1,z2] <;> rfl
 rw[this];exact kk _ H1 e1 .bl
theorem Ax (hu:X.A.units+1<cLine)(hx:PE X e (dE X.K true τ (.d (.str n))))(ho:PE X o (dKp X.K τ m))(h1:behindInMarks .NotIn o=false:=by first | exact lV _ (by decide) (by decide) | rfl):PT X (.Compare e [.NotIn] [o] pos) (dT X.K τ !(aU m n).isSome):=ptW (tU (AS hu hx ho) h1) λσ H Q ⟨A,H₀,B,S,kk⟩=>aF S λv H1 e1 d1=>by cases d1; exact⟨_,rfl,kk H1 e1⟩
end
def spI (C:Addr):Sp:=λvs H Q _=>∃x,vs=[.ref x]/\H x=some (.ins C (match H x with | some (.ins _ dx _)=>dx | _=>0) [])/\∀H' kd dl,(∀b o,b≠x->H b=some o->H' b=some o)->H kd=none->H dl=none->kd≠dl->H' x=some (.ins C (match H x with | some (.ins _ dx _)=>dx | _=>0) [("kept",.ref kd),("deeds",.ref dl)])->H' kd=some (.dK [])->H' dl=some (.lst [])->Q .non H'
section
variable {P:Program}{w:World}{K:gV}{mg:Str->Option Value}{base:Heap}
theorem fnI {x qual sn:Str}{st:Stmt}{f C:Addr}{fd:FuncData}{N ps:List Str}{k:Nat}{p1 p2 p3 p4 q1 q3 a1 a2:Pos}(F:Fun K x qual st f fd)(S:aj N ps (ag st))(hps:ps.length=1)(hc:Cls K C)(hn1:a8 K C "kept")(hn2:a8 K C "deeds")
   (hbody:aY st=[.Assign [.Attribute (.Name sn q1) "kept" a1] (.Dict [] [] p1) p2,.Assign [.Attribute (.Name sn q3) "deeds" a2] (.List [] p3) p4])
   (hN:N=[sn]) (hd1:(sn==("__debug__" : Str))=false) (hcd:(sn==("__classdict__" : Str))=false)
   (hv:∀cdv A outer s H E0,Vis (Xc P w K mg base N qual st f cdv A outer s H E0).env.scope sn)
   (hs1:∀cdv A outer s H E0,swapsWith (.Dict [] [] p1) (some (.Attribute (.Name sn q1) "kept" a1)) p2.line (Xc P w K mg base N qual st f cdv A outer s H E0).env=pure false)
   (hs2:∀cdv A outer s H E0,swapsWith (.List [] p3) (some (.Attribute (.Name sn q3) "deeds" a2)) p4.line (Xc P w K mg base N qual st f cdv A outer s H E0).env=pure false) :
   aH P w K mg base CX0 (k+1) f fd ps (spI C):=by
 refine F.ok S (λvs H Q E ⟨x,hvs,_⟩=>by rw[hvs,hps]; rfl) λcdv A outer s H vs Q E hr ⟨x,hvs,hx,q⟩=>?_;subst hvs;have var:∀{q1:Pos},PE (Xc P w K mg base N qual st f cdv A outer s H E) (.Name sn q1) (Dp 0):=a4 (i:=0) (by show N[0]?=_; rw[hN]; rfl) (hv cdv A outer s H E) hd1 hcd;have key:=qC (x5 var rS (hs1 cdv A outer s H E)) (kq (x5 var (xV c8) (hs2 cdv A outer s H E)));rw[<- hbody]at key;refine⟨_,key,λkd hk=>?_⟩;generalize (match H x with | some (.ins _ dx _)=>dx | _=>0:Addr)=dx at hx q;have nx:kd≠x:=λe=>by rw[e,hx]at hk; cases hk
 refine⟨_,rfl,x,C,dx,[],rfl,by rw[ar (Hi nx)]; exact hx,hc,hn1,by decide,G5 _,λdl hl=>⟨_,rfl,x,C,dx,[("kept",.ref kd)],rfl,?_⟩⟩;have n1:dl≠x:=λe=>by rw[e,au]at hl; cases hl
 rw[ar n1]at hl;have n2:dl≠kd:=λe=>by rw[e,au]at hl; cases hl
 rw[ar n2]at hl;refine⟨by rw[ar (Hi n1)]; exact au,hc,hn2,(by decide:1<1000),?_⟩;refine q _ kd dl (λb o ne z=>?_) hk hl (Hi n2) au (by rw[ar nx,ar (Hi n2),ar nx]; exact au) (by rw[ar n1]; exact au);have m1:b≠kd:=λe=>by rw[e,hk]at z; cases z
 have m2:b≠dl:=λe=>by rw[e,hl]at z; cases z
 rw[ar ne,ar m2,ar ne,ar m1];exact z
end
section
variable {X:Cx}{τ:List Sl}{p pos:Pos}{k:Nat}{f C:Addr}{fd:FuncData}{ps:List Str}{n:Str}
theorem AJ (Bb:Bk X (k+1))(M:Mk X.K C f)(F:aH X.prog X.w X.K X.mg X.base CX0 k f fd ps (spI C))(hb:Binds X.K fd ps [])(hg:Gl X n)(hm:X.mg n=some (.ref C))(hdb:(n==("__debug__" : Str))=false:=by decide):
   PE X (.Call (.Name n p) [] [] pos) (dE X.K true τ (.w (dQ (λ_ _=>True) (wkW C [] [])))):=by
 refine peW (yt M F Bb.room hg hm hb .nil jX hdb) λσ H Q ⟨A,H₀,B,S,kk⟩=>?_;intro x dx hx hdx hne;refine⟨x,rfl,by rw[au],λH' kd dl b1 k1 k2 k3 y1 y2 y3=>⟨rfl,?_⟩⟩;rw[au]at y1;have e1:kd≠x:=λe=>by rw[e,au]at k1; cases k1
 have e2:dl≠x:=λe=>by rw[e,au]at k2; cases k2
 rw[ar e1]at k1;rw[ar e2]at k2;have e3:kd≠dx:=λe=>by rw[e,au]at k1; cases k1
 have e4:dl≠dx:=λe=>by rw[e,au]at k2; cases k2
 rw[ar e3]at k1;rw[ar e4]at k2;have y4:H' dx=some (.own x):=b1 dx _ hne (by rw[ar hne]; exact au);refine kk (.ref x) H' [x,dx,kd,dl] (λb o z=>?_) (λb hb=>?_) ⟨?_,_,rfl,trivial,x,dx,kd,dl,[],[],rfl,rfl,y1,y4,y2,y3,trivial,.nil⟩
 . have ne:b≠x:=λe=>by rw[e,hx]at z; cases z
   have ne2:b≠dx:=λe=>by rw[e,hdx]at z; cases z
   exact b1 b o ne (by rw[ar ne,ar ne2]; exact z)
 . simp only[xb,Hl,or_false]at hb;rcases hb with rfl | rfl | rfl | rfl
   . exact⟨hx,_,y1⟩
   . exact⟨hdx,_,y4⟩
   . exact⟨k1,_,y2⟩
   . exact⟨k2,_,y3⟩
 . simp only[Ha,xb,Hl,or_false,not_or,JG,and_true,not_false_eq_true];exact⟨⟨Hi hne,Hi e1,Hi e2⟩,⟨Hi e3,Hi e4⟩,k3⟩
end
end Hy
namespace K67
open PySem PySem.Spec PyProof.Rows L2 Hy
open Ev (D Den ay)
noncomputable def o9 (C:Addr):Wx->List D->Wx->Prop:=λW a W'=>∃m ds n x,W=wkW C m ds/\a=[.str n,x]/\m.length<sizeLine/\ds.length<1000000/\W'=wkW C (fh m n x) (ds++[.tup [.str n,(aU m n).getD .non]])
section
variable {P:Program}{w:World}{K:gV}{mg:Str->Option Value}{base:Heap}{qual:Str}{f:Addr}{fd:FuncData}{k:Nat}{C:Addr}
theorem mR (hc:Cls K C)(n1:a8 K C "kept")(n2:a8 K C "deeds")(F:Fun K "keep" qual (mth 54 3) f fd)(hb:∀x∈ah,mg x=none):aH P w K mg base CX0 (k+1) f fd ["self","name","ladder"] (spW K (o9 C)):=by
 refine wk F mL hb (by rintro _ _ _ ⟨_,_,_,_,_,rfl,_⟩; rfl) ?_;rintro _ _ _ ⟨m,ds,n,x,rfl,rfl,h1,h2,rfl⟩ R cdv A outer s H E b;refine CZ 0 hc n2 (bz (ab (aa 1) (ab (Ey (m:=m) (n:=n) ?_ (cI 0 hc n1 rfl (LeW.res _ _)) (aa 1) ⟨rfl,rfl,rfl,rfl⟩) af))) h2 rfl ?_
 . have:=b.room.units; omega
 . refine D3 0 ?_ hc n1 (aa 2) (aa 1) h1 rfl ?_
   . have:=b.room.units; omega
   . exact aK rfl
noncomputable def yn (C:Addr)(Φn:List D->Sl->Prop):Wx->List D->Prop:=λW a=>∃m ds n,W=wkW C m ds/\a=[.str n]/\Φn [.str n] (.d (.bl true))/\aU m n=none
noncomputable def mV (C:Addr)(Φn:List D->Sl->Prop):Wx->List D->Prop:=λW a=>∃m ds n x,W=wkW C m ds/\a=[.str n]/\Φn [.str n] (.d (.bl true))/\aU m n=some x
theorem i8 {Φn:List D->Sl->Prop}(hc:Cls K C)(n1:a8 K C "kept")(F:Fun K "look_new" qual (mth 54 1) f fd)(hb:∀x∈ah,mg x=none)(c_is_name:Cal P w K mg base k "is_name" Φn):aH P w K mg base CX0 (k+1) f fd ["self","name"] (spV K λW a s=>yn C Φn W a/\s=.d .non):=by
 refine Cv (M':=λW' _ _ τ=>τ[0]?=some (.w W')) F i0 hb (by rintro _ _ ⟨_,_,_,_,rfl,_⟩; rfl) (λ_ _ _ _ h=>h) ?_;rintro _ _ ⟨m,ds,n,rfl,rfl,h1,h2⟩ W' hle cdv A outer s H E b;refine bE (PW.pt (cn (a5 (a6 (x_call b c_is_name (ab (aa 1) af) h1))) λh=>(cg (FF (m:=m) (n:=n) ?_ (aa 1) (cI 0 hc n1 rfl hle))))) ?_ ?_
 . have:=b.room.units; omega
 . rw[h2]; rfl
 . exact aK rfl
theorem ij {Φn:List D->Sl->Prop}(hc:Cls K C)(n1:a8 K C "kept")(F:Fun K "look_kept" qual (mth 54 2) f fd)(hb:∀x∈ah,mg x=none)(c_is_name:Cal P w K mg base k "is_name" Φn):aH P w K mg base CX0 (k+1) f fd ["self","name"] (spV K λW a s=>mV C Φn W a/\s=.d .non):=by
 refine Cv (M':=λW' _ _ τ=>τ[0]?=some (.w W')) F ic hb (by rintro _ _ ⟨_,_,_,_,_,rfl,_⟩; rfl) (λ_ _ _ _ h=>h) ?_;rintro _ _ ⟨m,ds,n,x,rfl,rfl,h1,h2⟩ W' hle cdv A outer s H E b;refine bE (PW.pt (cn (a5 (a6 (x_call b c_is_name (ab (aa 1) af) h1))) λh=>(cg (Ax (m:=m) (n:=n) ?_ (aa 1) (cI 0 hc n1 rfl hle))))) ?_ ?_
 . have:=b.room.units; omega
 . rw[h2]; rfl
 . exact aK rfl
noncomputable def zj (C:Addr)(Φn Φl Φo:List D->Sl->Prop):Wx->List D->Wx->Prop:=λW a W'=>∃m ds n x y,W=wkW C m ds/\a=[.str n,x]/\Φn [.str n] (.d (.bl true))/\aU m n=none/\Φl [x] (.d .non)/\Φo [x] (.d y)/\m.length<sizeLine/\ds.length<1000000/\W'=wkW C (fh m n y) (ds++[.tup [.str n,(aU m n).getD .non]])
theorem pE {Φn Φl Φo:List D->Sl->Prop}(hc:Cls K C)(F:Fun K "put" qual (mth 54 4) f fd)(hb:∀x∈ah,mg x=none)(c_new:bA P w K mg base k C "look_new" (spV K λW a s=>yn C Φn W a/\s=.d .non))(c_look_ladder:Cal P w K mg base k "look_ladder" Φl)(c_own:Cal P w K mg base k "own" Φo)(c_keep:bA P w K mg base k C "keep" (spW K (o9 C))):
   aH P w K mg base CX0 (k+1) f fd ["self","name","ladder"] (spW K (zj C Φn Φl Φo)):=by
 refine wk F pb hb (by rintro _ _ _ ⟨_,_,_,_,_,_,rfl,_⟩; rfl) ?_;rintro _ _ _ ⟨m,ds,n,x,y,rfl,rfl,h1,h2,h3,h4,h5,h6,rfl⟩ R cdv A outer s H E b;refine dM (cH 0 b hc c_new (wkW.ins ⟨by decide,by decide⟩) ⟨⟨m,ds,n,rfl,rfl,h1,h2⟩,rfl⟩ rfl (LeW.res _ _) (ab (aa 1) af)) ?_;refine dM (x_call b c_look_ladder (ab (aa 2) af) h3) ?_;refine e7 (dR 0 b hc c_keep (wkW.ins ⟨by decide,by decide⟩) ⟨m,ds,n,y,rfl,rfl,h5,h6,rfl⟩ rfl (ab (aa 1) (ab (x_call b c_own (ab (aa 2) af) h4) af))) ?_;exact aK rfl
noncomputable def qO (C:Addr)(Φn Φo:List D->Sl->Prop):Wx->List D->Sl->Prop:=λW a s=>∃m ds n x,W=wkW C m ds/\a=[.str n]/\Φn [.str n] (.d (.bl true))/\aU m n=some x/\Φo [x] s
theorem ke {Φn Φo:List D->Sl->Prop}(hc:Cls K C)(n1:a8 K C "kept")(F:Fun K "ladder" qual (mth 54 16) f fd)(hb:∀x∈ah,mg x=none)(c_old:bA P w K mg base k C "look_kept" (spV K λW a s=>mV C Φn W a/\s=.d .non))(c_own:Cal P w K mg base k "own" Φo):
   aH P w K mg base CX0 (k+1) f fd ["self","name"] (spV K (qO C Φn Φo)):=by
 refine fnV (M':=λW' _ a τ=>τ=.w W'::a.map .d) F kf hb (by rintro _ _ _ ⟨_,_,_,_,_,rfl,_⟩; rfl) rfl (by rintro _ _ _ _ rfl; rfl) ?_ ?_
 . rintro _ _ _ ⟨m,ds,n,x,rfl,rfl,h1,h2,h3⟩ W' hle _ rfl cdv A outer s H E b;refine x_call b c_own (ab (rm (m:=m) (n:=n) (d:=x) ?_ (cI 0 hc n1 rfl hle) (aa 1) ?_ h2) af) h3
   . have:=b.room.units; omega
   . exact λ_ _=>rfl
 . rintro _ _ _ ⟨m,ds,n,x,rfl,rfl,h1,h2,h3⟩ W' hle cdv A outer s H E b;refine dM (cH 0 b hc c_old (wkW.ins ⟨by decide,by decide⟩) ⟨⟨m,ds,n,x,rfl,rfl,h1,h2⟩,rfl⟩ rfl hle (ab (aa 1) af)) ?_;exact aK rfl
theorem lb {Φn Φo:List D->Sl->Prop}(hc:Cls K C)(n1:a8 K C "kept")(F:Fun K "table" qual (mth 54 17) f fd)(hb:∀x∈ah,mg x=none)(c_old:bA P w K mg base k C "look_kept" (spV K λW a s=>mV C Φn W a/\s=.d .non))(c_table_of:Cal P w K mg base k "table_of" Φo):
   aH P w K mg base CX0 (k+1) f fd ["self","name"] (spV K (qO C Φn Φo)):=by
 refine fnV (M':=λW' _ a τ=>τ=.w W'::a.map .d) F kU hb (by rintro _ _ _ ⟨_,_,_,_,_,rfl,_⟩; rfl) rfl (by rintro _ _ _ _ rfl; rfl) ?_ ?_
 . rintro _ _ _ ⟨m,ds,n,x,rfl,rfl,h1,h2,h3⟩ W' hle _ rfl cdv A outer s H E b;refine x_call b c_table_of (ab (rm (m:=m) (n:=n) (d:=x) ?_ (cI 0 hc n1 rfl hle) (aa 1) ?_ h2) af) h3
   . have:=b.room.units; omega
   . exact λ_ _=>rfl
 . rintro _ _ _ ⟨m,ds,n,x,rfl,rfl,h1,h2,h3⟩ W' hle cdv A outer s H E b;refine dM (cH 0 b hc c_old (wkW.ins ⟨by decide,by decide⟩) ⟨⟨m,ds,n,x,rfl,rfl,h1,h2⟩,rfl⟩ rfl hle (ab (aa 1) af)) ?_;exact aK rfl
end
end K67
namespace Hy
open PySem PySem.Spec PyProof.Rows L2
open Ev (D Den ay ao)
noncomputable def fR (ss:List Str):List Str:=ss.mergeSort λa b=>!decide (b.cps.toList<a.cps.toList)
theorem ni (ss:List Str):(fR ss).Perm ss:=List.mergeSort_perm ss _
theorem AF {a b:Str}(h1:¬a.cps.toList<b.cps.toList)(h2:¬b.cps.toList<a.cps.toList):a=b:=by have e:a.cps.toList=b.cps.toList:=List.le_antisymm (Ju.mp h2) (Ju.mp h1);cases a; cases b;simp only[Str.mk.injEq];exact Array.toList_inj.mp e
theorem Ag (ss:List Str):(fR ss).Pairwise λa b=>¬b.cps.toList<a.cps.toList:=by
 have:=List.pairwise_mergeSort (le:=λa b:Str=>!decide (b.cps.toList<a.cps.toList)) (λa b c h1 h2=>by
   simp only[KN,decide_eq_false_iff_not]at h1 h2 ⊢;exact Ju.mpr (List.le_trans (Ju.mp h1) (Ju.mp h2))) (λa b=>by
   simp only[Bool.or_eq_true,KN,decide_eq_false_iff_not];rcases List.le_total a.cps.toList b.cps.toList with h | h
   . exact .inl (Ju.mpr h)
   . exact .inr (Ju.mpr h)) ss
 exact this.imp λh=>by simpa using h
theorem zZ {ss ss':List Str}(p:ss'.Perm ss)(h:ss'.Pairwise λa b=>¬b.cps.toList<a.cps.toList):ss'=fR ss:=List.Perm.eq_of_pairwise (λa b _ _ h1 h2=>AF h2 h1) h (Ag ss) (p.trans (ni ss).symm)
theorem qu {vs:List Value}{ss:List Str}(hS:StrsAre vs ss){xs:Array Keyed}(hp:xs.Perm (pairsOf vs))(hs:SortedToK PyProof.Rows.strKind xs (pairsOf vs).size):StrsAre (xs.map (·.2)).toList (fR ss):=by
 have hl:xs.toList.Perm (vs.zip vs):=by rw[<- pairsOf_toList]; exact Array.perm_iff_toList_perm.mp hp
 have hmem:∀p,p∈xs.toList->p.1=p.2/\p.1∈vs:=λp hp'=>mem_zip_self (hl.mem_iff.mp hp');have e:(xs.map (·.2)).toList=xs.toList.map (·.1):=by rw[Array.toList_map]; exact GY λp hp'=>(hmem p hp').1.symm
 rw[e]
 have h1:=strsAre_map (xs.toList.map (·.1)) (by
   intro v hv;obtain⟨p,hp',rfl⟩:=Gy.mp hv;exact hS.all _ (hmem p hp').2)
 rw[GO]at h1;have h2:=hl.map (λp=>Ii p.1)
 have e2:(vs.zip vs).map (λp=>Ii p.1)=ss:=by
   have:(vs.zip vs).map (λp=>Ii p.1)=((vs.zip vs).map Prod.fst).map Ii:=by rw[GO]; rfl
   rw[this,List.map_fst_zip (ia _),hS.strs]
 rw[e2]at h2;rw[<- zZ h2 ?_]
 . exact h1
 . rw[List.pairwise_iff_getElem];intro i j hi hj hij;have hi':i<xs.size:=by simpa using hi
   have hj':j<xs.size:=by simpa using hj
   have h1:=hs i j (Ia hij) (by rw[<- hp.size_eq]; exact hj');obtain⟨x,t,ex⟩:=hS.all _ (hmem xs[i] (by simp)).2;obtain⟨y,u,ey⟩:=hS.all _ (hmem xs[j] (by simp)).2;rw[KK_str hi' (x:=x) (t:=t) (q:=xs[i].2) (Prod.ext ex rfl),KK_str hj' (x:=y) (t:=u) (q:=xs[j].2) (Prod.ext ey rfl)]at h1;change decide (y.cps.toList<x.cps.toList)=false at h1;simp only[Il,Array.getElem_toList];rw[show Ii xs[i].1=x by rw[ex]; rfl,show Ii xs[j].1=y by rw[ey]; rfl];exact of_decide_eq_false h1
theorem jo:∀{us:List Value} {ss:List Str},StrsAre us ss->Vals (ss.map V.str) us
 | _,_,.nil=>.nil
 | _,_,.cons x t r=>.cons ⟨t,rfl⟩ (jo r)
theorem mU:∀{us:List Value} {ss:List Str},Vals (ss.map V.str) us->StrsAre us ss
 | [],[],_=>.nil
 | [],_::_,h=>nomatch h
 | _::_,[],h=>nomatch h
 | u::us,n::ns,h=>by
   cases h with
   | cons h1 h2=>obtain⟨t,rfl⟩:=h1;exact .cons n t (mU h2)
theorem qD:∀{as:List Value} {ss:List Str},as.length=ss.length->(∀i (h:i<as.length) (h2:i<ss.length),∃t,as[i]=.str ss[i] t)->StrsAre as ss
 | [],[],_,_=>.nil
 | [],_::_,h,_=>nomatch h
 | _::_,[],h,_=>nomatch h
 | v::as,x::ss,h,f=>by
   obtain⟨t,e⟩:=f 0 (by simp) (by simp);simp only[List.getElem_cons_zero]at e;subst e
   exact .cons x t (qD (by simpa using h) λi h1 h2=>by
     obtain⟨t,e⟩:=f (i+1) (by simpa using h1) (by simpa using h2);exact⟨t,by simpa using e⟩)
theorem kJ {K:gV}{G:Hp}:∀ns:List Str,ay K G (ns.map V.str) (ns.map .str)
 | []=>.nil
 | _::ns=>.cons .str (kJ ns)
theorem pY {K:gV}{G:Hp}:∀{vs:List V} {ns:List Str},ay K G vs (ns.map .str)->vs=ns.map V.str
 | _,[],.nil=>rfl
 | _,n::ns,.cons h r=>by cases h; rw[pY r]; rfl
section
variable {X:Cx}
theorem v7:cX X (.builtin "sorted") (λxs H Q=>∃p ss,xs=[.ref p]/\SqL X.K H p (ss.map V.str)/\ss.length<64/\∀q,H q=none->Q (.ref q) (upd H q (.lst ((fR ss).map V.str)))):=by
 intro pins s σ H xs us Q I r q;obtain⟨p,ss,rfl,hp,hl,q⟩:=q;obtain⟨u,rfl,ru⟩:=vals1 r;cases (show u=GI _ from ru);obtain⟨its,rv,pl,hz⟩:=I.list hp;have hln:its.length=ss.length:=by rw[<- rv.length,fw]
 have hS:=mU rv;refine PyProof.Rows.sortedK Kv pl.isList hS.keysOf (λv₁ v₂ rest e=>Ky (by rw[<- e]; exact hS)) (by omega) λst' a1 a2=>?_;have ho:=qu hS a1 a2;generalize (arrOf st').map (·.2)=out at ho;obtain⟨c,hc'⟩:=PyProof.Rows.sortedAll_at s.heap its out;refine⟨.ref (s.heap.objs.size+1),upd H (s.heap.objs.size+1) (.lst ((fR ss).map V.str)),I.laid (t':=s.toks) (λb o z=>PyProof.Rows.sortedAll_old z) (HH _) (show bj X.prog X.w _ _ _ (.lst ((fR ss).map V.str)) from⟨?_,out.toList,c,jo ho,?_⟩),rfl,q _ (I.hok.fresh (HH _))⟩
 . rw[fw,fR,List.length_mergeSort];have:(64:Nat)<=sizeLine:=by decide
   omega
 . rw[hc']
theorem wC (hc:X.calm=true):cX X (.builtin "sorted") (λxs H Q=>∃d kvs ss,xs=[.ref d]/\H d=some (.dK kvs)/\kvs.map (·.1)=ss.map (JU (α:=Int))/\ss.length<64/\∀q,H q=none->Q (.ref q) (upd H q (.lst ((fR ss).map V.str)))):=by
 intro pins s σ H xs us Q I r q;obtain⟨d,kvs,ss,rfl,hp,hk,hl,q⟩:=q;obtain⟨u,rfl,ru⟩:=vals1 r;cases (show u=GI _ from ru);obtain⟨hz,h0,vs,rel,hD⟩:=rG I.hok hp;obtain⟨ep,hat⟩:=hD.dictAt;have hvs:vs.map (·.1)=ss.map (JU (α:=Int)):=by rw[<- rel.keys,hk]
 have hn:vs.length=ss.length:=by rw[<- fw (f:=(·.1)) (as:=vs),hvs,fw]
 have h64:(64:Nat)<=sizeLine:=by decide
 refine Calls.call_function_entry PyProof.Rows.kind_sorted PyProof.Rows.plain_sorted PyProof.Rows.entry_sorted (PyProof.Rows.args_sorted1 _) ?_;unfold Builtin.«sorted»;refine wpAny_bind (m:=checkCount "sorted" 1 1 _) (wpAny_pure ?_);refine wpAny_bind (PySem.W.kdu_collect (PySem.W.kdl_dict (knd:=bb X.prog X.w) (kvs:=vs) (ep:=ep) h0) (I.ok.hd hc) hat (by omega) λh' tk acc hk' hacc=>?_);have hla:acc.toList.length=ss.length:=by rw[G8,hacc.1,hn]
 have hS:StrsAre acc.toList ss:=qD hla λi h h2=>by
   obtain⟨k,x,e1,e2⟩:=hacc.2 i acc.toList[i] (by rw[<- Jg]; exact ph h);have e3:k=.inr (ss[i]):=by have e:=congrArg (·[i]?) hvs;simp only[GL,e1,ph h2]at e;exact GS e
   subst e3;rcases bc (show L2.lC (JU (ss[i])) acc.toList[i]=true from e2) with ⟨_,_,z,_⟩ | ⟨y,t,z,e⟩
   . cases z
   . cases z; exact⟨t,e⟩
 have I1:Inv X pins σ H { s with heap:=h',toks:=tk }:=I.kept (t':=tk) hk';refine wpAny_bind (wpAny_newList ?_ (by omega));have hoL:(h'.push (seqObj "list" acc.toList.toArray 0)).get? h'.objs.size=some (seqObj "list" acc.toList.toArray 0):=Et _ rfl;refine wpAny_bind (wpAny_holding (wpAny_call_entry PyProof.Rows.slot_list_sort ⟨_,hoL,rfl⟩ PyProof.Rows.entry_list_sort (PyProof.Rows.list_sort_treeK Kv hoL hS.keysOf (λv₁ v₂ rest e=>Ky (by rw[<- e]; exact hS)) (by omega) λst' a1 a2=>⟨_,rfl,?_⟩) (PyProof.Rows.args_list_sort _)));have ho:=qu hS a1 a2;generalize (arrOf st').map (·.2)=out at ho;obtain⟨c,hc'⟩:=PyProof.Rows.sortedHeap_at (out:=out) hoL;refine wpAny_pure ⟨_,rfl,.ref h'.objs.size,upd H h'.objs.size (.lst ((fR ss).map V.str)),I1.laid (t':=tk) (λb o z=>?_) (ia _) (show bj X.prog X.w _ _ _ (.lst ((fR ss).map V.str)) from⟨?_,out.toList,c,jo ho,?_⟩),rfl,q _ (I1.hok.fresh (ia _))⟩
 . have hlt:=Gr z;rw[PyProof.Rows.sortedHeap_old (GR hlt) (by rw[PyProof.Rows.size_push']; exact JR hlt),Heap.get?_push_ne _ _ _ (GR hlt)];exact z
 . rw[fw,fR,List.length_mergeSort];omega
 . rw[hc']
end
theorem b6.keys {K:gV}{G:Hp}:∀{kvs:List (Key×V)} {m:List (Str×D)},b6 K G kvs m->kvs.map (·.1)=(m.map (·.1)).map (JU (α:=Int))
 | [],[],_=>rfl
 | _::_,_::_,⟨⟨a,_⟩,c⟩=>by rw[GP,GP,GP,a,b6.keys c]
 | [],_::_,h=>h.elim
 | _::_,[],h=>h.elim
section
variable {X:Cx}{τ:List Sl}{o:Expr}{pos p q apos:Pos}{k:Nat}{m:List (Str×D)}{W W':Wx}{s:Sl}
theorem Dr {ss:List Str}(h:ss.length<64):iy X (.builtin "sorted") [.lst (ss.map .str)] (.o ((fR ss).map .str)):=⟨_,v7,λM vs H Q _ d q=>by
 cases d with
 | cons d r=>
   cases r;cases d with
   | lst h1 r=>
     have e:=pY r;subst e;refine⟨_,ss,rfl,Ev.aQ aG h1,h,λp hp=>q _ _ [p] (ao hp _) (λb hb=>by rw[ib.mp hb]; exact⟨hp,_,au⟩) ⟨p,_,rfl,rfl,au,kJ _⟩⟩⟩
theorem zI (B:Bk X k)(h:PE X o (dKp X.K τ m))(hl:m.length<64)(hg:Gl X "sorted":=by rfl)(he:starEach [o] X.env=(false,eval o X.env)::starEach [] X.env:=by rfl)(hpl:(backTo pos (starEach [] X.env)).any (·.1)=false:=by rfl):
   PE X (.Call (.Name "sorted" p) [o] [] pos) (dE X.K true τ (.o ((fR (m.map (·.1))).map .str))):=
 peW (lu (wC B.calm) hg (B.blt _ (by decide)) (by decide +kernel) (bw h c8 he) (by decide) (by decide) he hpl) λσ H Q ⟨A,H₀,B',S,kk⟩=>
   ⟨A,H₀,B',S,λkd kvs hk ok=>⟨kd,kvs,m.map (·.1),rfl,hk,ok.keys,by rw[fw]; exact hl,λq hq=>
     kk _ _ [q] (ao hq _) (λb hb=>by rw[ib.mp hb]; exact⟨hq,_,au⟩) ⟨q,_,rfl,rfl,au,kJ _⟩⟩⟩
theorem AE (i:Nat){nk m:Str}{C:Addr}{Φ:Wx->List D->Sl->Prop}{pl:Sem Bool}(Bb:Bk X k)(hc:Cls X.K C)(cl:bA X.prog X.w X.K X.mg X.base k C m (spV X.K Φ))(hW:A7 X.K C m W)(hΦ:Φ W [] s)(hi:τ[i]?=some (.w W'))(hle:LeW W' W)(hNi:X.N[i]?=some nk:=by rfl)
   (hv:Vis X.env.scope nk:=by first | exact Hh rfl | exact G0 (Hh rfl) | exact G0 (G0 rfl)) (hd1:(nk==("__debug__" : Str))=false:=by decide) (hcd:(nk==("__classdict__" : Str))=false:=by decide)
   (ht:eval (.Call (.Attribute (.Name nk q) m apos) [] [] pos) X.env=(do
     let ov <- eval (.Name nk q) X.env
     standAt apos.atName
     let (f,first) <- holding [ov] (getMethod ov m pl)
     callWith pos f first (backTo pos (starEach [] X.env)) (backToKw pos (keywordEach [] X.env))):=by rfl) :
   PE X (.Call (.Attribute (.Name nk q) m apos) [] [] pos) (dE X.K true τ s):=by
 obtain⟨f,fd,ps,F,hm,hb⟩:=cl;refine peW (yU (pl:=pl) (a4 (i:=i) hNi hv hd1 hcd) hc hm F Bb.room hb .nil jX ht) λσ H Q ⟨A,H₀,B,S,kk⟩=>?_;obtain⟨nd,u,h2,wp⟩:=S.sl i _ hi;obtain⟨a,dx,fs,rfl,ea,l⟩:=hW (hle wp);refine⟨_,slot_of h2,a,dx,fs,rfl,ea,l,?_⟩;exact⟨own A B,B i,_,[],W,[],s,rfl,S.sE i,nd,hle wp,.nil,hΦ,λv H' cs e2 fr z=>kk v H' cs e2 fr z⟩
end
end Hy
namespace Hy
open PySem PySem.Spec PyProof.Rows L2
open Ev (D Den ay ao aS aQ)
end Hy
namespace Ev
open PySem PySem.Spec PyProof.Rows L2
open PySem.Builtin.Range (rangeFitsLong rangeSize)
noncomputable def iM (n:Int):Obj:={ cls:=.type "range_iterator",data:=.fields #[rawInt (0+(rangeSize 0 n 1-1)*1),rawInt (rangeSize 0 n 1),rawInt (-1)] }
theorem fits_of {i:Int}(h1:-(2^62)<=i)(h2:i<=2^62):rangeFitsLong i=true:=by unfold rangeFitsLong;rw[Hc,decide_eq_true_iff,decide_eq_true_iff];omega
theorem y7 {n:Int}(h:0<=n):rangeSize 0 n 1=n:=by rw[rangeSize_one];split <;> omega
theorem Ci {n:Int}(h0:0<=n)(h1:n<2^62):(rangeFitsLong 0&&rangeFitsLong n&&rangeFitsLong 1&&rangeFitsLong (-1)&&rangeFitsLong (0-1)&&rangeFitsLong (rangeSize 0 n 1))=true:=by rw[y7 h0,fits_of (i:=n) (by omega) (by omega)];decide
theorem wy (r:Addr)(n:Int)(t u v:Tok)(hs:(rangeFitsLong 0&&rangeFitsLong n&&rangeFitsLong 1&&rangeFitsLong (-1)&&rangeFitsLong (0-1)&&rangeFitsLong (rangeSize 0 n 1))=true):
   Meets (Builtin.«range.__reversed__» ⟨[.ref r],[]⟩) (λ_ R s=>IsRange s.heap r 0 n 1 t u v/\R (.ok (.ret (GI s.heap.objs.size))) { s with heap:=s.heap.push (iM n),toks:=s.toks }):=
 .of_wp λprog w A R s h=>by
   obtain⟨hp,g,d,tk,os⟩:=s;obtain⟨hl,h⟩:=h;have hs':(!(rangeFitsLong 0&&rangeFitsLong n&&rangeFitsLong 1&&rangeFitsLong (-1)&&rangeFitsLong (0-1)&&rangeFitsLong (rangeSize 0 n 1)))=false:=by rw[hs]; rfl
   wp_walk
   rw[if_neg (by rw[hs]; decide),if_pos hs];exact wpAny_bind (wpAny_newObj_type (wpAny_pure ⟨_,rfl,h⟩))
section
variable {prog:Program}{w:World}{A:Around}{E:Value->Shared->Prop}{s:Shared}
theorem k5 {r:Addr}{n:Int}{t u v:Tok}{Q:Value->Shared->Prop}(hr:IsRange s.heap r 0 n 1 t u v)(h0:0<=n)(h1:n<2^62)
   (h:Q (.ref s.heap.objs.size) { s with heap:=s.heap.push (iM n) }):wpAny (model prog w) A (call (.builtin "range.__reversed__") [.ref r]) Q E s:=
 call_meets F.slot_range_reversed ⟨_,hr,rfl⟩ F.entry_range_reversed (F.args_range_reversed_1 _) (wy r n t u v (Ci h0 h1)) ⟨hr,h⟩
theorem pI {r:Addr}{n:Int}{t u v:Tok}{Q₁:Value->Shared->Prop}(hr:IsRange s.heap r 0 n 1 t u v)(h0:0<=n)(h1:n<2^62)
   (h:Q₁ (.ref s.heap.objs.size) { s with heap:=s.heap.push (iM n) }) :
   codeAny (model prog w) A (.call (.builtin "reversed.__new__") ⟨[.type "reversed",.ref r],[]⟩) (wants Q₁ E) s:=by
 have hT:s.TypeIs (.ref r) "range":=⟨_,hr,rfl⟩;refine codeAny_of_tree ?_;refine wpAny_bind (wpAny_of_eq (F.newCall_reversed_1 _) (wpAny_pure ⟨plainId_quiet F.plain_reversed_new _,codeAny_builtin F.entry_reversed_new ?_⟩));rw[Around.under_plainId F.plain_reversed_new _];unfold Builtin.«reversed.__new__»;refine wpAny_bind (wpAny_of_eq (newClass_reversed _) ?_)
 try dsimp only
 refine wpAny_bind (wpAny_of_eq (a:=()) (by first | rfl | kernel_rfl) ?_);refine wpAny_bind (wpAny_of_eq (a:=()) (by first | rfl | kernel_rfl) ?_)
 try dsimp only
 refine wpAny_bind (wpAny_specialOf hT F.slot_range_reversed.lookup ?_)
 try dsimp only
 refine wpAny_bind (wpAny_of_eq (F.slot_range_reversed.bind _) ?_)
 try dsimp only
 first
 | rw[if_neg (show ¬((JO "range.__reversed__" == Hz)=true) from xa)]
 | (show wpAny _ _ (if (JO "range.__reversed__" == Hz)=true then _ else _) _ _ _; rw[if_neg (show ¬((JO "range.__reversed__" == Hz)=true) from xa)])
 refine wpAny_bind (wpAny_rule ?_);refine wpAny_bind (m:=runValue (.call (.builtin "range.__reversed__") ⟨[.ref r],[]⟩)) (show wpAny _ _ (call (.builtin "range.__reversed__") [.ref r]) _ _ _ from k5 hr h0 h1 ?_)
 first
 | exact wpAny_pure h
 | exact wpAny_bind (wpAny_pure (wpAny_pure h))
theorem j8:isSubtype (.type "range_iterator") (.type "reversed")=pure false:=by rw[isSubtype_type]; kernel_rfl
theorem lF {r:Addr}{n:Int}{t u v:Tok}{Q:Value->Shared->Prop}(hr:IsRange s.heap r 0 n 1 t u v)(h0:0<=n)(h1:n<2^62)
   (h:Q (.ref s.heap.objs.size) { s with heap:=s.heap.push (iM n) }):wpAny (model prog w) A (call (.type "reversed") [.ref r]) Q E s:=by
 refine callType_other (U:="range_iterator") (Q₁:=λobj s₁=>obj=.ref s.heap.objs.size/\s₁={ s with heap:=s.heap.push (iM n) }) (by decide +kernel) F.create_reversed ⟨_,_,F.mro_reversed⟩ F.made_reversed j8 (F.typeCall_reversed_1 _) (pI hr h0 h1 ⟨rfl,rfl⟩) ?_;rintro obj s₁ ⟨rfl,rfl⟩;exact⟨⟨_,Et _ rfl,rfl⟩,h⟩
end
noncomputable def Itd (n:Nat):L2.It:=⟨λi _=>i<n,λi H x H'=>H'=H/\x=.int ((n:Int)-1-i),λi _=>n<=i⟩
theorem zR {P:Program}{w:World}{K:gV}{tg:Expr}(it:Addr)(n:Nat):Turn P w K false tg (Itd n) [it] it (λi h=>i<=n/\IsRangeIter h it ((n:Int)-1+(i:Nat)*(-1)) ((n:Int)-(i:Nat)) (-1)) where
 mem:=by simp
 obj:=λi h st b hb=>by
   have e:b=it:=by simpa using hb
   subst e
   exact⟨_,st.2,λv z=>by
     have z':Data.fields _=Data.cell v:=z;cases z'⟩
 keep:=λi h h' st k=>⟨st.1,k it (by simp) _ st.2⟩
 item:=by intro X hP hw hK hc i pins s σ H E I hf st hg;subst hP hw hK;obtain⟨f0,f1,f2,f3,f4,f5⟩:=hf it (by simp);have W:=Walks.range (prog:=X.prog) (w:=X.w) (I.ok.hd hc.calm) it ((n:Int)-1) (-1) n;refine W.item i s _ _ hg st.2 λv h' tk hv st' kk=>?_;obtain⟨t,rfl⟩:=hv;have I1:Inv X pins σ H { s with heap:=h',toks:=tk }:=I.turned (λb o hb e=>kk b o (by simpa using hb) e) f0 f1 f3 f4 f5;refine⟨_,rfl,iH (s:={ s with heap:=h',toks:=tk }) (n:="range_iterator") st' rfl rfl (by decide) ⟨.int ((n:Int)-1-i),H,I1,⟨t,?_⟩,⟨rfl,rfl⟩,⟨hg,st'⟩,λb hb=>(hf b hb).1⟩⟩;rw[Int.mul_neg,Int.mul_one,<- Int.sub_eq_add_neg]
 done:=by intro X hP hw hK hc i pins s σ H E I hf st hg;subst hP hw hK;obtain⟨f0,f1,f2,f3,f4,f5⟩:=hf it (by simp);have hg:n<=i:=hg;obtain rfl:i=n:=Nat.le_antisymm st.1 hg;have W:=Walks.range (prog:=X.prog) (w:=X.w) (I.ok.hd hc.calm) it ((i:Int)-1) (-1) i;exact W.done s _ _ st.2 λh' tk kk=>⟨rfl,I.turned (λb o hb e=>kk b o (by simpa using hb) e) f0 f1 f3 f4 f5⟩
 self:=λ_ _ _ _ _ st h=>wpAny_pyIter_rangeiter st.2 h
section
variable {X:Cx}{tg:Expr}
def iDn (ta:TA):TI:=λσ H R=>ta σ H λvs H1=>∃n:Nat,vs=[.int n]/\n<1000/\R (Itd n) H1
theorem BK {a:Expr}{ta:TA}{p p' pos pos':Pos}(hc:X.calm=true)(hg:Gl X "reversed")(hm:X.mg "reversed" = none)(hg':Gl X "range")(hm':X.mg "range" = none)(ha:PA X [a] ta)(hs':starEach [a] X.env=[(false,eval a X.env)]:=by rfl)
   (hs:starEach [.Call (.Name "range" p') [a] [] pos'] X.env=[(false,eval (.Call (.Name "range" p') [a] [] pos') X.env)]:=by rfl):PI X tg (.Call (.Name "reversed" p) [.Call (.Name "range" p') [a] [] pos'] [] pos) (iDn ta):=by
 intro pins s σ H R I h;refine Call_ (dY I hg hm qA (G4 ?_ hs rfl));rw[hs];refine IP (Call_ (dY I hg' hm' boot_range (G4 (thn (ha pos' pins s σ H _ I h) λus s1 ⟨vs,H1,I1,r1,n,e,hn,q⟩=>?_) hs' rfl)));subst e;cases r1 with
 | cons r rr=>
   cases rr;obtain⟨t,rfl⟩:=r;refine call_range_1 (JL ?_);have I2:Inv X pins σ H1 { s1 with heap:=s1.heap.push { cls:=.type "range",data:=.fields #[.int 0 s1.toks,.int n t,.int 1 (s1.toks+1)] },toks:=s1.toks+1+1 }:=I1.kept λb o e=>ip _ e;refine lF (IsRange.new ..) (by omega) (by omega) ?_;have z:rangeSize 0 (n:Int) 1=n:=y7 (by omega);have st:(Heap.push (s1.heap.push { cls:=.type "range",data:=.fields #[.int 0 s1.toks,.int n t,.int 1 (s1.toks+1)] }) (iM n)).get? (s1.heap.push { cls:=.type "range",data:=.fields #[.int 0 s1.toks,.int n t,.int 1 (s1.toks+1)] }).objs.size=some (iM n):=Et _ rfl
   have st':IsRangeIter (Heap.push (s1.heap.push { cls:=.type "range",data:=.fields #[.int 0 s1.toks,.int n t,.int 1 (s1.toks+1)] }) (iM n)) (s1.heap.push { cls:=.type "range",data:=.fields #[.int 0 s1.toks,.int n t,.int 1 (s1.toks+1)] }).objs.size ((n:Int)-1+((0:Nat):Int)*(-1)) ((n:Int)-((0:Nat):Int)) (-1):=by
     unfold IsRangeIter;rw[st,iM,z];congr 6
     all_goals (simp)
   refine wpAny_pyIter_rangeiter (x:=(n:Int)-1+((0:Nat):Int)*(-1)) (left:=(n:Int)-((0:Nat):Int)) (step:=-1) st' ?_;refine⟨false,_,[(s1.heap.push { cls:=.type "range",data:=.fields #[.int 0 s1.toks,.int n t,.int 1 (s1.toks+1)] }).objs.size],_,_,H1,rfl,I2.kept (t':=s1.toks+1+1) λb o e=>ip _ e,.inl hc,zR _ n,⟨G5 _,st'⟩,λb hb=>?_,q⟩;have e:b=(s1.heap.push { cls:=.type "range",data:=.fields #[.int 0 s1.toks,.int n t,.int 1 (s1.toks+1)] }).objs.size:=by simpa using hb
   subst e;exact I2.jv (ia _) (I2.hok.fresh (ia _))
end
end Ev
namespace Ev
open PySem PySem.Spec PyProof.Rows L2
noncomputable def bD (kv:List (Int×Int)):List (Key×V):=kv.map λp=>(.inl p.1,.int p.2)
noncomputable def Itk (a:Addr)(o:Obj)(kv:List (Int×Int)):L2.It:=⟨λi H=>i<kv.length/\H a=some (.frz o (.dK (bD kv))),λi H x H'=>H'=H/\∃p,kv[i]?=some p/\x=.int p.1,λi H=>kv.length<=i/\H a=some (.frz o (.dK (bD kv)))⟩
theorem pC {X:Cx}{pins:List (Addr×Obj)}{σ:L2.St}{H:Hp}{s:Shared}{a:Addr}{o:Obj}{kvs:List (Key×V)}{es:Array DictEntry}{ep:Nat}(I:Inv X pins σ H s)(h:H a=some (.frz o (.dK kvs)))(hd:o.data=.dict es ep):
   ∃vs,KV kvs vs/\s.heap.DictAt (bb X.prog X.w) a vs ep:=by
 obtain⟨e,_,_,vs,rel,o',es',ep',e',r⟩:=(show bj X.prog X.w H s.heap a (.frz o (.dK kvs)) from I.hok a _ h);rw[e]at e'; cases e';have z:=r.2.1;rw[hd]at z;injection z with z1 z2;subst z1 z2;exact⟨vs,rel,o,es,e,r⟩
theorem vJ {P:Program}{w:World}{K:gV}{tg:Expr}(a it:Addr)(o:Obj)(kv:List (Int×Int))(es:Array DictEntry)(ep:Nat)(hd:o.data=.dict es ep):
   Turn P w K false tg (Itk a o kv) [it] it (λi h=>i<=kv.length/\h.IsKeyIter it a i kv.length ep) where
 mem:=by simp
 obj:=λi h st b hb=>by
   have e:b=it:=by simpa using hb
   subst e;obtain⟨o,e,c,d⟩:=st.2;exact⟨o,e,λv z=>by rw[d]at z; cases z⟩
 keep:=λi h h' st k=>⟨st.1,st.2.at λo e=>k it (by simp) o e⟩
 item:=by
   intro X hP hw hK hc i pins s σ H E I hf st hg;subst hP hw hK;obtain⟨hi,ha⟩:=hg;obtain⟨f0,f1,f2,f3,f4,f5⟩:=hf it (by simp);obtain⟨vs,rel,dd⟩:=pC I ha hd;have hl:kv.length=vs.length:=by rw[<- rel.length,bD,fw]
   have st2:=st.2;rw[hl]at st2;have hx:vs[i]?=some vs[i]:=by simp[show i<vs.length by omega]
   have kk:=congrArg (λl=>l[i]?) rel.keys;simp only[bD,GO,GL,hx,ph hi,HN,Jk]at kk;have kk:=GS kk;refine wpAny_pyNext_dict_item st2 dd hx λkey h' hk st' sb=>?_;have hk:(bb X.prog X.w).is (IW kv[i].fst) key=true:=by rw[kk]; exact hk
   obtain⟨t,rfl⟩:=Value.isInt_shape (show Value.isInt _ key=true from hk);have I1:Inv X pins σ H { s with heap:=h' }:=I.turned (t':=s.toks) (λb o hb e=>(sb.2 b hb).trans e) f0 f1 f3 f4 f5;obtain⟨o',e,c,d⟩:=id st';refine⟨_,rfl,iH (s:={ s with heap:=h' }) e c d (by decide) ⟨.int kv[i].1,H,I1,⟨t,rfl⟩,⟨rfl,_,ph hi,rfl⟩,⟨hi,by rw[hl]; exact st'⟩,λb hb=>(hf b hb).1⟩⟩
 done:=by
   intro X hP hw hK hc i pins s σ H E I hf st hg;subst hP hw hK;obtain⟨hi,ha⟩:=hg;obtain⟨f0,f1,f2,f3,f4,f5⟩:=hf it (by simp);obtain⟨vs,rel,dd⟩:=pC I ha hd;have hl:kv.length=vs.length:=by rw[<- rel.length,bD,fw]
   have st2:=st.2;rw[hl]at st2;exact wpAny_pyNext_dict_end (I.ok.hd hc.calm) st2 dd (Iy (by omega)) λh' eb=>⟨rfl,I.turned (t':=s.toks) (λb o hb e=>eb b o hb e) f0 f1 f3 f4 f5⟩
 self:=λ_ _ _ _ _ st h=>wpAny_pyIter_keyiter st.2 h
section
variable {X:Cx}{tg:Expr}
def xl (tl:TE):TI:=λσ H R=>tl σ H λx H1=>∃a o kv,x=.ref a/\H1 a=some (.frz o (.dK (bD kv)))/\R (Itk a o kv) H1
theorem rP {l:Expr}{tl:TE}(hc:X.calm=true)(hl:PE X l tl):PI X tg l (xl tl):=by
 intro pins s σ H R I h;refine thn (hl pins s σ H _ I h) λu s1 ⟨x,H1,I1,r1,a,o,kv,ex,ha,q⟩=>?_;subst ex;cases r1;obtain⟨e,ok⟩:=(show bj X.prog X.w H1 s1.heap a (.frz o (.dK (bD kv))) from I1.hok a _ ha);obtain⟨z,hd,vs,rel,o',es,ep,e',r⟩:=ok;rw[e]at e';cases e';refine wpAny_pyIter_dict hd (show s1.heap.DictAt (bb X.prog X.w) a vs ep from⟨o,es,e,r⟩) ?_;have hv:vs.length=kv.length:=by rw[<- rel.length,bD,fw]
 refine⟨false,s1.heap.objs.size,[s1.heap.objs.size],_,_,H1,rfl,I1.kept (t':=s1.toks) λb o e=>ip _ e,.inl hc,vJ a _ o kv es ep r.2.1,⟨G5 _,?_⟩,λb hb=>?_,q⟩
 . rw[<- hv];exact⟨_,Et _ rfl,rfl,rfl⟩
 . have e:b=s1.heap.objs.size:=by simpa using hb
   subst e;exact I1.jv (ia _) (I1.hok.fresh (ia _))
end
end Ev
namespace L2
open PySem PySem.Spec PyProof.Rows PySem.SeqAt
section
variable {P:Program}{w:World}{A:Around}{E:Value->Shared->Prop}{s:Shared}
def HK (P:Program)(w:World)(A:Around)(h:Heap)(v:Value)(x:Int)(d:Nat):Prop:=∀(s:Shared) (E:Value->Shared->Prop) (Q:Int->Shared->Prop),s.heap=h->Q x { s with toks:=s.toks+d }->wpAny (model P w) A (pyHash v) Q E s
theorem vI {a:Addr}{u v:Value}{x y:Int}{m n:Nat}{Q:Int->Shared->Prop}(hu:A.units<cLine)(hk:IsTup s.heap a #[u,v])(h1:∀B,B.units<=A.units+1->HK P w B s.heap u x m)(h2:∀B,B.units<=A.units+1->HK P w B s.heap v y n)
   (h:Q (reduceHash (GH [x,y])) { s with toks:=s.toks+(m+n+1) }):wpAny (model P w) A (pyHash (.ref a)) Q E s:=by
 obtain⟨o,ho,hc,k,hd⟩:=hk;have hT:s.TypeIs (.ref a) "tuple":=⟨o,ho,hc⟩;unfold pyHash;refine wpAny_bind (wpAny_cRoomFor_or (.inr hu) ?_);refine wpAny_bind (wpAny_specialOf hT F.slot_tuple_hash.lookup ?_);show wpAny _ _ (if (some (JO "tuple.__hash__")==some Hz)=true then _ else _) Q E s;rw[if_neg (by rw[beq_builtin_none]; exact xa)];refine wpAny_bind (wpAny_specialOf hT F.slot_tuple_hash.lookup ?_);show wpAny _ _ (callSpecialIfBoundUnlessNone? (.ref a) "__hash__" _ >>= _) Q E s;refine wpAny_bind (wpAny_callSpecialIfBoundUnlessNone?_slot hT JX (wpAny_call_entry JX hT F.entry_tuple_hash ?_ (F.args_tuple_hash_1 _)));show wpAny _ _ (Je (.ref a) >>= _) _ _ s;refine wpAny_bind (wpAny_tupleItemsOf ho hd ?_);refine wpAny_bind ?_;rw[<- JC]
 refine wpAny_forIn_list _
   (λrest (b:Array Int) s'=>(rest=[u,v]/\b=#[]/\s'=s)\/(rest=[v]/\b=#[x]/\s'={ s with toks:=s.toks+m })\/(rest=[]/\b=#[x,y]/\s'={ s with toks:=s.toks+(m+n) }))
   _ ?_ ?_ _ _ (.inl ⟨rfl,rfl,rfl⟩)
 . rintro z rest b s' (⟨e,rfl,rfl⟩ | ⟨e,rfl,rfl⟩ | ⟨e,_⟩)
   . cases e;refine wpAny_bind (h1 _ ?_ _ _ _ rfl ?_)
     . exact ia _
     . exact wpAny_pure (.inr (.inl ⟨rfl,rfl,rfl⟩))
   . cases e;refine wpAny_bind (h2 _ ?_ _ _ _ rfl ?_)
     . exact ia _
     . exact wpAny_pure (.inr (.inr ⟨rfl,rfl,by simp[IB]⟩))
   . cases e
 . rintro b s' (⟨e,_⟩ | ⟨e,_⟩ | ⟨_,rfl,rfl⟩)
   . cases e
   . cases e
   show wpAny _ _ (retInt (GH [x,y])) _ _ _;refine wpAny_ret_mkInt ?_;show wpAny _ _ (if (decide (-(2:Int)^63<=GH [x,y])&&decide (GH [x,y]<2^63))=true then _ else _) Q E _;unfold reduceHash at h;by_cases hr:(decide (-(2:Int)^63<=GH [x,y])&&decide (GH [x,y]<2^63))=true
   . rw[if_pos hr];rw[if_pos hr]at h;exact wpAny_pure (by simpa[IB]using h)
   . rw[if_neg hr];rw[if_neg hr]at h;exact wpAny_bind (wpAny_rule (wpAny_pure (by simpa[IB]using h)))
theorem ud {a:Addr}{u v:Value}{n:Nat}{Q:Bool->Shared->Prop}(hk:IsTup s.heap a #[u,v])(h1:∀A E Q,Q true s->wpAny (model P w) A (eqIsQuiet n u) Q E s)(h2:∀A E Q,Q true s->wpAny (model P w) A (eqIsQuiet n v) Q E s)(h:Q true s):
   wpAny (model P w) A (eqIsQuiet (n+1) (.ref a)) Q E s:=by
 obtain⟨o,ho,hc,k,hd⟩:=hk;have hT:s.TypeIs (.ref a) "tuple":=⟨o,ho,hc⟩;unfold eqIsQuiet;refine wpAny_bind (wpAny_specialOf hT F.slot_tuple_eq.lookup ?_);show wpAny _ _ (isInstance (.ref a) (.type "tuple") >>= _) _ _ s;refine wpAny_bind (wpAny_isInstance hT isSubtype_tuple_tuple ?_);simp only[KC,HZ,if_false];refine wpAny_bind (wpAny_seqItems ho hd ?_);refine wpAny_bind ?_;show wpAny _ _ (forIn #[u,v] _ _) _ _ s;rw[<- JC];refine wpAny_forIn_list _ (λrest r s'=>r.1=none/\s'=s/\∀z∈rest,z=u\/z=v) _ ?_ ?_ _ _ ⟨rfl,rfl,λz hz=>by simpa using hz⟩
 . rintro z rest r s' ⟨hr,rfl,hall⟩
   have hz:∀A E Q,Q true s'->wpAny (model P w) A (eqIsQuiet n z) Q E s':=by
     rcases hall z rp with rfl | rfl
     . exact h1
     . exact h2
   refine wpAny_bind (hz _ _ _ ?_);simp only[KC,HZ,if_false];exact wpAny_pure ⟨rfl,rfl,λx hx=>hall x (pq _ hx)⟩
 . rintro⟨r1,r2⟩ s' ⟨hr,rfl,_⟩;simp only at hr;subst hr;exact wpAny_pure h
theorem zW {a b:Addr}{u v u' v':Value}{p q:Bool}(hu:A.units<cLine)(ha:IsTup s.heap a #[u,v])(hb:IsTup s.heap b #[u',v'])(h1:EqAt A.in1 s u u' p)(h2:EqAt A.in1 s v v' q)(hs:a=b->(p&&q)=true):EqAt A s (.ref a) (.ref b) (p&&q):=by
 by_cases z:a=b
 . subst z;rw[hs rfl];exact .same _
 . have:=EqAt.of_refs z (RcAt.tuples (e:=λj=>if j=0 then p else q) ha hb hu λj j1 j2=>by
     match j,j1 with
     | 0,_=>exact h1
     | 1,_=>exact h2)
   have e:((ox (min (#[u,v]:Array Value).size (#[u',v']:Array Value).size)).all (λj=>if j=0 then p else q)&&(#[u,v]:Array Value).size==(#[u',v']:Array Value).size)=(p&&q):=by show (p&&(q&&true)&&true)=(p&&q);cases p <;> cases q <;> rfl
   rw[e]at this;exact this
end
theorem kC {h:Heap}{a:Addr}{x y:Array Value}(p:IsTup h a x)(q:IsTup h a y):x=y:=by obtain⟨o,ho,_,n,hd⟩:=p;obtain⟨o',ho',_,n',hd'⟩:=q;rw[ho]at ho'; cases ho';rw[hd]at hd'; cases hd'; rfl
theorem ui {h h':Heap}{a d:Addr}{x:Array Value}{o:Obj}{es ep}(p:IsTup h a x)(ho:h.get? d=some o)(hd:o.data=.dict es ep)(hs:Jh d h h'):IsTup h' a x:=by
 obtain⟨o',ho',hc,n,hd'⟩:=p;have hne:a≠d:=by rintro rfl;rw[ho]at ho'; cases ho';rw[hd]at hd'; exact nomatch hd'
 exact⟨o',(hs.2 a hne).trans ho',hc,n,hd'⟩
structure IK (P:Program)(w:World)(K:Type)[DecidableEq K] where
 is:Heap->K->Value->Prop
 hash:K->Int
 draws:K->Nat
 dep:Nat
 inj:∀{h:Heap} {v:Value} {x y:K},is h x v->is h y v->x=y
 keeps:∀{h h':Heap} {k:K} {v:Value} {d:Addr} {o:Obj} {es ep},is h k v->h.get? d=some o->o.data=.dict es ep->Jh d h h'->is h' k v
 hk:∀{A:Around} {h:Heap} {k:K} {v:Value},is h k v->A.units+dep<cLine->HK P w A h v (hash k) (draws k)
 eq:∀{A:Around} {s:Shared} {x y:K} {u v:Value},is s.heap x u->is s.heap y v->A.units+dep<cLine->EqAt A s u v (decide (x=y))
 quiet:∀{s:Shared} {k:K} {v:Value} {n:Nat},dep<n->is s.heap k v->∀A E Q,Q true s->wpAny (model P w) A (eqIsQuiet n v) Q E s
section
variable {P:Program}{w:World}
noncomputable def D9:IK P w Int where
 is:=λ_ k v=>∃t,v=.int k t
 hash:=hashInt
 draws:=λ_=>1
 dep:=0
 inj:=λ⟨_,e⟩ ⟨_,g⟩=>by rw[e]at g; cases g; rfl
 keeps:=λh _ _ _=>h
 hk:=λ⟨_,e⟩ _ s E Q _ hq=>by rw[e]; exact wpAny_pyHash_int hq
 eq:=λ{A s x y u v} ⟨_,e⟩ ⟨_,g⟩ _=>by
   rw[e,g];have:decide (x=y)=(x==y):=by by_cases h:x=y <;> simp[h]
   rw[this];exact .int_int _ _ _ _
 quiet:=λ{s k v n} hn ⟨_,e⟩ A E Q q=>by obtain⟨m,rfl⟩:∃m,n=m+1:=⟨n-1,by omega⟩;rw[e];exact wpAny_pure q
variable {K K':Type}[DecidableEq K][DecidableEq K']
noncomputable def Dy (a:IK P w K)(b:IK P w K'):IK P w (K×K') where
 is:=λh k v=>∃p u u',v=.ref p/\IsTup h p #[u,u']/\a.is h k.1 u/\b.is h k.2 u'
 hash:=λk=>reduceHash (GH [a.hash k.1,b.hash k.2])
 draws:=λk=>a.draws k.1+b.draws k.2+1
 dep:=max a.dep b.dep+1
 inj:=λ{h v x y} ⟨p,u,u',e,t,h1,h2⟩ ⟨p',v1,v2,e',t',g1,g2⟩=>by rw[e]at e';cases e';have q:=kC t t';simp only[Array.mk.injEq,List.cons.injEq,and_true]at q;obtain⟨rfl,rfl⟩:=q;exact Prod.ext (a.inj h1 g1) (b.inj h2 g2)
 keeps:=λ⟨p,u,u',e,t,h1,h2⟩ ho hd hs=>⟨p,u,u',e,ui t ho hd hs,a.keeps h1 ho hd hs,b.keeps h2 ho hd hs⟩
 hk:=λ{A h k v} ⟨p,u,u',e,t,h1,h2⟩ hu s E Q eh hq=>by rw[e];subst eh;exact vI (by omega) t (λB hB=>a.hk h1 (by omega)) (λB hB=>b.hk h2 (by omega)) hq
 eq:=λ{A s x y u v} hx hy hu=>by
   obtain⟨p,u1,u2,e,t,h1,h2⟩:=id hx;obtain⟨p',v1,v2,e',t',g1,g2⟩:=id hy;have ed:decide (x=y)=(decide (x.1=y.1)&&decide (x.2=y.2)):=by obtain⟨x1,x2⟩:=x;obtain⟨y1,y2⟩:=y;rw[IV];simp
   rw[e,e',ed];refine zW (by omega) t t' (a.eq h1 g1 (show A.units+1+a.dep<cLine by omega)) (b.eq h2 g2 (show A.units+1+b.dep<cLine by omega)) λz=>?_;subst z;have q:=kC t t';simp only[Array.mk.injEq,List.cons.injEq,and_true]at q;obtain⟨rfl,rfl⟩:=q;rw[a.inj h1 g1,b.inj h2 g2];simp
 quiet:=λ{s k v n} hn ⟨p,u,u',e,t,h1,h2⟩ A E Q q=>by obtain⟨m,rfl⟩:∃m,n=m+1:=⟨n-1,by omega⟩;rw[e];exact ud t (a.quiet (by omega) h1) (b.quiet (by omega) h2) q
noncomputable def kindOf (a:IK P w K)(hd:a.dep<=7):HeapKind P w K where
 is:=λh k p=>a.is h k (.ref p)
 hash:=a.hash
 draws:=a.draws
 room:=λA=>A.units+8<cLine
 inj:=a.inj
 keeps:=a.keeps
 pyHash:=λ{A E s k p Q} hu hk h=>a.hk hk (by omega) s E Q rfl h
 eqBool:=λ{A E s x y p p' Q} hu hx hy h=>a.eq hx hy (by omega) _ _ _ _ h
 quiet:=λ{A E s k p Q} hk h=>a.quiet (by omega) hk A E Q h
end
inductive eA {K:Type}(R:K->Value->Prop):List K->List Value->Prop where
 | nil:eA R [] []
 | cons {x:K} {v:Value} {xs:List K} {vs:List Value} (h:R x v) (r:eA R xs vs):eA R (x::xs) (v::vs)
section
variable {K:Type}
theorem eA.mono {R S:K->Value->Prop}(f:∀x v,R x v->S x v):∀{xs:List K} {vs:List Value},eA R xs vs->eA S xs vs
 | _,_,.nil=>.nil
 | _,_,.cons h r=>.cons (f _ _ h) (r.mono f)
theorem eA.inj {R:K->Value->Prop}(f:∀x y v,R x v->R y v->x=y):∀{xs ys:List K} {vs:List Value},eA R xs vs->eA R ys vs->xs=ys
 | _,_,_,.nil,.nil=>rfl
 | _,_,_,.cons h r,.cons g q=>by rw[f _ _ _ h g,r.inj f q]
theorem eA.length {R:K->Value->Prop}:∀{xs:List K} {vs:List Value},eA R xs vs->xs.length=vs.length
 | _,_,.nil=>rfl
 | _,_,.cons _ r=>congrArg (·+1) r.length
theorem eA.at {R:K->Value->Prop}:∀{xs:List K} {vs:List Value},eA R xs vs->∀(j:Nat) (h1:j<xs.length) (h2:j<vs.length),R xs[j] vs[j]
 | _,_,.nil,_,h1,_=>absurd h1 (HV _)
 | _,_,.cons h _,0,_,_=>h
 | _,_,.cons _ r,j+1,h1,h2=>r.at j (Nat.lt_of_succ_lt_succ h1) (Nat.lt_of_succ_lt_succ h2)
theorem eA.mem {R:K->Value->Prop}:∀{xs:List K} {vs:List Value},eA R xs vs->∀v∈vs,∃x,R x v
 | _,_,.nil,_,h=>nomatch h
 | _,_,.cons h r,v,hv=>(xb.mp hv).elim (λz=>⟨_,z▸h⟩) (r.mem v)
theorem all_eq [DecidableEq K]{xs ys:List K}:((ox (min xs.length ys.length)).all (λj=>decide (xs[j]?=ys[j]?))&&xs.length==ys.length)=decide (xs=ys):=by
 rw[IV];simp only[Hc,Hb,GQ,decide_eq_true_eq,beq_iff_eq];constructor
 . rintro⟨h1,h2⟩;refine List.ext_getElem? λj=>?_;by_cases hj:j<xs.length
   . exact h1 j (by omega)
   . rw[Iy (by omega),Iy (by omega)]
 . rintro rfl;exact⟨λ_ _=>rfl,rfl⟩
end
section
variable {P:Program}{w:World}{K:Type}[DecidableEq K]
theorem vY {a:IK P w K}{A:Around}{E:Value->Shared->Prop}{s:Shared}{p:Addr}{its:List Value}{xs:List K}{Q:Int->Shared->Prop}(hu:A.units+(a.dep+1)<cLine)(hk:IsTup s.heap p its.toArray)(hs:eA (a.is s.heap) xs its)
   (h:Q (reduceHash (GH (xs.map a.hash))) { s with toks:=s.toks+((xs.map a.draws).sum+1) }):wpAny (model P w) A (pyHash (.ref p)) Q E s:=by
 obtain⟨o,ho,hc,k,hd⟩:=hk;have hT:s.TypeIs (.ref p) "tuple":=⟨o,ho,hc⟩;unfold pyHash;refine wpAny_bind (wpAny_cRoomFor_or (.inr (by omega)) ?_);refine wpAny_bind (wpAny_specialOf hT F.slot_tuple_hash.lookup ?_);show wpAny _ _ (if (some (JO "tuple.__hash__")==some Hz)=true then _ else _) Q E s;rw[if_neg (by rw[beq_builtin_none]; exact xa)];refine wpAny_bind (wpAny_specialOf hT F.slot_tuple_hash.lookup ?_);show wpAny _ _ (callSpecialIfBoundUnlessNone? (.ref p) "__hash__" _ >>= _) Q E s;refine wpAny_bind (wpAny_callSpecialIfBoundUnlessNone?_slot hT JX (wpAny_call_entry JX hT F.entry_tuple_hash ?_ (F.args_tuple_hash_1 _)));show wpAny _ _ (Je (.ref p) >>= _) _ _ s;refine wpAny_bind (wpAny_tupleItemsOf ho hd ?_);refine wpAny_bind ?_;rw[<- JC]
 refine wpAny_forIn_list _
   (λrest (b:Array Int) s'=>∃(ks:List K) (n:Nat),eA (a.is s.heap) ks rest/\b.toList++ks.map a.hash=xs.map a.hash/\n+(ks.map a.draws).sum=(xs.map a.draws).sum/\s'={ s with toks:=s.toks+n })
   _ ?_ ?_ _ _ ⟨xs,0,hs,rfl,by omega,rfl⟩
 . rintro z rest b s' ⟨ks,n,hr,e1,e2,rfl⟩;cases hr with
   | @cons x _ ks' _ hx hr=>
     refine wpAny_bind (a.hk hx (show A.units+1+a.dep<cLine by omega) _ _ _ rfl ?_);refine wpAny_pure ⟨ks',n+a.draws x,hr,?_,?_,by simp[IB]⟩
     . simpa using e1
     . rw[GP,List.sum_cons]at e2;omega
 . rintro b s' ⟨ks,n,hr,e1,e2,rfl⟩;cases hr;rw[KU,G3]at e1;rw[KU,List.sum_nil,Nat.add_zero]at e2;subst e2;show wpAny _ _ (retInt (GH b.toList)) _ _ _;rw[e1];refine wpAny_ret_mkInt ?_;show wpAny _ _ (if (decide (-(2:Int)^63<=GH (xs.map a.hash))&&decide (GH (xs.map a.hash)<2^63))=true then _ else _) Q E _;unfold reduceHash at h;by_cases hr:(decide (-(2:Int)^63<=GH (xs.map a.hash))&&decide (GH (xs.map a.hash)<2^63))=true
   . rw[if_pos hr];rw[if_pos hr]at h;exact wpAny_pure (by simpa[IB]using h)
   . rw[if_neg hr];rw[if_neg hr]at h;exact wpAny_bind (wpAny_rule (wpAny_pure (by simpa[IB]using h)))
theorem sU {A:Around}{E:Value->Shared->Prop}{s:Shared}{p:Addr}{its:List Value}{n:Nat}{Q:Bool->Shared->Prop}(hk:IsTup s.heap p its.toArray)(h1:∀z∈its,∀A E Q,Q true s->wpAny (model P w) A (eqIsQuiet n z) Q E s)(h:Q true s):
   wpAny (model P w) A (eqIsQuiet (n+1) (.ref p)) Q E s:=by
 obtain⟨o,ho,hc,k,hd⟩:=hk;have hT:s.TypeIs (.ref p) "tuple":=⟨o,ho,hc⟩;unfold eqIsQuiet;refine wpAny_bind (wpAny_specialOf hT F.slot_tuple_eq.lookup ?_);show wpAny _ _ (isInstance (.ref p) (.type "tuple") >>= _) _ _ s;refine wpAny_bind (wpAny_isInstance hT isSubtype_tuple_tuple ?_);simp only[KC,HZ,if_false];refine wpAny_bind (wpAny_seqItems ho hd ?_);refine wpAny_bind ?_;show wpAny _ _ (forIn its.toArray _ _) _ _ s;rw[<- JC];refine wpAny_forIn_list _ (λrest r s'=>r.1=none/\s'=s/\∀z∈rest,z∈its) _ ?_ ?_ _ _ ⟨rfl,rfl,λz hz=>by simpa using hz⟩
 . rintro z rest r s' ⟨hr,rfl,hall⟩;refine wpAny_bind (h1 z (hall z rp) _ _ _ ?_);simp only[KC,HZ,if_false];exact wpAny_pure ⟨rfl,rfl,λx hx=>hall x (pq _ hx)⟩
 . rintro⟨r1,r2⟩ s' ⟨hr,rfl,_⟩;simp only at hr;subst hr;exact wpAny_pure h
noncomputable def Dk (a:IK P w K):IK P w (List K) where
 is:=λh ks v=>∃p its,v=.ref p/\IsTup h p its.toArray/\eA (a.is h) ks its
 hash:=λks=>reduceHash (GH (ks.map a.hash))
 draws:=λks=>(ks.map a.draws).sum+1
 dep:=a.dep+1
 inj:=λ{h v x y} ⟨p,its,e,t,r⟩ ⟨p',its',e',t',r'⟩=>by rw[e]at e';cases e';have q:its=its':=congrArg KO (kC t t');subst q;exact eA.inj (R:=a.is h) (λ_ _ _ z1 z2=>a.inj z1 z2) r r'
 keeps:=λ⟨p,its,e,t,r⟩ ho hd hs=>⟨p,its,e,ui t ho hd hs,r.mono λ_ _ z=>a.keeps z ho hd hs⟩
 hk:=λ{A h k v} ⟨p,its,e,t,r⟩ hu s E Q eh hq=>by rw[e];subst eh;exact vY hu t r hq
 eq:=λ{A s x y u v} hx hy hu=>by
   obtain⟨p,its,e,t,r⟩:=id hx;obtain⟨p',its',e',t',r'⟩:=id hy;rw[e,e'];by_cases z:p=p'
   . subst z;have q:its=its':=congrArg KO (kC t t');subst q;rw[decide_eq_true (eA.inj (R:=a.is s.heap) (λ_ _ _ z1 z2=>a.inj z1 z2) r r')];exact .same _
   . have:=EqAt.of_refs z (RcAt.tuples (e:=λj=>decide (x[j]?=y[j]?)) t t' (show A.units<cLine by omega) λj j1 j2=>by
       have l1:j<x.length:=by rw[r.length]; simpa using j1
       have l2:j<y.length:=by rw[r'.length]; simpa using j2
       rw[ph l1,ph l2];have:=a.eq (A:=A.in1) (r.at j l1 (by simpa using j1)) (r'.at j l2 (by simpa using j2)) (show A.units+1+a.dep<cLine by omega);simpa using this)
     have el:(its.toArray.size,its'.toArray.size)=(x.length,y.length):=by rw[r.length,r'.length]; simp
     have e1:its.toArray.size=x.length:=congrArg Prod.fst el;have e2:its'.toArray.size=y.length:=congrArg Prod.snd el;rw[e1,e2,all_eq]at this;exact this
 quiet:=λ{s k v n} hn ⟨p,its,e,t,r⟩ A E Q q=>by obtain⟨m,rfl⟩:∃m,n=m+1:=⟨n-1,by omega⟩;rw[e];refine sU t (λz hz=>?_) q;obtain⟨x,hx⟩:=r.mem z hz;exact a.quiet (by omega) hx
end
end L2
namespace Ev
open PySem PySem.Spec PyProof.Rows L2
structure KD (K:Type)[DecidableEq K] where
 ik:∀(P:Program) (w:World),IK P w K
 dep:Nat
 dep_ok:∀P w,(ik P w).dep=dep
 toD:K->D
 den:∀{X:Cx} {pins:List (Addr×Obj)} {σ:L2.St} {H:Hp} {s:Shared} {v:V} {u:Value} {k:K},Inv X pins σ H s->Den X.K H v (toD k)->RelV v u->(ik X.prog X.w).is s.heap k u
noncomputable def EI:KD Int where
 ik:=λ_ _=>D9
 dep:=0
 dep_ok:=λ_ _=>rfl
 toD:=.int
 den:=λ_ d r=>by cases d; exact r
section
variable {K K':Type}[DecidableEq K][DecidableEq K']
noncomputable def B1 (a:KD K)(b:KD K'):KD (K×K') where
 ik:=λP w=>Dy (a.ik P w) (b.ik P w)
 dep:=max a.dep b.dep+1
 dep_ok:=λP w=>by show max (a.ik P w).dep (b.ik P w).dep+1=_; rw[a.dep_ok,b.dep_ok]
 toD:=λk=>.tup [a.toD k.1,b.toD k.2]
 den:=λ{X pins σ H s v u k} I d r=>by
   cases d with
   | tup h q=>
     cases (show u=GI _ from r);obtain⟨its,rv,t,_⟩:=I.tuple h;cases q with
     | cons d1 q=>cases q with
       | cons d2 q=>cases q with
         | nil=>cases rv with
           | cons r1 rv=>cases rv with
             | cons r2 rv=>cases rv with
               | nil=>exact⟨_,_,_,rfl,t,a.den I d1 r1,b.den I d2 r2⟩
theorem qg (a:KD K){X:Cx}{pins:List (Addr×Obj)}{σ:L2.St}{H:Hp}{s:Shared}(I:Inv X pins σ H s):∀{ks:List K} {vs:List V} {us:List Value},ay X.K H vs (ks.map a.toD)->Vals vs us->eA ((a.ik X.prog X.w).is s.heap) ks us
 | [],_,_,.nil,.nil=>.nil
 | _::_,_,_,.cons d r,.cons q t=>.cons (a.den I d q) (qg a I r t)
noncomputable def Cy (a:KD K):KD (List K) where
 ik:=λP w=>Dk (a.ik P w)
 dep:=a.dep+1
 dep_ok:=λP w=>by show (a.ik P w).dep+1=_; rw[a.dep_ok]
 toD:=λks=>.tup (ks.map a.toD)
 den:=λ{X pins σ H s v u k} I d r=>by
   generalize e:D.tup (k.map a.toD)=x at d;cases d with
   | tup h q=>cases e;cases (show u=GI _ from r);obtain⟨its,rv,t,_⟩:=I.tuple h;exact⟨_,its,rfl,t,qg a I q rv⟩
   | _=>cases e
noncomputable abbrev NEs (K:Type):=List (K×Addr×Value)
noncomputable def kd (a:KD K)(hd:a.dep<=7)(P:Program)(w:World):HeapKind P w K:=kindOf (a.ik P w) (by rw[a.dep_ok]; exact hd)
variable {a:KD K}{hd:a.dep<=7}
noncomputable def dNk (a:KD K)(hd:a.dep<=7)(P:Program)(w:World)(p:Addr)(xs:NEs K):HO:=.ext λh=>(p==sysModules)=false/\∃o es ep,h.get? p=some o/\o.ExactDict/\o.data=.dict es ep/\es.toList=xs.map (entryOfKey (kd a hd P w))/\(xs.map (·.1)).Nodup
structure g8 (a:KD K)(hd:a.dep<=7)(P:Program)(w:World)(F:gV)(H:Hp)(d:Addr)(xs:NEs K):Prop where
 at_:H d=some (dNk a hd P w d xs)
 key:∀x∈xs,Den F H (.ref x.2.1) (a.toD x.1)
variable {X:Cx}{pins:List (Addr×Obj)}{σ:L2.St}{H:Hp}{s:Shared}{d b:Addr}{xs:NEs K}{k:K}{A:Around}
theorem key_is (I:Inv X pins σ H s)(q:Den X.K H (.ref b) (a.toD k)):(kd a hd X.prog X.w).is s.heap k b:=a.den I q rfl
theorem za (I:Inv X pins σ H s)(D:g8 a hd X.prog X.w X.K H d xs):(d==sysModules)=false/\s.heap.DictOfH (kd a hd X.prog X.w) d xs:=by obtain⟨⟨h0,o,es,ep,h1,h2,h3,h4,h5⟩,_⟩:=(show bj X.prog X.w H s.heap d (dNk a hd X.prog X.w d xs) from I.hok d _ D.at_);exact⟨h0,o,es,ep,h1,h2,h3,h4,λx hx=>key_is I (D.key x hx),h5⟩
def Fg (a:KD K)(hd:a.dep<=7)(P:Program)(w:World)(F:gV)(td ty:TE):TE:=λσ H Q=>td σ H λx H1=>ty σ H1 λy H2=>∃d b k xs p v,x=.ref d/\y=.ref b/\g8 a hd P w F H2 d xs/\Den F H2 (.ref b) (a.toD k)/\atKey xs k=some p/\RelV v p.2/\Q v H2
def EZ (a:KD K)(hd:a.dep<=7)(P:Program)(w:World)(F:gV)(td ty tv:TE):TS:=λD σ H=>tv σ H λv H1=>td σ H1 λx H2=>ty σ H2 λy H3=>∃d b k xs,x=.ref d/\y=.ref b/\g8 a hd P w F H3 d xs/\Den F H3 (.ref b) (a.toD k)/\xs.length<=sizeLine/\∀u,RelV v u->D.nx σ (upd H3 d (dNk a hd P w d (storedH xs k b u)))
def Fp (a:KD K)(hd:a.dep<=7)(P:Program)(w:World):TE:=λ_ H Q=>∀p,H p=none->Q (.ref p) (upd H p (dNk a hd P w p []))
variable {o i value:Expr}{pos pos':Pos}{td ty tv:TE}
theorem iP (hu:X.A.units+16<cLine)(ho:PE X o td)(hi:PE X i ty)(hs:k6 i):PE X (.Subscript o i pos) (Fg a hd X.prog X.w X.K td ty):=by intro pins s σ H Q I h;refine oM PySem.F.slot_dict_getitem.lookup hs (thn (ho pins s σ H _ I h) λu s1 ⟨x,H1,I1,rx,q1⟩=>thn (hi pins s1 σ H1 _ I1 q1) λiv s2 ⟨y,H2,I2,ry,d,b,k,xs,p,v,ex,ey,D,g,hp,rv,q2⟩=>?_);subst ex ey;obtain rfl:u=GI d:=rx;obtain rfl:iv=GI b:=ry;obtain⟨_,dd⟩:=za I2 D;exact⟨dd.typeIs,wpAny_getItem_heap (show X.A.units+1+8<cLine by omega) (key_is I2 g) dd hp ⟨v,H2,I2.tok _,rv,q2⟩⟩
theorem pA (hu:X.A.units+16<cLine)(ho:PE X o td)(hi:PE X i ty)(hv:PE X value tv)(hs:swapsWith value (some (.Subscript o i pos')) pos.line X.env=pure false):
   PS X (.Assign [.Subscript o i pos'] value pos) (EZ a hd X.prog X.w X.K td ty tv):=by
 intro pins s σ H D I h;refine wpAny_Assign_Subscript (thn (hv pins s σ H _ I h) λr s1 ⟨v,H1,I1,rv,q1⟩=>thn (ho pins s1 σ H1 _ I1 q1) λu s2 ⟨x,H2,I2,rx,q2⟩=>thn (hi pins s2 σ H2 _ I2 q2) λiv s3 ⟨y,H3,I3,ry,d,b,k,xs,ex,ey,D',g,hl,q3⟩=>?_) hs;subst ex ey;obtain rfl:u=GI d:=rx;obtain rfl:iv=GI b:=ry;obtain⟨hd',dd⟩:=za I3 D';refine wpAny_setItem_heap (hsz:=hl) (show X.A.units+1+8<cLine by omega) (key_is I3 g) dd λh' dd' hs=>⟨σ,_,?_,q3 r rv⟩;obtain⟨q,es,ep,hq,h2,h3,h4,_,h5⟩:=dd';refine eY I3 (by rw[D'.at_]; exact HL) hs ⟨q,hq⟩ ⟨⟨hd',q,es,ep,hq,h2,h3,h4,h5⟩,⟨q,hq⟩,λa1 a2 ⟨z0,o,es,ep,z1,z2⟩ hk=>⟨z0,o,es,ep,hk o z1,z2⟩⟩
theorem pz:PE X (.Dict [] [] pos) (Fp a hd X.prog X.w):=λpins s σ H Q I h=>
 wpAny_Dict_empty ⟨.ref s.heap.objs.size,_,I.laid (a:=s.heap.objs.size) (o:=dNk a hd X.prog X.w s.heap.objs.size []) (t':=s.toks) (λ_ _ q=>ip _ q) (ia _)
   ⟨⟨beq_eq_false_iff_ne.mpr (Hi (GR I.big)),_,#[],0,Et _ rfl,⟨rfl,rfl,rfl⟩,rfl,rfl,JG⟩,⟨_,Et _ rfl⟩,λa1 a2 ⟨z0,o,es,ep,z1,z2⟩ hk=>⟨z0,o,es,ep,hk o z1,z2⟩⟩,rfl,h _ (I.hok.fresh (ia _))⟩
end
end Ev
namespace Hy
open PySem PySem.Spec PyProof.Rows L2
open Ev (D Den ay KD NEs dNk g8)
section
variable {K:Type}[DecidableEq K]
inductive EnK (a:KD K)(F:gV)(G:Hp):NEs K->List (K×D)->Prop where
 | nil:EnK a F G [] []
 | cons {k:K} {b:Addr} {u:Value} {v:V} {x:D} {xs:NEs K} {m:List (K×D)} (hk:Den F G (.ref b) (a.toD k)) (hr:RelV v u) (hv:Den F G v x) (r:EnK a F G xs m):EnK a F G ((k,b,u)::xs) ((k,x)::m)
variable {a:KD K}{F:gV}{G G':Hp}
theorem EnK.mono (e:ak G G'):∀{xs:NEs K} {m:List (K×D)},EnK a F G xs m->EnK a F G' xs m
 | _,_,.nil=>.nil
 | _,_,.cons h1 h2 h3 r=>.cons (h1.mono e) h2 (h3.mono e) (r.mono e)
theorem EnK.length:∀{xs:NEs K} {m:List (K×D)},EnK a F G xs m->xs.length=m.length
 | _,_,.nil=>rfl
 | _,_,.cons _ _ _ r=>congrArg (·+1) r.length
theorem EnK.key:∀{xs:NEs K} {m:List (K×D)},EnK a F G xs m->∀x∈xs,Den F G (.ref x.2.1) (a.toD x.1)
 | _,_,.nil,_,h=>nomatch h
 | _,_,.cons h _ _ r,x,hx=>(xb.mp hx).elim (λz=>z▸h) (r.key x)
noncomputable def getM (m:List (K×D))(k:K):Option D:=(m.find? λx=>decide (x.1=k)).map (·.2)
noncomputable def fT (m:List (K×D))(k:K)(x:D):List (K×D):=if (getM m k).isSome then m.map λy=>if y.1=k then (y.1,x) else y else m++[(k,x)]
theorem EnK.at:∀{xs:NEs K} {m:List (K×D)},EnK a F G xs m->∀k,match getM m k with
   | none=>atKey xs k=none
   | some x=>∃p v,atKey xs k=some p/\RelV v p.2/\Den F G v x
 | _,_,.nil,_=>rfl
 | _,_,.cons (k:=k') (x:=y) (m:=m) (xs:=xs) h1 h2 h3 r,k=>by
   have ih:=r.at k;unfold getM atKey at *
   by_cases e:k'=k
   . simp only[HU,e,decide_true,HN];exact⟨_,_,rfl,h2,h3⟩
   . simp only[HU,e,decide_false];exact ih
theorem EnK.isSome {xs:NEs K}{m:List (K×D)}(h:EnK a F G xs m)(k:K):(atKey xs k).isSome=(getM m k).isSome:=by
 have:=h.at k;cases e:getM m k with
 | none=>rw[e]at this; simp only at this; rw[this]; rfl
 | some x=>rw[e]at this; obtain⟨p,v,h1,_⟩:=this; rw[h1]; rfl
theorem EnK.snoc {k:K}{b:Addr}{u:Value}{v:V}{x:D}(h1:Den F G (.ref b) (a.toD k))(h2:RelV v u)(h3:Den F G v x):∀{xs:NEs K} {m:List (K×D)},EnK a F G xs m->EnK a F G (xs++[(k,b,u)]) (m++[(k,x)])
 | _,_,.nil=>.cons h1 h2 h3 .nil
 | _,_,.cons g1 g2 g3 r=>.cons g1 g2 g3 (r.snoc h1 h2 h3)
theorem EnK.over {k:K}{u:Value}{v:V}{x:D}(h2:RelV v u)(h3:Den F G v x):∀{xs:NEs K} {m:List (K×D)},EnK a F G xs m->EnK a F G (xs.map (putAt k u)) (m.map λy=>if y.1=k then (y.1,x) else y)
 | _,_,.nil=>.nil
 | _,_,.cons (k:=k') g1 g2 g3 r=>by
   rw[GP,GP];unfold putAt;by_cases e:k'=k
   . simp only[e,if_true];rw[e]at g1;exact .cons g1 h2 h3 (r.over h2 h3)
   . simp only[e,if_false];exact .cons g1 g2 g3 (r.over h2 h3)
theorem EnK.put {k:K}{b:Addr}{u:Value}{v:V}{x:D}{xs:NEs K}{m:List (K×D)}(h:EnK a F G xs m)(h1:Den F G (.ref b) (a.toD k))(h2:RelV v u)(h3:Den F G v x):EnK a F G (storedH xs k b u) (fT m k x):=by
 unfold storedH fT;rw[h.isSome k];split
 . exact h.over h2 h3
 . exact h.snoc h1 h2 h3
noncomputable def exK (a:KD K)(hd:a.dep<=7)(P:Program)(w:World)(m:List (K×D)):Ex where
 p:=λF G o p=>∃xs,o=dNk a hd P w p xs/\EnK a F G xs m
 mono:=λe ⟨xs,h1,h2⟩=>⟨xs,h1,h2.mono e⟩
 ext:=λ⟨xs,h1,_⟩=>.inl ⟨_,h1⟩
end
end Hy
namespace Hy
open PySem PySem.Spec PyProof.Rows L2
open Ev (D Den ay KD NEs dNk g8 ao iP pz pA)
section
variable {K:Type}[DecidableEq K]{a:KD K}{hd:a.dep<=7}{X:Cx}{C:Bool}{τ:List Sl}{x:D}{b ix:Expr}{pos p q:Pos}{k:Nat}{N:Po}{m:List (K×D)}{key:K}
theorem sR:PE X (.Dict [] [] pos) (dE X.K C τ (.x (exK a hd X.prog X.w []))):=peW pz λσ H Q ⟨A,H₀,B,S,k⟩=>λp hp=>k (.ref p) _ [p] (ao hp _) (λb hb=>by rw[ib.mp hb]; exact⟨hp,_,au⟩) ⟨p,_,rfl,rfl,au,[],rfl,.nil⟩
theorem Sta.dct {F:gV}{P:Program}{w:World}{A:Addr->Prop}{H₀ H:Hp}{B:Nat->List Addr}{σ:L2.St}{i:Nat}(S:Sta F A H₀ τ B σ H)(hi:τ[i]?=some (.x (exK a hd P w m))):∃d xs,(σ[i]?).join=some (.ref d)/\B i=[d]/\H d=some (dNk a hd P w d xs)/\EnK a F (Hy.hd H (own A B)) xs m:=by obtain⟨d,o,h1,h2,h3,xs,rfl,h5⟩:=S.sl i _ hi;exact⟨d,xs,h2,h1,h3,h5⟩
theorem sj (i:Nat){n:Str}(hu:X.A.units+16<cLine)(hi:τ[i]?=some (.x (exK a hd X.prog X.w m)))(hk:PE X ix (dE X.K false τ (.d (a.toD key))))(hx:getM m key=some x)(hr:∀H v,Den X.K H v (a.toD key)->∃b,v=.ref b)(hs:k6 ix)(hN:X.N[i]?=some n:=by rfl)
   (hv:Vis X.env.scope n:=by first | exact Hh rfl | exact G0 (Hh rfl) | exact G0 (G0 rfl)) (hd1:(n==("__debug__" : Str))=false:=by decide) (hcd:(n==("__classdict__" : Str))=false:=by decide):PE X (.Subscript (.Name n p) ix pos) (dE X.K C τ (.d x)):=
 peW (iP (a:=a) (hd:=hd) hu (a4 (i:=i) hN hv hd1 hcd) hk hs) λσ H Q q=>by obtain⟨A,H₀,B,S,kk⟩:=ck q;obtain⟨d,xs,e1,e2,e3,e4⟩:=S.dct hi;refine⟨_,slot_of e1,aF S λy H2 e5 dy=>?_⟩;obtain⟨b,rfl⟩:=hr _ _ dy;have S2:=S.mono e5;obtain⟨d',xs',g1,g2,g3,g4⟩:=S2.dct hi;rw[e1]at g1;cases g1;have:=g4.at key;rw[hx]at this;obtain⟨pp,v,h1,h2,h3⟩:=this;exact⟨d,b,key,xs',pp,v,rfl,rfl,⟨g3,λz hz=>(g4.key z hz).mono aG⟩,dy.mono aG,h1,h2,kk v H2 e5 (h3.mono (aw (ak.refl _) λ_ z=>jl z))⟩
end
section
variable {K:gV}{A:Addr->Prop}{H₀ H:Hp}{τ:List Sl}{B:Nat->List Addr}{σ:L2.St}
theorem Sta.Aj (S:Sta K A H₀ τ B σ H){i:Nat}{a:Addr}{E E':Ex}{o':HO}(hi:τ[i]?=some (.x E))(hB:B i=[a])(d:E'.p K (hd H (own A B)) o' a):Sta K A H₀ (τ.set i (.x E')) B σ (upd H a o'):=by
 have ha:own A B a:=.inr ⟨i,by rw[hB]; exact ib.mpr rfl⟩;have ne:∀b,b≠a->upd H a o' b=H b:=λb h=>ar h;have sm:ak (hd H (own A B)) (hd (upd H a o') (own A B)):=λb o z=>by obtain⟨z1,z2⟩:=ax.mp z;exact ax.mpr ⟨z1,by rw[ne b (λe=>z1 (e▸ha))]; exact z2⟩
 have f0:H₀ a=none:=S.fr i a (by rw[hB]; exact ib.mpr rfl);have hs:ak H₀ (upd H a o'):=λb o z=>by rw[ne b (λe=>by rw[e,f0]at z; cases z)]; exact S.same b o z
 refine⟨hs,by rw[G7,S.len],λj t hj=>?_,S.fr,S.uq,S.ad,λj b hb=>?_⟩
 . by_cases ej:j=i
   . subst ej;have hl:=(GD.mp hi).1;rw[G1 hl]at hj;cases hj;obtain⟨a',o,e1,e2,_,_⟩:=S.sl j _ hi;rw[hB]at e1;cases e1;exact⟨a,o',hB,e2,au,E'.mono sm d⟩
   . rw[GW (λz=>ej z.symm)]at hj;have off:∀b∈B j,b≠a:=λb hb e=>ej (S.uq j i a (e▸hb) (by rw[hB]; exact ib.mpr rfl));have q:=S.sl j t hj;cases t with
     | un=>exact q
     | d x=>obtain⟨z,u,e,d⟩:=q; exact⟨z,u,e,d.mono sm⟩
     | o zs=>obtain⟨c,ws,z1,z2,z3,z4⟩:=q;exact⟨c,ws,z1,z2,by rw[ne c (off c (by rw[z1]; exact ib.mpr rfl))]; exact z3,z4.mono sm⟩
     | n t=>obtain⟨z0,u,z1,z2⟩:=q;exact⟨z0,u,z1,z2.frame sm λb hb=>ne b (off b hb)⟩
     | x E=>obtain⟨c,o,z1,z2,z3,z4⟩:=q;exact⟨c,o,z1,z2,by rw[ne c (off c (by rw[z1]; exact ib.mpr rfl))]; exact z3,E.mono sm z4⟩
     | w W=>obtain⟨z0,u,z1,z2⟩:=q;exact⟨z0,u,z1,W.fr sm (λb hb=>ne b (off b hb)) z2⟩
 . by_cases e:b=a
   . subst e; exact⟨_,au⟩
   . rw[ne b e]; exact S.bd j b hb
end
section
variable {K:Type}[DecidableEq K]{a:KD K}{hd:a.dep<=7}{X:Cx}{τ:List Sl}{x:D}{b e ix:Expr}{pos p sp:Pos}{N:Po}{rest:List Stmt}{m:List (K×D)}{key:K}
theorem pD (i:Nat){n:Str}(hu:X.A.units+16<cLine)(hi:τ[i]?=some (.x (exK a hd X.prog X.w m)))(hk:PE X ix (dE X.K true τ (.d (a.toD key))))(he:PE X e (dE X.K true τ (.d x)))(hl:m.length<=sizeLine)(hr:∀H v,Den X.K H v (a.toD key)->∃b,v=.ref b)
   (hn:PSs X rest (dS X.K (τ.set i (.x (exK a hd X.prog X.w (fT m key x)))) N)) (hN:X.N[i]?=some n:=by rfl)
   (hv:Vis X.env.scope n:=by first | exact Hh rfl | exact G0 (Hh rfl) | exact G0 (G0 rfl)) (hd1:(n==("__debug__" : Str))=false:=by decide) (hcd:(n==("__classdict__" : Str))=false:=by decide)
   (hs:swapsWith e (some (.Subscript (.Name n p) ix sp)) pos.line X.env=pure false:=by rfl):PSs X (.Assign [.Subscript (.Name n p) ix sp] e pos::rest) (dS X.K τ N):=
 bh (M:=(·=τ.set i (.x (exK a hd X.prog X.w (fT m key x))))) (psW (pA (a:=a) (hd:=hd) hu (a4 (i:=i) hN hv hd1 hcd) hk he hs) λD σ H ⟨A,H₀,B,S,Me⟩=>aF S λv H1 e1 d1=>by
   have S1:=S.mono e1;obtain⟨d,xs,g1,_⟩:=S1.dct hi;refine⟨_,slot_of g1,aF S1 λy H2 e2 dy=>?_⟩;obtain⟨b,rfl⟩:=hr _ _ dy;have S2:=S1.mono e2;obtain⟨d',xs',h1,h2,h3,h4⟩:=S2.dct hi;rw[g1]at h1;cases h1;have d1':=d1.mono (aw e2 λ_ z=>z);exact⟨d,b,key,xs',rfl,rfl,⟨h3,λz hz=>(h4.key z hz).mono aG⟩,dy.mono aG,by rw[h4.length]; exact hl,λu hu=>Me.nx _ _ _ _ rfl (S2.Aj hi h2 ⟨_,rfl,h4.put dy hu d1'⟩)⟩) λ_ e=>e▸hn
end
end Hy
namespace Hy
open PySem PySem.Spec PyProof.Rows L2
open Ev (D Den ay Bx ao bD Itk xl rP Itd iDn BK)
noncomputable def fV (kv:List (Int×Int))(k v:Int):List (Int×Int):=if (kv.any λp=>decide (p.1=k))=true then kv.map (λp=>if p.1=k then (p.1,v) else p) else kv++[(k,v)]
noncomputable def bH (kv:List (Int×Int))(k:Int):Option Int:=(kv.find? λp=>decide (p.1=k)).map (·.2)
theorem A2 (kv:List (Int×Int))(k:Int):((bD kv).any λp=>decide (p.1=.inl k))=kv.any λp=>decide (p.1=k):=by unfold bD;rw[List.any_map];congr 1;funext p;simp
theorem uF (kv:List (Int×Int))(k v:Int):putK (bD kv) (.inl k) (.int v)=bD (fV kv k v):=by
 unfold putK fV;rw[A2];by_cases h:(kv.any λp=>decide (p.1=k))=true
 . rw[if_pos h,if_pos h];unfold bD;rw[GO,GO];refine GY λp _=>?_;simp only[Jk];by_cases z:p.1=k
   . rw[if_pos (congrArg IW z),if_pos z]
   . rw[if_neg (λy=>z (KP y)),if_neg z]
 . rw[if_neg h,if_neg h];unfold bD;rw[GN];rfl
theorem i9:∀(kv:List (Int×Int)) (k:Int),cG (bD kv) (.inl k)=(bH kv k).map V.int
 | [],_=>rfl
 | p::r,k=>by
   unfold bH;by_cases z:p.1=k
   . rw[J4 (by simp[z])];exact bC (p:=(IW p.1,V.int p.2)) (congrArg IW z)
   . rw[J5 (by simp[z])];exact(bG (p:=(IW p.1,V.int p.2)) (λy=>z (KP y))).trans (i9 r k)
theorem z9 (kv:List (Int×Int))(k v:Int):(fV kv k v).length<=kv.length+1:=by
 unfold fV;split
 . rw[fw]; omega
 . rw[vp,GK,Kc]; omega
noncomputable def exZ (m:List (Int×Int)):Ex where
 p:=λ_ _ o _=>o=.dK (bD m)
 mono:=λ_ h=>h
 ext:=λh=>.inr (.inr ⟨_,.inl h⟩)
noncomputable def exF (ob:Obj)(m:List (Int×Int)):Ex where
 p:=λ_ _ o _=>o=.frz ob (.dK (bD m))
 mono:=λ_ h=>h
 ext:=λh=>.inr (.inr ⟨_,.inr ⟨_,h⟩⟩)
noncomputable def bxZ (m:List (Int×Int)):Bx where
 p:=λ_ H d=>∃o,H d=some (.frz o (.dK (bD m)))
 mono:=λe ⟨o,h⟩=>⟨o,e _ _ h⟩
 isd:=λ⟨o,h⟩=>⟨_,h,λP w H' h z=>by
   obtain⟨_,_,_,vs,_,ob,_,_,z1,z2,_⟩:=z;exact⟨ob,z1,z2.1⟩⟩
section
variable {K:gV}{A:Addr->Prop}{H₀ H:Hp}{τ:List Sl}{B:Nat->List Addr}{σ:L2.St}{m:List (Int×Int)}{i:Nat}
theorem Sta.dz (S:Sta K A H₀ τ B σ H)(hi:τ[i]?=some (.x (exZ m))):∃d,(σ[i]?).join=some (.ref d)/\B i=[d]/\H d=some (.dK (bD m)):=by obtain⟨d,o,h1,h2,h3,h4⟩:=S.sl i _ hi;cases (show o=_ from h4);exact⟨d,h2,h1,h3⟩
theorem Sta.fzF {ob:Obj}(S:Sta K A H₀ τ B σ H)(hi:τ[i]?=some (.x (exF ob m))):Sta K A H₀ (τ.set i (.d (.box (bxZ m)))) (upB B i []) σ H:=S.less (λ_ z=>nomatch z) λG g hv=>by obtain⟨d,o,h1,h2,h3,h4⟩:=S.sl i _ hi;cases (show o=_ from h4);exact⟨rfl,_,h2,.box ⟨ob,hv d _ (by rw[h1]; exact ib.mpr rfl) (λz=>nomatch z) h3⟩⟩
end
section
variable {X:Cx}{C:Bool}{τ:List Sl}{x:D}{a b e f o ix tg:Expr}{pos p q apos cpos sp:Pos}{k:Nat}{N:Po}{rest:List Stmt}{m:List (Int×Int)}{key v n:Int}
theorem wM {xs:List D}{n:Nat}(h:xs.length=n):iy X (.builtin "len") [.lst xs] (.d (.int n)):=h▸gf
theorem fD {n:Str}:k6 (.Name n p):=λ_ _=>rfl
theorem xU {op:Operator}:k6 (.BinOp a op b p):=λ_ _=>rfl
theorem C4:PE X (.Dict [] [] pos) (dE X.K C τ (.x (exZ []))):=peW rS λσ H Q ⟨A,H₀,B,S,k⟩=>λp hp=>k (.ref p) _ [p] (ao hp _) (λb hb=>by rw[ib.mp hb]; exact⟨hp,_,au⟩) ⟨p,_,rfl,rfl,au,rfl⟩
theorem Cd {j l:Nat}:PE X (.Dict [some (.Constant (.int key) j p)] [.Constant (.int v) l q] pos) (dE X.K C τ (.x (exZ [(key,v)]))):=peW (vB (i4 jr jr uT) rfl rfl (by simp) (by show (1:Nat)<=15; decide)) λσ H Q ⟨A,H₀,B,S,k⟩=>λp hp=>by
 refine⟨au,[(.inl key,.int v)],rfl,(by show (1:Nat)<=15; decide),?_⟩;have e:upd (upd H p (.dK [])) p (.dK (gA [] [(IW key,V.int v)]))=upd H p (.dK (bD [(key,v)])):=by funext b;unfold upd;split <;> rfl
 rw[e];exact k (.ref p) _ [p] (ao hp _) (λb hb=>by rw[ib.mp hb]; exact⟨hp,_,au⟩) ⟨p,_,rfl,rfl,au,rfl⟩
theorem Eb (i:Nat)(h:PSs X rest (dS X.K (τ.set i (.d (.box (bxZ m)))) N))(hi:τ[i]?=some (.x (exZ m)):=by rfl):PSs X rest (dS X.K τ N):=by intro pins s σ H D I ⟨A,H₀,B,S,Me⟩;obtain⟨d,h1,h2,h3⟩:=S.dz hi;obtain⟨z,hd,vs,rel,dd⟩:=rG I.hok h3;obtain⟨o,es,ep,e,r⟩:=id dd;have I2:Inv X pins σ (upd H d (.frz o (.dK (bD m)))) s:=eY (t':=s.toks) (h':=s.heap) I (by rw[h3]; exact HL) (.refl _ _) ⟨o,e⟩ ⟨e,oJ z hd rel dd⟩;have hl:=(GD.mp hi).1;have S2:=S.Aj (E':=exF o m) hi h2 rfl;have S3:=S2.fzF (ob:=o) (m:=m) (G1 hl);rw[List.set_set]at S3;exact h pins s σ _ D I2 ⟨A,H₀,_,S3,Me⟩
theorem Cz (hu:X.A.units+1<cLine)(hb:PE X b (dE X.K C τ (.d (.box (bxZ m)))))(hk:PE X ix (dE X.K C τ (.d (.int key))))(hx:bH m key=some v)(hs:k6 ix):PE X (.Subscript b ix pos) (dE X.K C τ (.d (.int v))):=
 peW (vj hu hb hk hs) λσ H Q q=>by
   obtain⟨A,H₀,B,S,kk⟩:=ck q;refine aF S λu H1 e1 d1=>aF (S.mono e1) λy H2 e2 dy=>?_;cases dy;cases d1.mono (aw e2 λ_ z=>z) with
   | box h=>obtain⟨o,g⟩:=h;exact⟨_,.int v,rfl,⟨_,.inl key,.inr ⟨o,aG _ _ g⟩,rfl,by rw[i9,hx]; rfl⟩,kk _ H2 (e1.trans e2) .int⟩
theorem A4 (i:Nat){nm:Str}(hu:X.A.units+1<cLine)(hi:τ[i]?=some (.x (exZ m)))(hk:PE X e (dE X.K false τ (.d (.int key))))(hx:PE X f (dE X.K false τ (.d (.int v))))(m2:M2 X (.Name nm p) "get" apos e f cpos:=by exact⟨rfl,rfl,rfl,rfl⟩)(hN:X.N[i]?=some nm:=by rfl)
   (hv:Vis X.env.scope nm:=by first | exact Hh rfl | exact G0 (Hh rfl) | exact G0 (G0 rfl)) (hd1:(nm==("__debug__" : Str))=false:=by decide) (hcd:(nm==("__classdict__" : Str))=false:=by decide):PE X (.Call (.Attribute (.Name nm p) "get" apos) [e,f] [] cpos) (dE X.K C τ (.d (.int ((bH m key).getD v)))):=
 peW (rY hu (a4 (i:=i) hN hv hd1 hcd) hk hx m2) λσ H Q q=>by
   obtain⟨A,H₀,B,S,kk⟩:=ck q;obtain⟨d,h1,h2,h3⟩:=S.dz hi;refine⟨_,slot_of h1,d,rfl,⟨_,.inl h3⟩,aF S λy H2 e2 dy=>aF (S.mono e2) λz H3 e3 dz=>?_⟩;cases dy;cases dz;refine⟨_,⟨_,.inl key,.inl ((e2.trans e3) _ _ h3),rfl,rfl⟩,?_⟩;have e:(cG (bD m) (.inl key)).getD (.int v)=V.int ((bH m key).getD v):=by rw[i9]; cases bH m key <;> rfl
   rw[e];exact kk _ H3 (e2.trans e3) .int
theorem DG (i:Nat){nm:Str}(hu:X.A.units+1<cLine)(hi:τ[i]?=some (.x (exZ m)))(hk:PE X ix (dE X.K true τ (.d (.int key))))(he:PE X e (dE X.K true τ (.d (.int v))))(hl:m.length<sizeLine)
   (hn:PSs X rest (dS X.K (τ.set i (.x (exZ (fV m key v)))) N)) (hN:X.N[i]?=some nm:=by rfl)
   (hv:Vis X.env.scope nm:=by first | exact Hh rfl | exact G0 (Hh rfl) | exact G0 (G0 rfl)) (hd1:(nm==("__debug__" : Str))=false:=by decide) (hcd:(nm==("__classdict__" : Str))=false:=by decide)
   (hs:swapsWith e (some (.Subscript (.Name nm p) ix sp)) pos.line X.env=pure false:=by rfl):PSs X (.Assign [.Subscript (.Name nm p) ix sp] e pos::rest) (dS X.K τ N):=
 bh (M:=(·=τ.set i (.x (exZ (fV m key v))))) (psW (ur hu (a4 (i:=i) hN hv hd1 hcd) hk he hs) λD σ H ⟨A,H₀,B,S,Me⟩=>aF S λu H1 e1 d1=>by
   cases d1;have S1:=S.mono e1;obtain⟨d,g1,_⟩:=S1.dz hi;refine⟨_,slot_of g1,aF S1 λy H2 e2 dy=>?_⟩;cases dy;have S2:=S1.mono e2;obtain⟨d',h1,h2,h3⟩:=S2.dz hi;rw[g1]at h1;cases h1;refine⟨d,_,rfl,⟨_,.inl key,h3,rfl,by unfold bD; rw[fw]; exact hl,rfl⟩,?_⟩;rw[uF];exact Me.nx _ _ _ _ rfl (S2.Aj hi h2 rfl)) λ_ e=>e▸hn
theorem zF (h:PE X e (dE X.K true τ (.d (.box (bxZ m)))))(hc:X.calm=true:=by first | rfl | assumption):PI X tg e (dI X.K τ (m.map λp=>.int p.1)):=piW (rP hc h) λσ H R ⟨A,H₀,B,S,k⟩=>aF S λv H1 e1 d1=>by
 cases d1 with
 | box h=>
   obtain⟨o,g⟩:=h;refine⟨_,o,m,rfl,aG _ _ g,k _ H1 e1 λH2 sg=>⟨λi hi=>⟨by simpa using hi,sg _ _ g⟩,λi hi=>⟨⟨by simpa using hi,sg _ _ g⟩,λx H' ⟨eH,p,hp,ex⟩=>?_⟩⟩⟩;subst eH ex;refine⟨ak.refl _,λM _ _=>?_⟩;have hi':i<m.length:=by simpa using hi
   rw[ph hi']at hp;cases hp;rw[Il];exact .int
theorem An {m:List (Int×Int)}:∀i (h:i<(m.map λp=>D.int p.1).length),(m.map λp=>D.int p.1)[i]=.int (m.getD i (0,0)).1:=λi h=>by
 have:i<m.length:=by simpa using h
 simp[this]
noncomputable def dnD (n:Nat):List D:=(ox n).map λi:Nat=>.int ((n:Int)-1-(i:Int))
theorem iF (n:Nat):(dnD n).length=n:=by simp[dnD]
theorem Gp {n:Nat}:∀i (h:i<(dnD n).length),(dnD n)[i]=.int ((n-1-i:Nat):Int):=λi h=>by rw[iF]at h;simp only[dnD,Il,List.getElem_range];congr 1;omega
theorem Gk {n:Nat}{p' pos':Pos}(B:Bk X k)(h:PE X a (dE X.K false τ (.d (.int n))))(hn:n<1000)(hg:Gl X "reversed":=by rfl)(hg':Gl X "range":=by rfl)(hs':starEach [a] X.env=[(false,eval a X.env)]:=by rfl)
   (hs:starEach [.Call (.Name "range" p') [a] [] pos'] X.env=[(false,eval (.Call (.Name "range" p') [a] [] pos') X.env)]:=by rfl):PI X tg (.Call (.Name "reversed" p) [.Call (.Name "range" p') [a] [] pos'] [] pos) (dI X.K τ (dnD n)):=
 piW (BK B.calm hg (B.blt _ (by decide)) hg' (B.blt _ (by decide)) (ab h af hs') hs' hs) λσ H R ⟨A,H₀,B,S,k⟩=>c9 S λvs H1 e1 d1=>by
   cases d1 with
   | cons d r=>cases r;cases d;refine⟨n,rfl,hn,k _ H1 e1 λH2 sg=>⟨λi hi=>by rw[iF]at hi; exact hi,λi hi=>⟨by rw[iF]at hi; exact hi,λx H' ⟨eH,ex⟩=>?_⟩⟩⟩;subst eH ex;refine⟨ak.refl _,λM _ _=>?_⟩;simp only[dnD,Il,List.getElem_range];exact .int
end
end Hy
namespace Hy
open PySem PySem.Spec PyProof.Rows L2
open Ev (D Den ay aJ aE ao aS aQ)
end Hy
namespace Su
open PySem PyProof.Rows HT
open PySem.SeqAt
open PySem.AutoSeq1 (wpAny_loadPart')
open PySem.MeetsSeq PySem.MeetsSeq2 PySem.MeetsSeq3
end Su
namespace Hy
open PySem PySem.Spec PyProof.Rows L2
open Ev (D Den ay aJ aE ao aS aQ)
section
variable {X:Cx}{x y z:D}{a b e:Expr}{p:Pos}{k:Nat}{s:Sl}{xs ys:List D}
theorem zE:OpR X (binaryOp .Add) (λx y H Q=>∃a b ys,x=.ref a/\y=.ref b/\SqT X.K H a []/\SqT X.K H b ys/\Q (.ref b) H):=by intro pins s σ H x y v u Q I rx ry h;obtain⟨a,b,ys,rfl,rfl,ha,hb,q⟩:=h;cases rx;cases ry;obtain⟨its,r1,p1,_⟩:=I.tuple ha;obtain⟨its2,r2,p2,_⟩:=I.tuple hb;cases r1;obtain⟨⟨cls,dd,data,sl⟩,ho,hc,n,hd⟩:=id p1;obtain⟨⟨cls2,dd2,data2,sl2⟩,ho2,hc2,n2,hd2⟩:=id p2;simp only at hc hd hc2 hd2;subst hc hd hc2 hd2;exact concat_meets ⟨_,ho,rfl⟩ ⟨_,ho2,rfl⟩ noFill_tuple_add seq_tuple_add JP JK (JE _ _) (tuple_addW0 a b _ _ n n2 dd dd2 sl sl2 (by simp)) ⟨ho,ho2,⟨.ref b,H,I,rfl,q⟩⟩
theorem om (hl:xs.length+ys.length<1000000):bW X (binaryOp .Add) (.tup xs) (.tup ys) (.tup (xs++ys)):=by
 have lim:1000000<=sizeLine:=by decide
 cases xs with
 | nil=>exact⟨_,zE,λM v w H Q _ d1 d2 k=>by
     cases d1 with
     | tup h1 r1=>
       cases r1;cases d2 with
       | tup h2 r2=>exact⟨_,_,_,rfl,rfl,aS aG h1,aS aG h2,k _ H (ak.refl _) (.tup h2 r2)⟩⟩
 | cons x0 xs=>exact⟨_,A5,λM v w H Q hM d1 d2 k=>by
     cases d1 with
     | @tup a1 vs _ h1 r1=>
     cases d2 with
     | @tup a2 ws _ h2 r2=>
     have l1:=r1.length;have l2:=r2.length;refine⟨_,_,_,_,rfl,rfl,aS aG h1,aS aG h2,λz=>by subst z; simp at l1,by omega,λz=>?_,λ_ p hp=>?_⟩
     . subst z;cases r2;rw[G3]at k;exact k _ H (ak.refl _) (.tup h1 r1)
     . have e:=ao hp (.tup (vs++ws));exact k _ _ e (.tup (SqT.of (lK hM hp)) ((r1.append r2).mono (aw e λ_ z=>z)))⟩
end
end Hy
namespace Hy
open PySem PySem.Spec PyProof.Rows L2
open Ev (D Den ay ao aM fU dD PTs cC eJ)
end Hy
namespace Hy
open PySem PySem.Spec PyProof.Rows L2
open Ev (D Den ay ao)
theorem mY {K:gV}{H:Hp}:∀{vs:List V} {ds:List D} (j:Nat),ay K H vs ds->ay K H (vs.eraseIdx j) (ds.eraseIdx j)
 | _,_,_,.nil=>.nil
 | _,_,0,.cons _ r=>r
 | _,_,j+1,.cons h r=>.cons h (mY j r)
section
variable {X:Cx}{C:Bool}{τ:List Sl}{k1 k2 k3 v1 v2 v3 e f:Expr}{z1 z2 z3 n:Str}{i1 i2 i3 x:Int}{dp apos cpos:Pos}{y:D}
theorem D2 (hu:X.A.units+1<cLine)(a1:PE X k1 (dE X.K C τ (.d (.str z1))))(b1:PE X v1 (dE X.K C τ (.d (.int i1))))(a2:PE X k2 (dE X.K C τ (.d (.str z2))))(b2:PE X v2 (dE X.K C τ (.d (.int i2))))(a3:PE X k3 (dE X.K C τ (.d (.str z3))))(b3:PE X v3 (dE X.K C τ (.d (.int i3))))
   (he:PE X e (dE X.K C τ (.d (.str n)))) (hf:PE X f (dE X.K C τ (.d (.int x)))) (m2:M2 X (.Dict [some k1,some k2,some k3] [v1,v2,v3] dp) "get" apos e f cpos:=by exact⟨rfl,rfl,rfl,rfl⟩) :
   PE X (.Call (.Attribute (.Dict [some k1,some k2,some k3] [v1,v2,v3] dp) "get" apos) [e,f] [] cpos) (dE X.K C τ (.d (.int (if n=z3 then i3 else if n=z2 then i2 else if n=z1 then i1 else x)))):=
 peW (rY hu (vB (i4 a1 b1 (i4 a2 b2 (i4 a3 b3 uT))) rfl rfl (by simp) (by simp)) he hf m2) λσ H Q q=>by
   obtain⟨A,H₀,B,S,kk⟩:=ck q;intro p hp;have E0:ak H (upd H p (.dK [])):=ao hp _;refine aF (S.mono E0) λ_ H1 e1 d1=>?_;cases d1;refine aF (S.mono (E0.trans e1)) λ_ H2 e2 d2=>?_;cases d2;refine aF (S.mono (E0.trans (e1.trans e2))) λ_ H3 e3 d3=>?_;cases d3;refine aF (S.mono (E0.trans (e1.trans (e2.trans e3)))) λ_ H4 e4 d4=>?_;cases d4;refine aF (S.mono (E0.trans (e1.trans (e2.trans (e3.trans e4))))) λ_ H5 e5 d5=>?_;cases d5;refine aF (S.mono (E0.trans (e1.trans (e2.trans (e3.trans (e4.trans e5)))))) λ_ H6 e6 d6=>?_;cases d6;have E6:ak (upd H p (.dK [])) H6:=e1.trans (e2.trans (e3.trans (e4.trans (e5.trans e6))));refine⟨E6 _ _ au,[(.inr z1,.int i1),(.inr z2,.int i2),(.inr z3,.int i3)],rfl,(show 3<=15 by decide),p,rfl,⟨_,.inl au⟩,?_⟩
   have E7:ak H (upd H6 p (.dK (gA [] [(.inr z1,.int i1),(.inr z2,.int i2),(.inr z3,.int i3)]))):=λb o z=>by
     have ne:b≠p:=λw=>by rw[w,hp]at z; cases z
     rw[ar ne];exact E6 _ _ (E0 _ _ z)
   refine aF (S.mono E7) λ_ H8 e8 d8=>?_;cases d8;refine aF (S.mono (E7.trans e8)) λ_ H9 e9 d9=>?_;cases d9;refine⟨_,fS.k (k:=.inr n) (e9 _ _ (e8 _ _ au)),?_⟩
   have ev:(cG (gA [] [(.inr z1,.int i1),(.inr z2,.int i2),(.inr z3,.int i3)]) (.inr n:Key)).getD (.int x)=.int (if n=z3 then i3 else if n=z2 then i2 else if n=z1 then i1 else x):=by
     show (cG (putK (putK (putK [] (.inr z1) (.int i1)) (.inr z2) (.int i2)) (.inr z3) (.int i3)) (.inr n:Key)).getD (.int x)=_;rw[iN,iN,iN];by_cases h3:n=z3
     . rw[if_pos (congrArg _ h3),if_pos h3]; rfl
     . rw[if_neg (λz=>h3 (JI z)),if_neg h3];by_cases h2:n=z2
       . rw[if_pos (congrArg _ h2),if_pos h2]; rfl
       . rw[if_neg (λz=>h2 (JI z)),if_neg h2];by_cases h1:n=z1
         . rw[if_pos (congrArg _ h1),if_pos h1]; rfl
         . rw[if_neg (λz=>h1 (JI z)),if_neg h1]; rfl
   rw[ev];exact kk _ H9 (E7.trans (e8.trans e9)) .int
theorem j4 {C':Bool}(h:PE X e (dE X.K C' τ (.d y)))(f:flat y=true:=by rfl):PE X e (dE X.K C τ (.d y)):=peW h λσ H Q q=>by obtain⟨A,H₀,B,S,k⟩:=ck q;exact aF S λv H' e d=>k v H' e (yG d f)
end
end Hy
namespace K67
open PySem PySem.Spec PyProof.Rows L2 Hy
open Ev (D Den ay aJ aE)
noncomputable def kx (Cl:Addr):Wx->List D->Prop:=λW a=>∃m ds n T R C ss,∃at':Nat,W=wkW Cl m ds/\a=[.str n,.int at']/\oY n/\aU m n=some (aI T R C ss)/\at'<ss.length
noncomputable def mS (m:List (Str×D))(n:Str):D:=.tup [.str n,(aU m n).getD .non]
noncomputable def gi (Cl:Addr):Wx->List D->Wx->Prop:=λW a W'=>∃m ds n T R C ss ys,∃at':Nat,W=wkW Cl m ds/\a=[.str n,.int at',.lst (ys.map stD)]/\aU m n=some (aI T R C ss)/\ss.length<=400/\ys.length<=1/\m.length<sizeLine/\ds.length<1000000/\W'=wkW Cl (fh m n (aI T R C (ss.take at'++ys++ss.drop (at'+1)))) (ds++[mS m n])
noncomputable def pj (Cl:Addr):Wx->List D->Wx->Prop:=λW a W'=>∃m ds n T R C ss q,∃at':Nat,W=wkW Cl m ds/\a=[.str n,.int at',frD q]/\oY n/\aU m n=some (aI T R C ss)/\at'<ss.length/\ss.length<=400/\0<=q.num/\m.length<sizeLine/\ds.length<1000000/\W'=wkW Cl (fh m n (aI T R C (ss.take at'++[((ss.getD at' ("weigh",0,0)).1,(ss.getD at' ("weigh",0,0)).2.1,q)]++ss.drop (at'+1)))) (ds++[mS m n])
noncomputable def yu (Cl:Addr):Wx->List D->Wx->Prop:=λW a W'=>∃m ds n T R C ss,∃at':Nat,W=wkW Cl m ds/\a=[.str n,.int at']/\oY n/\aU m n=some (aI T R C ss)/\at'<ss.length/\ss.length<=400/\m.length<sizeLine/\ds.length<1000000/\W'=wkW Cl (fh m n (aI T R C (ss.take at'++[]++ss.drop (at'+1)))) (ds++[mS m n])
noncomputable def xS (Cl:Addr):Wx->List D->Wx->Prop:=λW a W'=>∃m ds n T R C ss s,W=wkW Cl m ds/\a=[.str n,stD s]/\oY n/\aU m n=some (aI T R C ss)/\okS T s/\ss.length<400/\m.length<sizeLine/\ds.length<1000000/\W'=wkW Cl (fh m n (aI T R C (ss.take 400++[s]++ss.drop (400+1)))) (ds++[mS m n])
theorem BU {xs:List D}(n:Nat):Hy.cutD xs (some ((n:Int))) none=xs.drop n:=by
 have h1:=uA (xs:=xs) n xs.length;have h2:Hy.cutD xs (some (n:Int)) (some (xs.length:Int))=Hy.cutD xs (some (n:Int)) none:=by unfold Hy.cutD;simp[HT.sIx];rw[if_neg (show ¬((xs.length:Int)<0) by omega),Nat.min_self]
 rw[<- h2,h1,K2]
section
variable {P:Program}{w:World}{K:gV}{mg:Str->Option Value}{base:Heap}{qual:Str}{f:Addr}{fd:FuncData}{k:Nat}{C:Addr}
theorem gU (hc:Cls K C)(n1:a8 K C "kept")(F:Fun K "look_place" qual (mth 54 9) f fd)(hb:∀x∈ah,mg x=none)(c_old:bA P w K mg base k C "look_kept" (spV K λW a s=>mV C ba W a/\s=.d .non))(c_is_between:Cal P w K mg base k "is_between" cj):aH P w K mg base CX0 (k+1) f fd ["self","name","at"] (spV K λW a s=>kx C W a/\s=.d .non):=by
 refine Cv (M':=λW' _ _ τ=>τ[0]?=some (.w W')) F gQ hb (by rintro _ _ ⟨_,_,_,_,_,_,_,_,_,rfl,_⟩; rfl) (λ_ _ _ _ h=>h) ?_;rintro _ _ ⟨m,ds,n,T,R,C',ss,at',rfl,rfl,h1,h2,h3⟩ W' hle cdv A outer s H E b;refine dM (cH 0 b hc c_old (wkW.ins ⟨by decide,by decide⟩) ⟨⟨m,ds,n,_,rfl,rfl,⟨n,rfl,h1,rfl⟩,h2⟩,rfl⟩ rfl hle (ab (aa 1) af)) ?_;refine bE (a5 (a6 (j4 (C':=true) (x_call b c_is_between (ab (aa 2) (ab ae (ab (aB (bq b (ab (av (rm (m:=m) (n:=n) (d:=aI T R C' ss) (by have:=b.room.units; omega) (cI 0 hc n1 rfl hle) (aa 1) (λ_ _=>rfl) h2) ae (aq (ai (i:=3) rfl))) af) gf) ae hU) af))) ⟨_,_,_,rfl,rfl⟩)))) ?_ ?_
 . rw[fw,decide_eq_true (by omega),decide_eq_true (by omega)]; rfl
 . exact aK rfl
theorem ka (hc:Cls K C)(n1:a8 K C "kept")(F:Fun K "change" qual (mth 54 13) f fd)(hb:∀x∈ah,mg x=none)(c_keep:bA P w K mg base k C "keep" (spW K (o9 C)))(c_with_steps:Cal P w K mg base k "with_steps" cQ):
   aH P w K mg base CX0 (k+1) f fd ["self","name","at","fresh"] (spW K (gi C)):=by
 refine wk F fO hb (by rintro _ _ _ ⟨_,_,_,_,_,_,_,_,_,_,rfl,_⟩; rfl) ?_;rintro _ _ _ ⟨m,ds,n,T,R,C',ss,ys,at',rfl,rfl,h1,h2,h3,h4,h5,rfl⟩ Rr cdv A outer s H E b;have nd:=fO.nd;refine aA 4 nd (av (rm (m:=m) (n:=n) (d:=aI T R C' ss) (by have:=b.room.units; omega) (cI 0 hc n1 rfl (LeW.res _ _)) (aa 1) (λ_ _=>rfl) h1) ae (aq (ai (i:=3) rfl))) ?_;have e1:Hy.cutD (ss.map stD) none (some (at':Int))=(ss.take at').map stD:=by rw[ig,Ik]
 have e2:Hy.cutD (ss.map stD) (some ((at':Int)+1)) none=(ss.drop (at'+1)).map stD:=by rw[show ((at':Int)+1)=((at'+1:Nat):Int) by omega,BU,JS]
 refine e7 (dR 0 b hc c_keep (wkW.ins ⟨by decide,by decide⟩) ⟨m,ds,n,aI T R C' (ss.take at'++ys++ss.drop (at'+1)),rfl,rfl,h4,h5,rfl⟩ rfl (ab (aa 1) (ab (x_call b c_with_steps (ab (rm (m:=m) (n:=n) (d:=aI T R C' ss) (by have:=b.room.units; omega) (cI 0 hc n1 rfl (LeW.res _ _)) (aa 1) (λ_ _=>rfl) h1) (ab (a7 (zd (a7 (zd (a7 (vP (aa 4) dH (cL (aa 2)))) (aa 3) ?_)) (a7 (vP (aa 4) (cL (aB (aa 2) ae bp)) dH)) ?_)) af)) ⟨T,R,C',ss,ss.take at'++ys++ss.drop (at'+1),?_,rfl⟩) af))) ?_
 . rw[e1,fw,fw]; simp; omega
 . rw[e1,e2,vp,fw,fw,fw]; simp; omega
 . rw[e1,e2,GN,GN]
 . exact aK rfl
theorem kX (hc:Cls K C)(n1:a8 K C "kept")(F:Fun K "weigh" qual (mth 54 10) f fd)(hb:∀x∈ah,mg x=none)(c_place:bA P w K mg base k C "look_place" (spV K λW a s=>kx C W a/\s=.d .non))(c_change:bA P w K mg base k C "change" (spW K (gi C)))(c_is_weight:Cal P w K mg base k "is_weight" dk):
   aH P w K mg base CX0 (k+1) f fd ["self","name","at","weight"] (spW K (pj C)):=by
 refine wk F gp hb (by rintro _ _ _ ⟨_,_,_,_,_,_,_,_,_,_,rfl,_⟩; rfl) ?_;rintro _ _ _ ⟨m,ds,n,T,R,C',ss,q,at',rfl,rfl,h1,h2,h3,h4,h5,h6,h7,rfl⟩ Rr cdv A outer s H E b;have nd:=gp.nd;have ea:atI (ss.map stD) (at':Int)=some (stD (ss.getD at' ("weigh",0,0))):=ai (by simp[h3]);refine dM (cH 0 b hc c_place (wkW.ins ⟨by decide,by decide⟩) ⟨⟨m,ds,n,T,R,C',ss,at',rfl,rfl,h1,h2,h3⟩,rfl⟩ rfl (LeW.res _ _) (ab (aa 1) (ab (aa 2) af))) ?_;refine bE (a5 (a6 (x_call b c_is_weight (ab (aa 3) af) ⟨q,rfl,h5,rfl⟩))) rfl ?_;refine aA 4 nd (av (av (rm (m:=m) (n:=n) (d:=aI T R C' ss) (by have:=b.room.units; omega) (cI 0 hc n1 rfl (LeW.res _ _)) (aa 1) (λ_ _=>rfl) h2) ae (aq (ai (i:=3) rfl))) (aa 2) (aV ea)) ?_;refine e7 (dR 0 b hc c_change (wkW.ins ⟨by decide,by decide⟩) ⟨m,ds,n,T,R,C',ss,[((ss.getD at' ("weigh",0,0)).1,(ss.getD at' ("weigh",0,0)).2.1,q)],at',rfl,rfl,h2,h4,ia 1,h6,h7,rfl⟩ rfl (ab (aa 1) (ab (aa 2) (ab (a7 (bY (ab (bz (ab (av (aa 4) ae (aq (ai (i:=0) rfl))) (ab (av (aa 4) ae (aq (ai (i:=1) rfl))) (ab (aa 3) af)))) af))) af)))) ?_;exact aK rfl
theorem iK (hc:Cls K C)(F:Fun K "take_out" qual (mth 54 12) f fd)(hb:∀x∈ah,mg x=none)(c_place:bA P w K mg base k C "look_place" (spV K λW a s=>kx C W a/\s=.d .non))(c_change:bA P w K mg base k C "change" (spW K (gi C))):
   aH P w K mg base CX0 (k+1) f fd ["self","name","at"] (spW K (yu C)):=by
 refine wk F iQ hb (by rintro _ _ _ ⟨_,_,_,_,_,_,_,_,_,rfl,_⟩; rfl) ?_;rintro _ _ _ ⟨m,ds,n,T,R,C',ss,at',rfl,rfl,h1,h2,h3,h4,h6,h7,rfl⟩ Rr cdv A outer s H E b;refine dM (cH 0 b hc c_place (wkW.ins ⟨by decide,by decide⟩) ⟨⟨m,ds,n,T,R,C',ss,at',rfl,rfl,h1,h2,h3⟩,rfl⟩ rfl (LeW.res _ _) (ab (aa 1) (ab (aa 2) af))) ?_;refine e7 (dR 0 b hc c_change (wkW.ins ⟨by decide,by decide⟩) ⟨m,ds,n,T,R,C',ss,[],at',rfl,rfl,h2,h4,by decide,h6,h7,rfl⟩ rfl (ab (aa 1) (ab (aa 2) (ab (a7 (bY af)) af)))) ?_;exact aK rfl
theorem oo (hc:Cls K C)(n1:a8 K C "kept")(F:Fun K "add" qual (mth 54 11) f fd)(hb:∀x∈ah,mg x=none)(y_MOST_STEPS:∃t,mg "MOST_STEPS" = some (.int 400 t))(c_old:bA P w K mg base k C "look_kept" (spV K λW a s=>mV C ba W a/\s=.d .non))(c_is_step:Cal P w K mg base k "is_step" gD)(c_change:bA P w K mg base k C "change" (spW K (gi C))):
   aH P w K mg base CX0 (k+1) f fd ["self","name","step"] (spW K (xS C)):=by
 refine wk F pN hb (by rintro _ _ _ ⟨_,_,_,_,_,_,_,_,_,rfl,_⟩; rfl) ?_;rintro _ _ _ ⟨m,ds,n,T,R,C',ss,st,rfl,rfl,h1,h2,h3,h4,h6,h7,rfl⟩ Rr cdv A outer s H E b;refine dM (cH 0 b hc c_old (wkW.ins ⟨by decide,by decide⟩) ⟨⟨m,ds,n,_,rfl,rfl,⟨n,rfl,h1,rfl⟩,h2⟩,rfl⟩ rfl (LeW.res _ _) (ab (aa 1) af)) ?_;refine bE (a5 (a6 (j4 (C':=true) (x_call b c_is_step (ab (aa 2) (ab (av (rm (m:=m) (n:=n) (d:=aI T R C' ss) (by have:=b.room.units; omega) (cI 0 hc n1 rfl (LeW.res _ _)) (aa 1) (λ_ _=>rfl) h2) ae (aq (ai (i:=0) rfl))) af)) ⟨T,st,rfl,h3,rfl⟩)))) rfl ?_;refine bE (aX (j4 (C':=true) (bq b (ab (av (rm (m:=m) (n:=n) (d:=aI T R C' ss) (by have:=b.room.units; omega) (cI 0 hc n1 rfl (LeW.res _ _)) (aa 1) (λ_ _=>rfl) h2) ae (aq (ai (i:=3) rfl))) af) (wM (n:=ss.length) (by rw[fw])))) (jq y_MOST_STEPS) gN) (decide_eq_false (by omega)) ?_;refine e7 (dR 0 b hc c_change (wkW.ins ⟨by decide,by decide⟩) ⟨m,ds,n,T,R,C',ss,[st],400,rfl,rfl,h2,by omega,ia 1,h6,h7,rfl⟩ rfl (ab (aa 1) (ab (jq y_MOST_STEPS) (ab (a7 (bY (ab (aa 2) af))) af)))) ?_;exact aK rfl
end
end K67
namespace Hy
open PySem PySem.Spec PyProof.Rows L2
open Ev (D Den ay ao aS aQ)
section
variable {X:Cx}{C:Bool}{τ:List Sl}{a b:Expr}{pos:Pos}{x y:D}
theorem Dq {op:CmpOp}{c:Bool}(ha:PE X a (dE X.K C τ (.d x)))(hb:PE X b (dE X.K C τ (.d y)))(ho:bW X (compareOp op) x y (.bl c))(hm:behindInMarks op b=false:=by first | exact tL _ | rfl):PT X (.Compare a [op] [b] pos) (dT X.K τ c):=by obtain⟨r,h1,h2⟩:=ho;refine ptW (vo h1 ha hb hm) λσ H Q ⟨A,H₀,B,S,k⟩=>two h2 _ _ _ (aF S λv H' e d=>?_);cases d;exact⟨_,rfl,k H' e⟩
theorem xR {j:Nat}{p':Pos}(h:PE X a (dE X.K C τ (.d .non))):PT X (.Compare a [.IsNot] [.Constant .none j p'] pos) (dT X.K τ false):=ptW (tU (AH h)) λσ H Q ⟨A,H₀,B,S,k⟩=>aF S λv H' e d=>by cases d;exact⟨_,rfl,k H' e⟩
end
def Cj (K:gV):Sp:=λvs H Q _=>∃a x0 x1 x2 x3 v,vs=[.ref a,v]/\SqT K H a [x0,x1,x2,x3]/\∀p,H p=none->Q (.ref p) (upd H p (.tup [x0,x1,x2,v]))
end Hy
namespace K67
open PySem PySem.Spec PyProof.Rows L2 Hy
open Ev (D Den ay aJ aE ao aS aQ)
noncomputable def cpN (T R C:Nat)(ss:List Stp):Nd:=.t [.d (.int T),.d (.int R),.d (.int C),.l ((ss.map stD).map .d)]
theorem Bv (T R C:Nat)(ss:List Stp):ndD (cpN T R C ss)=aI T R C ss:=by unfold cpN aI;simp only[ndD,mG,rD]
def lG (ds:List D)(r:Sl):Prop:=∃(T R C:Nat) (ss:List Stp),ds=[aI T R C ss]/\r=.n (cpN T R C ss)
theorem Bo {K:gV}{G H:Hp}:∀{vs:List V} {xs:List D},ay K G vs xs->aZ K G H vs [] (xs.map .d)
 | _,_,.nil=>.nil
 | _,_,.cons h r=>by have:=aZ.cons (H:=H) (.d h) (Bo r);exact this
section
variable {P:Program}{w:World}{K:gV}{mg:Str->Option Value}{base:Heap}{k:Nat}{f:Addr}{fd:FuncData}{qual:Str}
theorem l7 (F:Fun K "with_steps" qual (top 55) f fd)(hb:∀x∈ah,mg x=none):aH P w K mg base CX0 (k+1) f fd ["ladder","steps"] (Cj K):=by refine F.ok gX (λvs H Q E ⟨_,_,_,_,_,_,hvs,_⟩=>by rw[hvs]; rfl) λcdv A outer s H vs Q E hr ⟨a,x0,x1,x2,x3,v,hvs,hq,q⟩=>?_;subst hvs;refine⟨_,kq (k9 (yR (bw (l6 me (a4 (i:=0) rfl (Hh rfl)) jr (λ_ _=>rfl)) (bw (l6 me (a4 (i:=0) rfl (Hh rfl)) jr (λ_ _=>rfl)) (bw (l6 me (a4 (i:=0) rfl (Hh rfl)) jr (λ_ _=>rfl)) (bw (a4 (i:=1) rfl (Hh rfl)) c8)))))),?_⟩;exact⟨_,rfl,_,_,_,_,rfl,rfl,hq,(ai (i:=0) rfl),_,rfl,_,_,_,_,rfl,rfl,hq,(ai (i:=1) rfl),_,rfl,_,_,_,_,rfl,rfl,hq,(ai (i:=2) rfl),_,rfl,(show (4:Nat)<=sizeLine by decide),λp hp=>q p hp⟩
theorem zS (F:Fun K "own" qual (top 56) f fd)(hb:∀x∈ah,mg x=none)(c_ws:kG P w K mg base k "with_steps" (Cj K)):aH P w K mg base CX0 (k+1) f fd ["ladder"] (spD K lG):=by
 refine fnD F xK hb (by rintro _ _ ⟨_,_,_,_,rfl,_⟩; rfl) ?_;rintro _ _ ⟨T,R,C,ss,rfl,rfl⟩ cdv A outer s H E b;obtain⟨f',fd',ps',F',hm,hk,hbd⟩:=c_ws;refine aL (peW (ky F' b.room rfl hm hk hbd .nil jX (bw (a4 (i:=0) rfl (Hh rfl)) (bw (kR (C:=false) (τ:=[.d (aI T R C ss)]) b (ab (av (aa 0) ae (aq (ai (i:=3) rfl))) af) pP) c8)) (by decide) rfl rfl) λσ H Q ⟨A,H₀,B,S,kk⟩=>?_) rfl;obtain⟨_,u,h2,dn⟩:=S.sl 0 _ rfl;refine⟨u,slot_of h2,A,H₀,B,S,λv H1 cs e1 fr ok=>?_⟩;obtain⟨l,vs,rfl,ev,hl,dl⟩:=ok;cases ev;cases dn with
 | @tup a xs _ hs r=>
   cases r with
   | cons d0 r=>cases r with
     | cons d1 r=>cases r with
       | cons d2 r=>cases r with
         | cons d3 r=>
           cases r;cases d0; cases d1; cases d2;refine⟨a,_,_,_,_,_,rfl,aS e1 (aS aG hs),λp hp=>?_⟩;have pl:l≠p:=λz=>by rw[z,hp]at hl; cases hl
           have off:=fr l (ib.mpr rfl);refine kk _ _ [p,l] (e1.trans (ao hp _)) (λb hb=>?_) ⟨by simp[Hi pl],_,rfl,?_⟩
           . rcases xb.mp hb with z | z
             . subst z; exact⟨e1.free hp,_,au⟩
             . obtain rfl:=ib.mp z;exact⟨off.1,_,by rw[ar pl]; exact hl⟩
           . refine .t au ?_
             have sm:ak (hd H1 λb=>vw false A B b\/b∈[l]) (hd (upd H1 p (.tup [V.int ↑T,V.int ↑R,V.int ↑C,V.ref l])) λb=>vw false A B b\/b∈[p,l]):=λb o z=>by
               obtain⟨z1,z2⟩:=ax.mp z;have ne:b≠p:=λy=>by rw[y,hp]at z2; cases z2
               refine ax.mpr ⟨λy=>?_,by rw[ar ne]; exact z2⟩;rcases y with y | y
               . exact z1 (.inl y)
               . rcases xb.mp y with y | y
                 . exact ne y
                 . exact z1 (.inr y)
             exact .cons (.d .int) (.cons (.d .int) (.cons (.d .int) (.cons (.l (by rw[ar pl]; exact hl) (Bo (dl.mono sm))) .nil)))
end
end K67
namespace Hy
open PySem PySem.Spec PyProof.Rows L2
open Ev (D Den ay aJ aE ao aS aQ)
section
variable {X:Cx}{τ:List Sl}{x z:D}{e:Expr}{pos p:Pos}{xs ys:List D}{N:Po}{rest:List Stmt}
theorem ED (i:Nat){n:Str}{ap cp:Pos}(he:PE X e (dE X.K true τ (.o ys)))(hl:xs.length+ys.length<1000000)(hr:PSs X rest (dS X.K (τ.set i (.o (xs++ys))) N))(hi:τ[i]?=some (.o xs):=by rfl)(hN:X.N[i]?=some n:=by rfl)
   (hv:Vis X.env.scope n:=by first | exact Hh rfl | exact G0 (Hh rfl) | exact G0 (G0 rfl)) (hd:(n==("__debug__" : Str))=false:=by decide) (hcd:(n==("__classdict__" : Str))=false:=by decide)
   (hfew:((backTo cp (starEach [e] X.env)).all (λx=>!x.1)&&(backToKw cp (keywordEach [] X.env)).all (λx=>x.1.isSome)&&decide (([e]:List Expr).length+([]:List Keyword).length+(if ([]:List Keyword).isEmpty then 0 else 1)<30))=true:=by rfl)
   (hline:(ap.endLine==cp.line)=true:=by rfl) (hst:starEach [e] X.env=(false,eval e X.env)::starEach [] X.env:=by rfl) (hpl:(backTo cp (starEach [] X.env)).any (·.1)=false:=by rfl)
   (hs:swapsWith (.Call (.Attribute (.Name n p) "extend" ap) [e] [] cp) none pos.line X.env=pure false:=by rfl) (hbase:attributeBase (.Name n p) "extend" X.env (eval (.Name n p) X.env)=eval (.Name n p) X.env:=by rfl) :
   PSs X (.Expr (.Call (.Attribute (.Name n p) "extend" ap) [e] [] cp) pos::rest) (dS X.K τ N):=
 bh (M:=(·=τ.set i (.o (xs++ys)))) (psW (fF (vC Ih PySem.F.slot_list_extend PySem.F.type_list_extend wc (a4 hN hv hd hcd) (bw he c8 hst) hbase hfew hline hst hpl) hs) λD σ H ⟨A,H₀,B,S,Me⟩=>by
   obtain⟨l,vs,hb,e1,e2,d⟩:=S.sl i _ hi;refine⟨_,slot_of e1,.inl ⟨rfl,_,SqL.of e2⟩,A,H₀,B,S,λv H1 bs e3 fr ⟨l2,ws,eb,ev,h2,d2⟩=>?_⟩;cases ev;have lim:1000000<=sizeLine:=by decide
   refine⟨l,l2,vs,ws,rfl,rfl,e3 _ _ e2,h2,by rw[d.length,d2.length]; omega,?_⟩;exact Me.nx _ _ _ _ rfl ((S.mono e3).put hi hb ((d.mono (aw e3 λ_ z=>z)).append (d2.mono (aw (ak.refl _) λ_ z=>.inl z))))) λ_ e=>e▸hr
end
end Hy
namespace Hy
open PySem PySem.Spec PyProof.Rows L2
open Ev (D Den ay)
end Hy
namespace Ev
open PySem PySem.Spec PyProof.Rows L2
section
variable {K:Type}[DecidableEq K]{a:KD K}{hd:a.dep<=7}{X:Cx}{o e f:Expr}{pos:Pos}{tk tv:TE}
def Ej (a:KD K)(hd:a.dep<=7)(P:Program)(w:World)(F:gV)(tk tv:TE):TE:=λσ H Q=>∀p,H p=none->tk σ (upd H p (dNk a hd P w p [])) λy H1=>tv σ H1 λv H2=>∃b k,y=.ref b/\H2 p=some (dNk a hd P w p [])/\Den F H2 (.ref b) (a.toD k)/\∀u,RelV v u->Q (.ref p) (upd H2 p (dNk a hd P w p (storedH [] k b u)))
theorem uI (hu:X.A.units+16<cLine)(hk:PE X e tk)(hv:PE X f tv):PE X (.Dict [some e] [f] pos) (Ej a hd X.prog X.w X.K tk tv):=λpins s σ H Q I h=>by
 refine wpAny_Dict_any rfl rfl (by simp) (show 1<=15 by decide) (pairTrees_cons_walk ?_)
 have I0:=I.laid (a:=s.heap.objs.size) (o:=dNk a hd X.prog X.w s.heap.objs.size []) (t':=s.toks) (h':=s.heap.push { cls:=.type "dict",data:=.dict #[] }) (λ_ _ q=>ip _ q) (ia _)
   ⟨⟨beq_eq_false_iff_ne.mpr (Hi (GR I.big)),_,#[],0,Et _ rfl,⟨rfl,rfl,rfl⟩,rfl,rfl,JG⟩,⟨_,Et _ rfl⟩,λa1 a2 ⟨z0,o,es,ep,z1,z2⟩ hk=>⟨z0,o,es,ep,hk o z1,z2⟩⟩
 refine thn (hk _ _ σ _ _ I0 (h _ (I.hok.fresh (ia _)))) λkv s1 ⟨y,H1,I1,ry,q1⟩=>thn (hv _ s1 σ H1 _ I1 q1) λvv s2 ⟨v,H2,I2,rv,b,k,ey,hp,g,q2⟩=>pairTrees_nil_walk ?_;subst ey;obtain rfl:kv=GI b:=ry;have D:g8 a hd X.prog X.w X.K H2 s.heap.objs.size []:=⟨hp,λ_ z=>nomatch z⟩;obtain⟨hd',dd⟩:=za I2 D;unfold storeAll;rw[List.forIn_cons];refine wpAny_bind (wpAny_bind (wpAny_dictSet_heap (hsz:=G5 _) (show X.A.units+8<cLine by omega) (key_is I2 g) dd λh' dd' hs=>wpAny_pure ?_));dsimp only;rw[List.forIn_nil];refine wpAny_pure ?_;obtain⟨q,es,ep,hq,h2,h3,h4,_,h5⟩:=dd';refine⟨.ref s.heap.objs.size,_,eY (ob:=dNk a hd X.prog X.w s.heap.objs.size (storedH [] k b vv)) I2 (by rw[hp]; exact HL) hs ⟨q,hq⟩ ⟨⟨hd',q,es,ep,hq,h2,h3,h4,h5⟩,⟨q,hq⟩,λa1 a2 ⟨z0,o,es,ep,z1,z2⟩ hk=>⟨z0,o,es,ep,hk o z1,z2⟩⟩,rfl,q2 vv rv⟩
end
end Ev
namespace Hy
open PySem PySem.Spec PyProof.Rows L2
open Ev (D Den ay KD NEs dNk g8 Bx ao iP uI)
section
variable {K:Type}[DecidableEq K]{a:KD K}{hd:a.dep<=7}{X:Cx}{C:Bool}{τ:List Sl}{x y:D}{b e f o ix:Expr}{pos p q:Pos}{k:Nat}{N:Po}{rest:List Stmt}{m:List (K×D)}{key:K}
noncomputable def bxK (a:KD K)(hd:a.dep<=7)(P:Program)(w:World)(m:List (K×D)):Bx where
 p:=λF H d=>∃xs,H d=some (dNk a hd P w d xs)/\EnK a F H xs m
 mono:=λe ⟨xs,h1,h2⟩=>⟨xs,e _ _ h1,h2.mono e⟩
 isd:=λ{_ _ d} ⟨xs,h1,_⟩=>⟨_,h1,λP w H' h z=>let ⟨_,o,_,_,z1,z2,_⟩:=z.1; ⟨o,z1,z2.1⟩⟩
noncomputable abbrev bxD (a:KD K)(hd:a.dep<=7)(P:Program)(w:World)(m:List (K×D)):D:=.box (bxK a hd P w m)
theorem Sta.fzX {F:gV}{P:Program}{w:World}{A:Addr->Prop}{H₀ H:Hp}{B:Nat->List Addr}{σ:L2.St}{i:Nat}(S:Sta F A H₀ τ B σ H)(hi:τ[i]?=some (.x (exK a hd P w m))):Sta F A H₀ (τ.set i (.d (bxD a hd P w m))) (upB B i []) σ H:=S.less (λ_ z=>nomatch z) λG g hv=>by obtain⟨d,xs,h1,h2,h3,h4⟩:=S.dct hi;exact⟨rfl,_,h1,.box ⟨xs,hv d _ (by rw[h2]; exact ib.mpr rfl) (λz=>nomatch z) h3,h4.mono g⟩⟩
theorem Br (i:Nat)(h:PSs X rest (dS X.K (τ.set i (.d (bxD a hd X.prog X.w m))) N))(hi:τ[i]?=some (.x (exK a hd X.prog X.w m)):=by rfl):PSs X rest (dS X.K τ N):=tE h λD σ H ⟨A,H₀,B,S,Me⟩=>⟨A,H₀,_,S.fzX hi,Me⟩
theorem BG (h:PE X e (dE X.K C τ (.x (exK a hd X.prog X.w m)))):PE X e (dE X.K C τ (.d (bxD a hd X.prog X.w m))):=peW h λσ H Q q=>by
 obtain⟨A,H₀,B,S,k⟩:=ck q;refine⟨A,H₀,B,S,λv H' bs e hf ⟨d,o,h1,h2,h3,xs,h4,h5⟩=>?_⟩;cases h2;subst h1 h4;have vd:=S.vd (C:=C);have un:¬vw C A B d:=λz=>by obtain⟨_,q⟩:=vd d z;rw[(hf d (ib.mpr rfl)).1]at q;cases q
 exact k _ H' e (.box ⟨xs,ax.mpr ⟨un,h3⟩,h5.mono (aw (ak.refl _) λ_ z=>.inl z)⟩)
theorem tu (hu:X.A.units+16<cLine)(hb:PE X b (dE X.K C τ (.d (bxD a hd X.prog X.w m))))(hk:PE X ix (dE X.K C τ (.d (a.toD key))))(hx:getM m key=some x)(hr:∀H v,Den X.K H v (a.toD key)->∃b,v=.ref b)(hs:k6 ix):PE X (.Subscript b ix pos) (dE X.K C τ (.d x)):=
 peW (iP (a:=a) (hd:=hd) hu hb hk hs) λσ H Q q=>by
   obtain⟨A,H₀,B,S,kk⟩:=ck q;refine aF S λv H1 e1 d1=>aF (S.mono e1) λy H2 e2 dy=>?_;obtain⟨b',rfl⟩:=hr _ _ dy;cases d1.mono (aw e2 λ_ z=>z) with
   | box h=>obtain⟨xs,g3,g4⟩:=h;have:=g4.at key;rw[hx]at this;obtain⟨pp,v,h1,h2,h3⟩:=this;exact⟨_,b',key,xs,pp,v,rfl,rfl,⟨aG _ _ g3,λz hz=>(g4.key z hz).mono aG⟩,dy.mono aG,h1,h2,kk v H2 (e1.trans e2) h3⟩
theorem si (hu:X.A.units+16<cLine)(hk:PE X e (dE X.K C τ (.d (a.toD key))))(hv:PE X f (dE X.K C τ (.d x)))(hr:∀H v,Den X.K H v (a.toD key)->∃b,v=.ref b):PE X (.Dict [some e] [f] pos) (dE X.K C τ (.x (exK a hd X.prog X.w [(key,x)]))):=
 peW (uI (a:=a) (hd:=hd) hu hk hv) λσ H Q ⟨A,H₀,B,S,kk⟩=>λp hp=>by
   have e0:=ao hp (dNk a hd X.prog X.w p []);have f0:Fr H (upd H p (dNk a hd X.prog X.w p [])) [p]:=λb hb=>by rw[ib.mp hb]; exact⟨hp,_,au⟩
   have S1:=S.hide e0 f0;refine aF S1 λy H2 e2 dy=>aF (S1.mono e2) λv H3 e3 dv=>?_;obtain⟨b',rfl⟩:=hr _ _ dy;have e03:=e2.trans e3;have hp3:=e03 _ _ (au (H:=H) (a:=p) (o:=dNk a hd X.prog X.w p []));have dy3:=dy.mono (aw e3 λ_ z=>z);refine⟨b',key,rfl,hp3,dy3.mono aG,λu hu=>?_⟩;have sm:ak (Hy.hd H3 (vw C (λb=>A b\/b∈[p]) B)) (Hy.hd (upd H3 p (dNk a hd X.prog X.w p (storedH [] key b' u))) λb=>vw C A B b\/b∈[p]):=λb o z=>by obtain⟨z1,z2⟩:=ax.mp z;have nh:¬(vw C A B b\/b∈[p]):=λy=>z1 (Ae y);exact ax.mpr ⟨nh,by rw[ar (λq=>nh (.inr (ib.mpr q)))]; exact z2⟩
   have hs:ak H (upd H3 p (dNk a hd X.prog X.w p (storedH [] key b' u))):=λb o z=>by
     have ne:b≠p:=λq=>by rw[q,hp]at z; cases z
     rw[ar ne];exact e03 _ _ (e0 _ _ z)
   exact kk (.ref p) _ [p] hs (λb hb=>by rw[ib.mp hb]; exact⟨hp,_,au⟩) ⟨p,_,rfl,rfl,au,_,rfl,(EnK.nil.put dy3 hu dv).mono sm⟩
end
end Hy
namespace Ev
open PySem PySem.Spec PyProof.Rows L2
section
variable {prog:Program}{w:World}{A:Around}{E:Value->Shared->Prop}{s:Shared}{d it:Addr}{o:Obj}{es:Array DictEntry}{ep i:Nat}
theorem uE {Q:Value->Shared->Prop}(hd:(d==sysModules)=false)(ho:s.heap.get? d=some o)(hx:o.ExactDict)(hdat:o.data=.dict es ep)
   (hQ:Q (.ref s.heap.objs.size) { s with heap:=s.heap.push { cls:=.type "dict_keyiterator",data:=.fields #[.ref d,.int 0 0,.int es.size 0,.int ep 0] } }):wpAny (model prog w) A (pyIter (.ref d)) Q E s:=by
 have hT:s.TypeIs (.ref d) "dict":=⟨o,ho,hx.1⟩;refine wpAny_pyIter_slot hT Ln (wpAny_call_entry Ln hT PySem.F.entry_dict_iter ?_ (PySem.F.args_dict_iter_1 _));unfold Builtin.«dict.__iter__»;refine wpAny_bind ?_;unfold Builtin.Dict.dictSlotNone;refine wpAny_bind (wpAny_notOrdered_dict hT (wpAny_pure ?_));show wpAny _ _ (Builtin.Dict.showsAll d >>= _) _ _ s;unfold Builtin.Dict.showsAll;rw[if_neg (by rw[hd]; exact xa)];refine wpAny_bind (wpAny_pure (wpAny_bind (wpAny_dictEntries ho hdat (wpAny_bind (wpAny_dictEpoch ho hdat ?_)))));refine wpAny_bind (wpAny_newObj_type (wpAny_pure ⟨_,rfl,"dict_keyiterator",_,⟨_,Et _ rfl,rfl⟩,PySem.F.slot_dict_keyiterator_next.lookup,?_⟩));simpa[rawInt]using hQ
theorem xq:Builtin.Dict_items.ownsTuple "dict_keyiterator" = false:=by decide
theorem u0 {Q:Option Value->Shared->Prop}(hit:s.heap.IsKeyIter it d i es.size ep)(ho:s.heap.get? d=some o)(hdat:o.data=.dict es ep)(hlt:i<es.size)
   (hQ:∀h',h'.IsKeyIter it d (i+1) es.size ep->Jh it s.heap h'->Q (some es[i].key) { s with heap:=h' }):wpAny (model prog w) A (pyNext (.ref it)) Q E s:=by
 obtain⟨oi,hoi,hc,hdi⟩:=id hit;unfold pyNext;refine wpAny_bind (wpAny_attempt (wpAny_callSpecial?_slot (name:=KZ "__next__") hit.typeIs HS (wpAny_call_entry HS hit.typeIs Kg ?_ (J8 _))));refine wpAny_bind (wpAny_pure (wpAny_bind (wpAny_bind ?_)))
 first | refine wpAny_bind (wpAny_typeNameOfWhole_keyiter hit.typeIs (wpAny_pure ?_)) | refine wpAny_bind (wpAny_typeNameOf_keyiter hit.typeIs (wpAny_pure ?_))
 refine wpAny_bind (wpAny_fieldsOf hoi hdi ?_);simp only[xq,HZ,if_false];show wpAny _ _ (if (GI d==Hz)=true then _ else _) _ _ s;rw[if_neg (show ¬((GI d==Hz)=true) from xa)];refine wpAny_bind (wpAny_pure (wpAny_bind (wpAny_dictEntries ho hdat ?_)));rw[if_neg (by simp)];refine wpAny_bind (wpAny_pure (wpAny_bind (wpAny_dictEpoch ho hdat ?_)));rw[if_neg (by simp)];refine wpAny_pure ?_;simp only[show ¬((i:Int)<0) from by omega,if_false,GC,IE hlt];refine wpAny_bind ?_
 first | refine wpAny_bind (wpAny_typeNameOfWhole_keyiter hit.typeIs (wpAny_pure ?_)) | refine wpAny_bind (wpAny_typeNameOf_keyiter hit.typeIs (wpAny_pure ?_))
 refine wpAny_bind (wpAny_isOneOf_keyiter hit.typeIs ?_);show wpAny _ _ (setField (.ref it) 1 (rawInt ((i:Int)+1)) >>= _) _ _ s;refine wpAny_bind (wpAny_setField hoi hdi (by simp) ?_);have hit':(s.heap.update it (KI (·.setIfInBounds 1 (rawInt ((i:Int)+1))))).IsKeyIter it d (i+1) es.size ep:=⟨_,J7 _ hoi (Obj.isFreed_of_fields (Obj.data_mapFields hdi _)),(Obj.cls_mapFields ..).trans hc,by rw[Obj.data_mapFields hdi]; simp[rawInt]⟩;refine wpAny_bind (wpAny_holding ?_);refine wpAny_bind (wpAny_isOneOf_keyiter (s:={ s with heap:=s.heap.update it (KI (·.setIfInBounds 1 (rawInt ((i:Int)+1)))) }) hit'.typeIs ?_);show wpAny _ _ (pure es[i].key) _ _ _;exact wpAny_pure (wpAny_pure ⟨_,rfl,wpAny_pure (hQ _ hit' (Lb ..))⟩)
theorem yg {Q:Option Value->Shared->Prop}(hh:A.handled=none)(hit:s.heap.IsKeyIter it d i es.size ep)(ho:s.heap.get? d=some o)(hdat:o.data=.dict es ep)(hge:es.size<=i)
   (hQ:∀h',Heap.ExtBut it s.heap h'->Q none { s with heap:=h' }):wpAny (model prog w) A (pyNext (.ref it)) Q E s:=by
 obtain⟨oi,hoi,hc,hdi⟩:=id hit;unfold pyNext;refine wpAny_bind (wpAny_attempt (wpAny_callSpecial?_slot (name:=KZ "__next__") hit.typeIs HS (wpAny_call_entry HS hit.typeIs Kg ?_ (J8 _))));refine wpAny_bind (wpAny_pure (wpAny_bind (wpAny_bind ?_)))
 first | refine wpAny_bind (wpAny_typeNameOfWhole_keyiter hit.typeIs (wpAny_pure ?_)) | refine wpAny_bind (wpAny_typeNameOf_keyiter hit.typeIs (wpAny_pure ?_))
 refine wpAny_bind (wpAny_fieldsOf hoi hdi ?_);simp only[xq,HZ,if_false];show wpAny _ _ (if (GI d==Hz)=true then _ else _) _ _ s;rw[if_neg (show ¬((GI d==Hz)=true) from xa)];refine wpAny_bind (wpAny_pure (wpAny_bind (wpAny_dictEntries ho hdat ?_)));rw[if_neg (by simp)];refine wpAny_bind (wpAny_pure (wpAny_bind (wpAny_dictEpoch ho hdat ?_)));rw[if_neg (by simp)];refine wpAny_pure ?_;simp only[show ¬((i:Int)<0) from by omega,if_false,GC,Array.getElem?_eq_none hge];refine wpAny_bind ?_
 first | refine wpAny_bind (wpAny_typeNameOfWhole_keyiter hit.typeIs (wpAny_pure ?_)) | refine wpAny_bind (wpAny_typeNameOf_keyiter hit.typeIs (wpAny_pure ?_))
 show wpAny _ _ (setField (.ref it) 0 .none >>= _) _ _ s;refine wpAny_bind (wpAny_setField hoi hdi (by simp) ?_);show wpAny _ _ (newExc (.type "StopIteration") [] >>= _) _ _ _;refine wpAny_bind ?_;simp only[newExc,newTuple];refine wpAny_bind (wpAny_newObj_type ?_ (by size_fits));refine wpAny_bind (m:=firstArgMember _ _) (wpAny_of_eq (a:=Hz) (by first | rfl | (simp only[firstArgMember]; rfl)) ?_);refine wpAny_newObj_type ?_ (by size_fits);simp only[raiseNew];refine wpAny_bind (wpAny_handled ?_);rw[show A.in1.handled=none from hh];refine wpAny_bind (wpAny_pure (wpAny_throw ?_));refine wpAny_bind (wpAny_isInstance (T:="StopIteration") (b:=true) ⟨_,Et _ rfl,rfl⟩ isSubtype_stop ?_);exact wpAny_pure (hQ _ (((Lb ..).extBut.push _).push _))
end
section
variable {K:Type}[DecidableEq K]{a:KD K}{hd:a.dep<=7}{X:Cx}{pins:List (Addr×Obj)}{σ:L2.St}{H:Hp}{s:Shared}{d:Addr}{xs:NEs K}{ob:Obj}
theorem yx (I:Inv X pins σ H s)(h:H d=some (.frz ob (dNk a hd X.prog X.w d xs))):(d==sysModules)=false/\∃es ep,s.heap.get? d=some ob/\ob.ExactDict/\ob.data=.dict es ep/\es.toList=xs.map (entryOfKey (kd a hd X.prog X.w))/\(xs.map (·.1)).Nodup:=by obtain⟨e,⟨h0,o,es,ep,h1,h2⟩,_⟩:=(show bj X.prog X.w H s.heap d (.frz ob (dNk a hd X.prog X.w d xs)) from I.hok d _ h);rw[e]at h1;cases h1;exact⟨h0,es,ep,e,h2⟩
noncomputable def Itw (a:KD K)(hd:a.dep<=7)(P:Program)(w:World)(d:Addr)(ob:Obj)(xs:NEs K):L2.It:=⟨λi H=>i<xs.length/\H d=some (.frz ob (dNk a hd P w d xs)),λi H x H'=>H'=H/\∃p,xs[i]?=some p/\x=.ref p.2.1,λi H=>xs.length<=i/\H d=some (.frz ob (dNk a hd P w d xs))⟩
theorem Bc {P:Program}{w:World}{F:gV}{tg:Expr}(it:Addr)(es:Array DictEntry)(ep:Nat)(hdat:ob.data=.dict es ep):
   Turn P w F false tg (Itw a hd P w d ob xs) [it] it (λi h=>i<=xs.length/\h.IsKeyIter it d i xs.length ep) where
 mem:=by simp
 obj:=λi h st b hb=>by
   have e:b=it:=by simpa using hb
   subst e;obtain⟨o,e,c,d⟩:=st.2;exact⟨o,e,λv z=>by rw[d]at z; cases z⟩
 keep:=λi h h' st k=>⟨st.1,st.2.at λo e=>k it (by simp) o e⟩
 item:=by
   intro X hP hw hK hc i pins s σ H E I hf st hg;subst hP hw hK;obtain⟨hi,ha⟩:=hg;obtain⟨f0,f1,f2,f3,f4,f5⟩:=hf it (by simp);obtain⟨_,es',ep',g1,_,g3,g4,_⟩:=yx I ha;rw[hdat]at g3;injection g3 with z1 z2;subst z1 z2;have hl:es.size=xs.length:=by rw[<- G8,g4,fw]
   have st2:=st.2;rw[<- hl]at st2;have hie:i<es.size:=by omega
   have hk:es[i].key=.ref (xs[i]).2.1:=by
     have e:es.toList[i]?=some (entryOfKey (kd a hd X.prog X.w) xs[i]):=by rw[g4,GL,ph hi]; rfl
     rw[Jg,IE hie]at e;rw[GS e];rfl
   refine u0 st2 g1 hdat hie λh' st' sb=>?_;have I1:Inv X pins σ H { s with heap:=h' }:=I.turned (t':=s.toks) (λb o hb e=>(sb.2 b hb).trans e) f0 f1 f3 f4 f5;obtain⟨o',e,c,dd⟩:=id st';rw[hk];refine⟨_,rfl,iH (s:={ s with heap:=h' }) e c dd (by decide) ⟨.ref (xs[i]).2.1,H,I1,rfl,⟨rfl,_,ph hi,rfl⟩,⟨hi,by rw[<- hl]; exact st'⟩,λb hb=>(hf b hb).1⟩⟩
 done:=by
   intro X hP hw hK hc i pins s σ H E I hf st hg;subst hP hw hK;obtain⟨hi,ha⟩:=hg;obtain⟨f0,f1,f2,f3,f4,f5⟩:=hf it (by simp);obtain⟨_,es',ep',g1,_,g3,g4,_⟩:=yx I ha;rw[hdat]at g3;injection g3 with z1 z2;subst z1 z2;have hl:es.size=xs.length:=by rw[<- G8,g4,fw]
   have st2:=st.2;rw[<- hl]at st2;exact yg (I.ok.hd hc.calm) st2 g1 hdat (by omega) λh' eb=>⟨rfl,I.turned (t':=s.toks) (λb o hb e=>eb b o hb e) f0 f1 f3 f4 f5⟩
 self:=λ_ _ _ _ _ st h=>wpAny_pyIter_keyiter st.2 h
end
section
variable {K:Type}[DecidableEq K]{a:KD K}{hd:a.dep<=7}{X:Cx}{tg l o i:Expr}{tl td ty:TE}{pos:Pos}
def D1 (a:KD K)(hd:a.dep<=7)(P:Program)(w:World)(tl:TE):TI:=λσ H R=>tl σ H λx H1=>∃d ob xs,x=.ref d/\H1 d=some (.frz ob (dNk a hd P w d xs))/\R (Itw a hd P w d ob xs) H1
theorem qH (hc:X.calm=true)(hl:PE X l tl):PI X tg l (D1 a hd X.prog X.w tl):=by
 intro pins s σ H R I h;refine thn (hl pins s σ H _ I h) λu s1 ⟨x,H1,I1,r1,d,ob,xs,ex,ha,q⟩=>?_;subst ex;cases r1;obtain⟨h0,es,ep,g1,g2,g3,g4,_⟩:=yx I1 ha;have hl:es.size=xs.length:=by rw[<- G8,g4,fw]
 refine uE h0 g1 g2 g3 ?_;refine⟨false,s1.heap.objs.size,[s1.heap.objs.size],_,_,H1,rfl,I1.kept (t':=s1.toks) λb o e=>ip _ e,.inl hc,Bc (xs:=xs) _ es ep g3,⟨G5 _,?_⟩,λb hb=>?_,q⟩
 . rw[<- hl];exact⟨_,Et _ rfl,rfl,rfl⟩
 . have e:b=s1.heap.objs.size:=by simpa using hb
   subst e;exact I1.jv (ia _) (I1.hok.fresh (ia _))
def EM (a:KD K)(hd:a.dep<=7)(P:Program)(w:World)(F:gV)(td ty:TE):TE:=λσ H Q=>td σ H λx H1=>ty σ H1 λy H2=>∃d ob b k xs p v,x=.ref d/\y=.ref b/\H2 d=some (.frz ob (dNk a hd P w d xs))/\(∀x∈xs,Den F H2 (.ref x.2.1) (a.toD x.1))/\Den F H2 (.ref b) (a.toD k)/\atKey xs k=some p/\RelV v p.2/\Q v H2
theorem u4 (hu:X.A.units+16<cLine)(ho:PE X o td)(hi:PE X i ty)(hs:k6 i):PE X (.Subscript o i pos) (EM a hd X.prog X.w X.K td ty):=by intro pins s σ H Q I h;refine oM PySem.F.slot_dict_getitem.lookup hs (thn (ho pins s σ H _ I h) λu s1 ⟨x,H1,I1,rx,q1⟩=>thn (hi pins s1 σ H1 _ I1 q1) λiv s2 ⟨y,H2,I2,ry,d,ob,b,k,xs,p,v,ex,ey,ha,hk,g,hp,rv,q2⟩=>?_);subst ex ey;obtain rfl:u=GI d:=rx;obtain rfl:iv=GI b:=ry;obtain⟨_,es,ep,g1,g2,g3,g4,g5⟩:=yx I2 ha;have dd:s2.heap.DictOfH (kd a hd X.prog X.w) d xs:=⟨ob,es,ep,g1,g2,g3,g4,λx hx=>key_is I2 (hk x hx),g5⟩;exact⟨dd.typeIs,wpAny_getItem_heap (show X.A.units+1+8<cLine by omega) (key_is I2 g) dd hp ⟨v,H2,I2.tok _,rv,q2⟩⟩
end
end Ev
namespace Hy
open PySem PySem.Spec PyProof.Rows L2
open Ev (D Den ay KD NEs dNk g8 Bx ao yx Itw qH u4)
section
variable {K:Type}[DecidableEq K]{a:KD K}{hd:a.dep<=7}{X:Cx}{C:Bool}{τ:List Sl}{x:D}{b e o ix tg:Expr}{pos p q:Pos}{k:Nat}{N:Po}{rest:List Stmt}{m:List (K×D)}{key:K}
noncomputable def bxW (a:KD K)(hd:a.dep<=7)(P:Program)(w:World)(m:List (K×D)):Bx where
 p:=λF H d=>∃ob xs,H d=some (.frz ob (dNk a hd P w d xs))/\EnK a F H xs m
 mono:=λe ⟨ob,xs,h1,h2⟩=>⟨ob,xs,e _ _ h1,h2.mono e⟩
 isd:=λ{_ _ d} ⟨ob,xs,h1,_⟩=>⟨_,h1,λP w H' h z=>let ⟨_,o,_,_,z1,z2,_⟩:=z.2.1; ⟨o,z1,z2.1⟩⟩
noncomputable def exW (a:KD K)(hd:a.dep<=7)(P:Program)(w:World)(ob:Obj)(m:List (K×D)):Ex where
 p:=λF G o p=>∃xs,o=.frz ob (dNk a hd P w p xs)/\EnK a F G xs m
 mono:=λe ⟨xs,h1,h2⟩=>⟨xs,h1,h2.mono e⟩
 ext:=λ⟨xs,h1,_⟩=>.inr (.inl ⟨_,_,h1⟩)
theorem Sta.fzW {F:gV}{P:Program}{w:World}{A:Addr->Prop}{H₀ H:Hp}{B:Nat->List Addr}{σ:L2.St}{i:Nat}{ob:Obj}(S:Sta F A H₀ τ B σ H)(hi:τ[i]?=some (.x (exW a hd P w ob m))):Sta F A H₀ (τ.set i (.d (.box (bxW a hd P w m)))) (upB B i []) σ H:=S.less (λ_ z=>nomatch z) λG g hv=>by obtain⟨d,o,h1,h2,h3,xs,h4,h5⟩:=S.sl i _ hi;subst h4;exact⟨rfl,_,h2,.box ⟨ob,xs,hv d _ (by rw[h1]; exact ib.mpr rfl) (λz=>nomatch z) h3,h5.mono g⟩⟩
theorem Bs (i:Nat)(h:PSs X rest (dS X.K (τ.set i (.d (.box (bxW a hd X.prog X.w m)))) N))(hi:τ[i]?=some (.x (exK a hd X.prog X.w m)):=by rfl):PSs X rest (dS X.K τ N):=by intro pins s σ H D I ⟨A,H₀,B,S,Me⟩;obtain⟨d,xs,h1,h2,h3,h4⟩:=S.dct hi;obtain⟨⟨z0,o,es,ep,z1,z2⟩,z3,z4⟩:=(show bj X.prog X.w H s.heap d (dNk a hd X.prog X.w d xs) from I.hok d _ h3);have I2:Inv X pins σ (upd H d (.frz o (dNk a hd X.prog X.w d xs))) s:=eY (t':=s.toks) (h':=s.heap) I (by rw[h3]; exact HL) (.refl _ _) ⟨o,z1⟩ ⟨z1,⟨z0,o,es,ep,z1,z2⟩,z3,z4⟩;have hl:=(GD.mp hi).1;have S2:=S.Aj (E':=exW a hd X.prog X.w o m) hi h2 ⟨xs,rfl,h4⟩;have S3:=S2.fzW (ob:=o) (m:=m) (G1 hl);rw[List.set_set]at S3;exact h pins s σ _ D I2 ⟨A,H₀,_,S3,Me⟩
theorem zy (hu:X.A.units+16<cLine)(hb:PE X b (dE X.K C τ (.d (.box (bxW a hd X.prog X.w m)))))(hk:PE X ix (dE X.K C τ (.d (a.toD key))))(hx:getM m key=some x)(hr:∀H v,Den X.K H v (a.toD key)->∃b,v=.ref b)(hs:k6 ix):PE X (.Subscript b ix pos) (dE X.K C τ (.d x)):=
 peW (u4 (a:=a) (hd:=hd) hu hb hk hs) λσ H Q q=>by
   obtain⟨A,H₀,B,S,kk⟩:=ck q;refine aF S λv H1 e1 d1=>aF (S.mono e1) λy H2 e2 dy=>?_;obtain⟨b',rfl⟩:=hr _ _ dy;cases d1.mono (aw e2 λ_ z=>z) with
   | box h=>obtain⟨ob,xs,g3,g4⟩:=h;have:=g4.at key;rw[hx]at this;obtain⟨pp,v,h1,h2,h3⟩:=this;exact⟨_,ob,b',key,xs,pp,v,rfl,rfl,aG _ _ g3,λz hz=>(g4.key z hz).mono aG,dy.mono aG,h1,h2,kk v H2 (e1.trans e2) h3⟩
theorem EnK.xf {F:gV}{G:Hp}:∀{xs:NEs K} {m:List (K×D)},EnK a F G xs m->∀i (h:i<m.length),∃p,xs[i]?=some p/\p.1=(m[i]).1
 | _,_,.nil,i,h=>absurd h (by simp)
 | _,_,.cons ..,0,_=>⟨_,rfl,rfl⟩
 | _,_,.cons _ _ _ r,i+1,h=>by obtain⟨p,h1,h2⟩:=EnK.xf r i (by simpa using h);exact⟨p,h1,h2⟩
theorem vh (h:PE X e (dE X.K true τ (.d (.box (bxW a hd X.prog X.w m)))))(hc:X.calm=true:=by first | rfl | assumption):PI X tg e (dI X.K τ (m.map λp=>a.toD p.1)):=piW (qH (a:=a) (hd:=hd) hc h) λσ H R ⟨A,H₀,B,S,k⟩=>aF S λv H1 e1 d1=>by
 cases d1 with
 | box h=>
   obtain⟨ob,xs,g,en⟩:=h;have ln:=en.length;refine⟨_,ob,xs,rfl,aG _ _ g,k _ H1 e1 λH2 sg=>⟨λi hi=>⟨by rw[ln]; simpa using hi,sg _ _ g⟩,λi hi=>⟨⟨by rw[ln]; simpa using hi,sg _ _ g⟩,λx H' ⟨eH,p,hp,ex⟩=>?_⟩⟩⟩;subst eH ex;refine⟨ak.refl _,λM hM sM=>?_⟩;have hi':i<m.length:=by simpa using hi
   obtain⟨p',hp',ek⟩:=en.xf i hi';rw[hp]at hp';cases hp';rw[Il,<- ek];exact(en.key p (He hp)).mono sM
end
end Hy
namespace K67
open PySem PySem.Spec PyProof.Rows L2 Hy
open Ev (D Den ay aJ aE)
noncomputable def aP (f:Nat->Rat):Nat->Rat
 | 0=>0
 | n+1=>aP f n+f n
theorem aO {f g:Nat->Rat}:∀{n:Nat},(∀k<n,f k=g k)->aP f n=aP g n
 | 0,_=>rfl
 | n+1,h=>by rw[aP,aP,aO λk hk=>h k (by omega),h n (by omega)]
theorem b8 (c:Rat)(f:Nat->Rat):∀n:Nat,c*aP f n=aP (λk=>c*f k) n
 | 0=>Jl c
 | n+1=>by rw[aP,aP,Rat.mul_add,b8 c f n]
theorem iG (f g:Nat->Rat):∀n:Nat,aP (λk=>f k+g k) n=aP f n+aP g n
 | 0=>(HM 0).symm
 | n+1=>by rw[aP,aP,aP,iG f g n]; grind
theorem ju:∀n:Nat,aP (λ_=>0) n=0
 | 0=>rfl
 | n+1=>by rw[aP,ju n,HM]
theorem jH (f:Nat->Nat->Rat)(m:Nat):∀n:Nat,aP (λk=>aP (λl=>f k l) m) n=aP (λl=>aP (λk=>f k l) n) m
 | 0=>by simp only[aP]; exact(ju m).symm
 | n+1=>by simp only[aP]; rw[jH f m n,<- iG]
noncomputable def dq (i j:Nat):Rat:=if i=j then 1 else 0
theorem qW (A:Nat->Rat)(j:Nat):∀n:Nat,n<=j->aP (λk=>A k*dq k j) n=0
 | 0,_=>rfl
 | n+1,h=>by rw[aP,qW A j n (by omega),dq,if_neg (by omega),Jl,HM]
theorem gG (A:Nat->Rat)(j:Nat):∀n:Nat,j<n->aP (λk=>A k*dq k j) n=A j
 | n+1,h=>by
   rw[aP];by_cases e:j=n
   . subst e;rw[qW A j j (ia _),dq,if_pos rfl,Lh,Rat.zero_add]
   . rw[gG A j n (by omega),dq,if_neg (by omega),Jl,HM]
noncomputable def skp (i r:Nat):Nat:=if r<i then r else r+1
noncomputable def minor (M:Nat->Nat->Rat)(i r c:Nat):Rat:=M (skp i r) (c+1)
noncomputable def sgn (i:Nat):Rat:=if i%2=0 then 1 else -1
theorem fY (i:Nat):sgn (i+1)=-sgn i:=by
 unfold sgn;by_cases h:i%2=0
 . rw[if_pos h,if_neg (by omega)]
 . rw[if_neg h,if_pos (by omega)];rfl
theorem DU (i:Nat):sgn i*sgn i=1:=by unfold sgn;split <;> grind
noncomputable def det:Nat->(Nat->Nat->Rat)->Rat
 | 0,_=>1
 | n+1,M=>aP (λi=>sgn i*M i 0*det n (minor M i)) (n+1)
theorem sY {i r n:Nat}(h:r<n):skp i r<n+1:=by unfold skp; split <;> omega
theorem DN (i r:Nat):skp i r≠i:=by unfold skp; split <;> omega
theorem cB:∀{n:Nat} {M M':Nat->Nat->Rat},(∀i<n,∀j<n,M i j=M' i j)->det n M=det n M'
 | 0,_,_,_=>rfl
 | n+1,M,M',h=>by unfold det;refine aO λi hi=>?_;rw[h i hi 0 (by omega),cB (M:=minor M i) (M':=minor M' i) λr hr c hc=>h _ (sY hr) _ (by omega)]
noncomputable def aD (M:Nat->Nat->Rat)(p:Nat)(v:Nat->Rat)(r c:Nat):Rat:=if r=p then v c else M r c
noncomputable def dJ (M:Nat->Nat->Rat)(q:Nat)(v:Nat->Rat)(r c:Nat):Rat:=if c=q then v r else M r c
noncomputable def un (i p:Nat):Nat:=if p<i then p else p-1
theorem hZ (M:Nat->Nat->Rat)(p:Nat)(v:Nat->Rat):minor (aD M p v) p=minor M p:=by funext r c;unfold minor aD;rw[if_neg (DN p r)]
theorem gj (M:Nat->Nat->Rat){i p:Nat}(h:i≠p)(v:Nat->Rat):minor (aD M p v) i=aD (minor M i) (un i p) λc=>v (c+1):=by
 funext r c;unfold minor aD;have:skp i r=p↔r=un i p:=by unfold skp un; split <;> split <;> omega
 by_cases q:skp i r=p
 . rw[if_pos q,if_pos (this.mp q)]
 . rw[if_neg q,if_neg λz=>q (this.mpr z)]
theorem ux:∀{n:Nat} (M:Nat->Nat->Rat) {p:Nat},p<n->∀(a b:Rat) (x y:Nat->Rat),det n (aD M p λc=>a*x c+b*y c)=a*det n (aD M p x)+b*det n (aD M p y)
 | 0,_,_,h,_,_,_,_=>absurd h (HV _)
 | n+1,M,p,hp,a,b,x,y=>by
   unfold det;rw[b8,b8,<- iG];refine aO λi hi=>?_;by_cases h:i=p
   . subst h;rw[hZ,hZ,hZ];simp only[aD,if_pos rfl];grind
   . rw[gj M h,gj M h,gj M h,ux (minor M i) (show un i p<n by unfold un; split <;> omega) a b];simp only[aD,if_neg h];grind
theorem yO {f:Nat->Rat}{p:Nat}(h0:∀i,i≠p->i≠p+1->f i=0)(h:f p+f (p+1)=0):∀n,p+1<n->aP f n=0:=by
 have z:∀n,n<=p->aP f n=0:=by
   intro n;induction n with
   | zero=>intro _; rfl
   | succ n ih=>intro hn; rw[aP,ih (by omega),h0 n (by omega) (by omega),HM]
 intro n;induction n with
 | zero=>intro hn; omega
 | succ n ih=>
   intro hn;rw[aP];by_cases q:n=p+1
   . subst q;rw[aP,z p (ia _),Rat.zero_add];exact h
   . rw[ih (by omega),h0 n (by omega) q,HM]
theorem ji {f:Nat->Rat}{n:Nat}(h:∀i<n,f i=0):aP f n=0:=by rw[aO h]; exact ju n
theorem pR:∀{n:Nat} {M:Nat->Nat->Rat} {p:Nat},p+1<n->(∀c<n,M p c=M (p+1) c)->det n M=0
 | 0,_,_,h,_=>absurd h (HV _)
 | n+1,M,p,hp,h=>by
   unfold det
   let f:Nat->Rat:=λi=>if i<n+1 then sgn i*M i 0*det n (minor M i) else 0
   have e:aP (λi=>sgn i*M i 0*det n (minor M i)) (n+1)=aP f (n+1):=aO λi hi=>by simp only[f]; rw[if_pos hi]
   rw[e];refine yO (p:=p) (λi h1 h2=>?_) ?_ _ hp
   . simp only[f];by_cases hi:i<n+1
     . rw[if_pos hi]
       have:det n (minor M i)=0:=by
         by_cases q:i<p
         . refine pR (p:=p-1) (by omega) λc hc=>?_;unfold minor skp;rw[if_neg (by omega),if_neg (by omega),show p-1+1=p by omega];exact h (c+1) (by omega)
         . refine pR (p:=p) (by omega) λc hc=>?_;unfold minor skp;rw[if_pos (by omega),if_pos (by omega)];exact h (c+1) (by omega)
       rw[this,Jl]
     . rw[if_neg hi]
   . simp only[f];rw[if_pos (by omega),if_pos hp,fY,<- h 0 (by omega)]
     have:det n (minor M p)=det n (minor M (p+1)):=cB λr hr c hc=>by
       unfold minor skp;by_cases q:r<p
       . rw[if_pos q,if_pos (by omega)]
       . rw[if_neg q];by_cases q2:r=p
         . subst q2;rw[if_pos (by omega)];exact(h (c+1) (by omega)).symm
         . rw[if_neg (by omega)]
     rw[this];grind
structure ML (n:Nat)(f:(Nat->Nat->Rat)->Rat):Prop where
 cong:∀{M M':Nat->Nat->Rat},(∀i<n,∀j<n,M i j=M' i j)->f M=f M'
 lin:∀(M:Nat->Nat->Rat) {p:Nat},p<n->∀(a b:Rat) (x y:Nat->Rat),f (aD M p λc=>a*x c+b*y c)=a*f (aD M p x)+b*f (aD M p y)
 alt:∀{M:Nat->Nat->Rat} {p:Nat},p+1<n->(∀c<n,M p c=M (p+1) c)->f M=0
theorem ya (n:Nat):ML n (det n):=⟨cB,ux,pR⟩
section
variable {n:Nat}{f:(Nat->Nat->Rat)->Rat}
theorem bX (M:Nat->Nat->Rat)(p:Nat):aD M p (M p)=M:=by
 funext r c;unfold aD;split
 . rename_i h; rw[h]
 . rfl
theorem cu {M:Nat->Nat->Rat}{p:Nat}{v:Nat->Rat}:aD M p v p=v:=by funext c; unfold aD; rw[if_pos rfl]
theorem cx {M:Nat->Nat->Rat}{p r:Nat}{v:Nat->Rat}(h:r≠p):aD M p v r=M r:=by funext c; unfold aD; rw[if_neg h]
theorem bu {M:Nat->Nat->Rat}{p q:Nat}{v u:Nat->Rat}(h:p≠q):aD (aD M p v) q u=aD (aD M q u) p v:=by
 funext r c;unfold aD;by_cases h1:r=q
 . rw[if_pos h1,if_neg λz=>h (z.symm.trans h1),if_pos h1]
 . rw[if_neg h1,if_neg h1]
theorem ML.add (h:ML n f)(M:Nat->Nat->Rat){p:Nat}(hp:p<n)(x y:Nat->Rat):f (aD M p λc=>x c+y c)=f (aD M p x)+f (aD M p y):=by have:=h.lin M hp 1 1 x y;simp only[Iz]at this;exact this
theorem ML.nb (h:ML n f)(M:Nat->Nat->Rat){p:Nat}(hp:p+1<n)(x y:Nat->Rat):f (aD (aD M p x) (p+1) y)=-f (aD (aD M p y) (p+1) x):=by
 have z:∀u:Nat->Rat,f (aD (aD M p u) (p+1) u)=0:=λu=>h.alt hp λc _=>by rw[cu,cx (by omega),cu]
 have e:=z λc=>x c+y c;rw[h.add _ hp]at e;rw[bu (by omega),h.add _ (show p<n by omega),bu (M:=M) (p:=p) (q:=p+1) (v:=λc=>x c+y c) (u:=y) (by omega),h.add _ (show p<n by omega)]at e;rw[bu (M:=M) (p:=p+1) (q:=p) (v:=x) (u:=x) (by omega),z x,bu (M:=M) (p:=p+1) (q:=p) (v:=y) (u:=y) (by omega),z y,bu (M:=M) (p:=p+1) (q:=p) (v:=x) (u:=y) (by omega),bu (M:=M) (p:=p+1) (q:=p) (v:=y) (u:=x) (by omega)]at e;grind
theorem ML.two (h:ML n f):∀(d:Nat) (M:Nat->Nat->Rat) (p:Nat),p+1+d<n->M p=M (p+1+d)->f M=0
 | 0,M,p,hp,e=>h.alt hp λc _=>by rw[e]
 | d+1,M,p,hp,e=>by have s:=h.nb M (p:=p+1+d) (by omega) (M (p+1+d)) (M (p+1+d+1));rw[bX,bX]at s;rw[s,ML.two h d _ p (by omega) (by rw[cx (by omega),cx (by omega),cx (by omega),cu]; exact e)];rfl
theorem ML.same (h:ML n f){M:Nat->Nat->Rat}{p q:Nat}(hp:p<n)(hq:q<n)(hpq:p≠q)(e:M p=M q):f M=0:=by
 rcases Nat.lt_or_lt_of_ne hpq with z | z
 . exact h.two (q-p-1) M p (by omega) (by rw[show p+1+(q-p-1)=q by omega]; exact e)
 . exact h.two (p-q-1) M q (by omega) (by rw[show q+1+(p-q-1)=p by omega]; exact e.symm)
theorem ML.swap (h:ML n f){M:Nat->Nat->Rat}{p q:Nat}(hp:p<n)(hq:q<n)(hpq:p≠q)(x y:Nat->Rat):f (aD (aD M p x) q y)=-f (aD (aD M p y) q x):=by have z:∀u:Nat->Rat,f (aD (aD M p u) q u)=0:=λu=>h.same hp hq hpq (by rw[cu,cx hpq,cu]);have e:=z λc=>x c+y c;have c1:∀u v:Nat->Rat,aD (aD M q u) p v=aD (aD M p v) q u:=λu v=>bu λz=>hpq z.symm;rw[h.add _ hq,bu hpq,h.add _ hp,bu (M:=M) (p:=p) (q:=q) (v:=λc=>x c+y c) (u:=y) hpq,h.add _ hp,c1,c1,c1,c1,z x,z y]at e;grind
theorem ML.F1 (h:ML n f)(M:Nat->Nat->Rat){p:Nat}(hp:p<n):f (aD M p λ_=>0)=0:=by have:=h.lin M hp 0 0 (λ_=>0) (λ_=>0);simp only[Ke,HM]at this;exact this
theorem ML.sum (h:ML n f)(M:Nat->Nat->Rat){p:Nat}(hp:p<n)(v:Nat->Rat)(e:Nat->Nat->Rat):∀m,f (aD M p λj=>aP (λc=>v c*e c j) m)=aP (λc=>v c*f (aD M p (e c))) m
 | 0=>h.F1 M hp
 | m+1=>by have:=h.lin M hp 1 (v m) (λj=>aP (λc=>v c*e c j) m) (e m);simp only[Iz]at this;rw[aP,<- ML.sum h M hp v e m];exact this
end
noncomputable def idQ (i j:Nat):Rat:=if i=j then 1 else 0
noncomputable def un1 (σ:Nat->Nat)(i j:Nat):Rat:=if σ i=j then 1 else 0
theorem zp:∀(m:Nat) (σ:Nat->Nat),(∀i<m+1,σ i<m)->∃i j,i<j/\j<m+1/\σ i=σ j
 | 0,σ,h=>absurd (h 0 (by decide)) (HV _)
 | m+1,σ,h=>by
   by_cases q:∃i,i<m+1/\σ i=σ (m+1)
   . obtain⟨i,hi,e⟩:=q;exact⟨i,m+1,hi,by omega,e⟩
   . have q':∀i<m+1,σ i≠σ (m+1):=λi hi z=>q ⟨i,hi,z⟩;obtain⟨i,j,h1,h2,e⟩:=zp m (λi=>if σ (m+1)<σ i then σ i-1 else σ i) λi hi=>by have a:=h i (by omega);have b:=h (m+1) (by omega);have c:=q' i hi;split <;> omega
     refine⟨i,j,h1,by omega,?_⟩;have a:=q' i (by omega);have b:=q' j h2;split at e <;> split at e <;> omega
theorem AU {n k:Nat}{σ:Nat->Nat}(h:∀i<n,σ i<n)(hk:k<n)(hn:∀i<n,σ i≠k):∃i j,i<j/\j<n/\σ i=σ j:=by
 obtain⟨m,rfl⟩:∃m,n=m+1:=⟨n-1,by omega⟩;obtain⟨i,j,h1,h2,e⟩:=zp m (λi=>if k<σ i then σ i-1 else σ i) λi hi=>by have a:=h i hi;have b:=hn i hi;split <;> omega
 refine⟨i,j,h1,h2,?_⟩;have a:=hn i (by omega);have b:=hn j h2;split at e <;> split at e <;> omega
section
variable {n:Nat}{h:(Nat->Nat->Rat)->Rat}
theorem ML.x6 (H:ML n h)(h0:h idQ=0):∀(d k:Nat),k+d=n->∀σ:Nat->Nat,(∀i<n,σ i<n)->(∀i<k,σ i=i)->h (un1 σ)=0
 | 0,k,hk,σ,_,hf=>by rw[<- h0];exact H.cong λi hi j _=>by unfold un1 idQ; rw[hf i (by omega)]
 | d+1,k,hk,σ,hs,hf=>by
   by_cases q:∃j,k<=j/\j<n/\σ j=k
   . obtain⟨j,h1,h2,h3⟩:=q;by_cases z:j=k
     . subst z
       exact ML.x6 H h0 d (j+1) (by omega) σ hs λi hi=>by
         by_cases y:i=j
         . rw[y]; exact h3
         . exact hf i (by omega)
     . have e:un1 σ=aD (aD (un1 σ) k (un1 σ k)) j (un1 σ j):=by rw[bX,bX]
       have e2:aD (aD (un1 σ) k (un1 σ j)) j (un1 σ k)=un1 λi=>if i=j then σ k else if i=k then σ j else σ i:=by funext r c;have zk:¬k=j:=λy=>z y.symm;by_cases y1:r=j <;> by_cases y2:r=k <;> simp[aD,un1,y1,y2,zk]
       rw[e,H.swap (by omega) h2 (λy=>z y.symm),e2,ML.x6 H h0 d (k+1) (by omega) _ (λi hi=>?_) (λi hi=>?_)]
       . rfl
       . split
         . exact hs k (by omega)
         . split
           . exact hs j h2
           . exact hs i hi
       . rw[if_neg (by omega)];by_cases y:i=k
         . rw[if_pos y,h3,y]
         . rw[if_neg y];exact hf i (by omega)
   . obtain⟨i,j,h1,h2,e⟩:=AU hs (show k<n by omega) λi hi z=>by
       by_cases y:i<k
       . have:=hf i y;omega
       . exact q ⟨i,by omega,hi,z⟩
     exact H.same (p:=i) (q:=j) (by omega) h2 (by omega) (by funext c; unfold un1; rw[e])
noncomputable def pF (k:Nat)(M:Nat->Nat->Rat)(σ:Nat->Nat)(i j:Nat):Rat:=if i<k then M i j else un1 σ i j
theorem ML.ER (H:ML n h)(h0:h idQ=0)(M:Nat->Nat->Rat):∀(k:Nat),k<=n->∀σ:Nat->Nat,(∀i<n,σ i<n)->h (pF k M σ)=0
 | 0,_,σ,hs=>by rw[<- ML.x6 H h0 n 0 (by omega) σ hs λi hi=>absurd hi (HV _)];exact H.cong λi _ j _=>by unfold pF; rw[if_neg (HV _)]
 | k+1,hk,σ,hs=>by
   have e:h (pF (k+1) M σ)=h (aD (pF k M σ) k λj=>aP (λc=>M k c*idQ c j) n):=H.cong λi hi j hj=>by
     unfold aD pF;by_cases y:i=k
     . subst y;rw[if_pos (by omega),if_pos rfl];exact(gG (M i) j n hj).symm
     . rw[if_neg y];by_cases z:i<k
       . rw[if_pos (by omega),if_pos z]
       . rw[if_neg (by omega),if_neg z]
   rw[e,H.sum _ (by omega),ji];intro c hc;have e2:aD (pF k M σ) k (idQ c)=pF k M λi=>if i=k then c else σ i:=by funext r j;by_cases y:r=k <;> simp[aD,pF,un1,idQ,y]
   rw[e2,ML.ER H h0 M k (by omega) _ (λi hi=>?_),Jl];split
   . exact hc
   . exact hs i hi
theorem ML.zero (H:ML n h)(h0:h idQ=0)(M:Nat->Nat->Rat):h M=0:=by rw[<- ML.ER H h0 M n (ia _) (λi=>i) λi hi=>hi];exact H.cong λi hi j _=>by unfold pF; rw[if_pos hi]
end
theorem yP:minor idQ 0=idQ:=by
 funext r c;unfold minor idQ skp;rw[if_neg (HV _)];by_cases h:r=c
 . rw[if_pos (by omega),if_pos h]
 . rw[if_neg (by omega),if_neg h]
theorem sk:∀n,det n idQ=1
 | 0=>rfl
 | n+1=>by
   unfold det;rw[aO (g:=λi=>det n (minor idQ i)*idQ i 0) λi hi=>?_]
   . have:=gG (λi=>det n (minor idQ i)) 0 (n+1) (by omega);have e:(λi=>det n (minor idQ i)*idQ i 0)=λk=>(λi=>det n (minor idQ i)) k*dq k 0:=rfl;rw[e,this,yP,sk n]
   . by_cases z:i=0
     . subst z;show 1*1*_=_*1;grind
     . unfold idQ;rw[if_neg z];grind
theorem ML.uniq {n:Nat}{f:(Nat->Nat->Rat)->Rat}(F:ML n f)(M:Nat->Nat->Rat):f M=det n M*f idQ:=by
 have D:=ya n
 have H:ML n λM=>f M-det n M*f idQ:=by
   refine⟨λ{M M'} e=>?_,λM p hp a b x y=>?_,λ{M p} hp e=>?_⟩
   . rw[F.cong e,D.cong e]
   . rw[F.lin M hp,D.lin M hp];grind
   . rw[F.alt hp e,D.alt hp e];grind
 have:=H.zero (by rw[sk]; grind) M;grind
theorem rF:∀{n:Nat} (M:Nat->Nat->Rat) {q:Nat},q<n->∀(a b:Rat) (x y:Nat->Rat),det n (dJ M q λc=>a*x c+b*y c)=a*det n (dJ M q x)+b*det n (dJ M q y)
 | 0,_,_,h,_,_,_,_=>absurd h (HV _)
 | n+1,M,q,hq,a,b,x,y=>by
   unfold det;rw[b8,b8,<- iG];refine aO λi hi=>?_;cases q with
   | zero=>
     have e:∀v,minor (dJ M 0 v) i=minor M i:=λv=>by funext r c;unfold minor dJ;rw[if_neg (by omega)]
     rw[e,e,e];simp only[dJ,if_true];grind
   | succ q=>
     have e:∀v,minor (dJ M (q+1) v) i=dJ (minor M i) q λr=>v (skp i r):=λv=>by
       funext r c;unfold minor dJ;by_cases z:c=q
       . rw[if_pos (by omega),if_pos z]
       . rw[if_neg (by omega),if_neg z]
     rw[e,e,e,rF (minor M i) (show q<n by omega) a b];have z:¬(0=q+1):=by omega
     simp only[dJ,if_neg z];grind
theorem nL (g:Nat->Rat)(i:Nat):∀n,i<=n->aP (λj=>g (skp i j)) n=aP g (n+1)-g i
 | 0,h=>by
   have:i=0:=by omega
   subst this;show (0:Rat)=0+g 0-g 0;grind
 | n+1,h=>by
   by_cases q:i=n+1
   . subst q;have e:aP (λj=>g (skp (n+1) j)) (n+1)=aP g (n+1):=aO λk hk=>by unfold skp; rw[if_pos hk]
     rw[e,aP.eq_2 g (n+1)];grind
   . rw[aP,nL g i n (by omega),aP.eq_2 g (n+1)];have:skp i n=n+1:=by unfold skp; rw[if_neg (by omega)]
     rw[this];grind
theorem vW {n:Nat}{G:Nat->Nat->Rat}(h:∀i<n,∀j<n,G i j=-G j i):aP (λi=>aP (λj=>G i j) n) n=0:=by
 have e:aP (λi=>aP (λj=>G i j) n) n=-1*aP (λi=>aP (λj=>G i j) n) n:=by
   conv=>lhs; rw[jH]
   rw[b8];refine aO λi hi=>?_;rw[b8];refine aO λj hj=>?_;rw[h j hj i hi];grind
 grind
theorem Au {i j r:Nat}(h:i<j):skp i (skp (j-1) r)=skp j (skp i r):=by unfold skp;split <;> split <;> (try split) <;> (try split) <;> omega
theorem p9:∀{n:Nat} {M:Nat->Nat->Rat} {q:Nat},q+1<n->(∀r<n,M r q=M r (q+1))->det n M=0
 | 0,_,_,h,_=>absurd h (HV _)
 | 1,_,_,h,_=>by omega
 | n+2,M,q+1,hq,h=>by rw[det];refine ji λi hi=>?_;rw[p9 (M:=minor M i) (q:=q) (by omega) λr hr=>h _ (sY hr),Jl]
 | n+2,M,0,hq,h=>by
   let D:Nat->Nat->Rat:=λi j=>det n λr c=>M (skp i (skp j r)) (c+2)
   let G:Nat->Nat->Rat:=λi j=>if i<j then -(sgn i*sgn j*M i 0*M j 0*D i (j-1)) else if j<i then sgn i*sgn j*M i 0*M j 0*D i j else 0
   have inner:∀i<n+2,sgn i*M i 0*det (n+1) (minor M i)=aP (λj=>G i j) (n+2):=λi hi=>by
     have e:aP (λj=>G i j) (n+2)=aP (λj=>G i (skp i j)) (n+1):=by
       have g0:G i i=0:=by simp only[G]; rw[if_neg (Hs i),if_neg (Hs i)]
       rw[nL (λj=>G i j) i (n+1) (by omega),g0];grind
     rw[e,det,b8];refine aO λj hj=>?_;have m0:minor M i j 0=M (skp i j) 0:=(h _ (sY hj)).symm;have mm:det n (minor (minor M i) j)=D i j:=rfl;rw[m0,mm];simp only[G];by_cases z:j<i
     . have s:skp i j=j:=by unfold skp; rw[if_pos z]
       rw[s,if_neg (by omega),if_pos z];grind
     . have s:skp i j=j+1:=by unfold skp; rw[if_neg z]
       rw[s,if_pos (by omega),fY,show j+1-1=j by omega];grind
   rw[det,aO inner];refine vW λi hi j hj=>?_;have sy:∀{i j:Nat},i<j->D i (j-1)=D j i:=λ{i j} z=>by simp only[D];congr 1;funext r c;rw[Au z]
   simp only[G];rcases Nat.lt_trichotomy i j with z | z | z
   . rw[if_pos z,if_neg (by omega),if_pos z,sy z];grind
   . subst z;rw[if_neg (Hs _),if_neg (Hs _)];rfl
   . rw[if_neg (by omega),if_pos z,if_pos z,sy z];grind
theorem BC (n:Nat)(M:Nat->Nat->Rat):det n (λi j=>M j i)=det n M:=by
 have H:ML n λM=>det n λi j=>M j i:=by refine⟨λ{M M'} e=>cB λi hi j hj=>e j hj i hi,λM p hp a b x y=>?_,λ{M p} hp e=>p9 hp λr hr=>e r hr⟩;exact rF (λi j=>M j i) hp a b x y
 have u:=H.uniq M
 have i1:(det n λi j=>idQ j i)=1:=by
   rw[<- sk n];congr 1;funext i j;unfold idQ;by_cases z:i=j
   . rw[if_pos z,if_pos z.symm]
   . rw[if_neg z,if_neg λy=>z y.symm]
 simp only[i1,Lh]at u;exact u
section
variable {Y:Nat->Nat->Rat}{k p:Nat}
noncomputable def rho (k m r:Nat):Nat:=if r<k then r else if r=k then k+m else if r<=k+m then r-1 else r
theorem vq {n:Nat}:∀(m:Nat) (Y:Nat->Nat->Rat),k+m<n->(det n λr=>Y (rho k m r))=sgn m*det n Y
 | 0,Y,_=>by
   have:(λr=>Y (rho k 0 r))=Y:=by
     funext r;congr 1;unfold rho;split
     . rfl
     . split
       . omega
       . split <;> omega
   rw[this];show _=1*_;rw[Iz]
 | m+1,Y,h=>by
   have ih:=vq (n:=n) m (aD (aD Y (k+m) (Y (k+m+1))) (k+m+1) (Y (k+m))) (by omega);have s:=(ya n).nb Y (p:=k+m) (by omega) (Y (k+m+1)) (Y (k+m));rw[bX,bX]at s;rw[s]at ih;rw[fY]
   have e:(λr=>aD (aD Y (k+m) (Y (k+m+1))) (k+m+1) (Y (k+m)) (rho k m r))=λr=>Y (rho k (m+1) r):=by
     funext r;by_cases z:rho k m r=k+m+1
     . rw[z,cu];congr 1;unfold rho at z ⊢;split at z
       . omega
       . split at z
         . omega
         . split at z
           . omega
           . rename_i a b c;rw[if_neg a,if_neg b,if_pos (by omega)];omega
     . rw[cx z];by_cases y:rho k m r=k+m
       . rw[y,cu];congr 1;unfold rho at y z ⊢;split at y
         . omega
         . split at y
           . rename_i a b;rw[if_neg a,if_pos b];omega
           . split at y
             . omega
             . omega
       . rw[cx y];congr 1;unfold rho at y z ⊢;split at y
         . rename_i a;rw[if_pos a,if_pos a]
         . rename_i a;rw[if_neg a]at z;split at y
           . omega
           . rename_i b;rw[if_neg b]at z;rw[if_neg a,if_neg b,if_neg a,if_neg b];split at y
             . rename_i c;rw[if_pos c,if_pos (by omega)]
             . rename_i c;rw[if_neg c]at z;rw[if_neg c,if_neg (by omega)]
   rw[e]at ih;rw[ih];grind
end
noncomputable def su (k:Int)(j:Nat):Bool:=decide (K7 (k/2^j) 1=1)
noncomputable def k4 (k:Int)(j:Nat):Int:=Li k (1*2^j)
noncomputable def sgZ (b:Int):Int:=1-2*b.fmod 2
noncomputable def lW (row:List Int)(k v:Int)(j:Nat)(s:Int×List (Int×Int)):Int×List (Int×Int):=if su k j then (s.1+1,s.2) else (s.1,fV s.2 (k4 k j) ((bH s.2 (k4 k j)).getD 0+sgZ s.1*row.getD j 0*v))
noncomputable def bZ (n:Nat)(row:List Int)(k v:Int)(kv:List (Int×Int)):Nat->Int×List (Int×Int)
 | 0=>(0,kv)
 | c+1=>lW row k v (n-1-c) (bZ n row k v kv c)
noncomputable def bx (n:Nat)(row:List Int)(kv:List (Int×Int)):Nat->List (Int×Int)
 | 0=>[]
 | t+1=>(bZ n row (kv.getD t (0,0)).1 ((bH kv (kv.getD t (0,0)).1).getD 0) (bx n row kv t) n).2
theorem yd (m:Nat)(Y:Nat->Nat->Rat):det (m+1) Y=aP (λc=>sgn (m+c)*Y m c*det m λr q=>Y r (skp c q)) (m+1):=by
 have e1:=vq (k:=0) (n:=m+1) m Y (by omega);have e2:=BC (m+1) λr=>Y (rho 0 m r);rw[det]at e2;have r0:rho 0 m 0=m:=by unfold rho; rw[if_neg (by omega),if_pos rfl]; omega
 have rs:∀r,r<m->rho 0 m (r+1)=r:=λr hr=>by unfold rho;rw[if_neg (by omega),if_neg (by omega),if_pos (by omega)];omega
 have e3:aP (λc=>sgn c*Y m c*det m λr q=>Y r (skp c q)) (m+1)=sgn m*det (m+1) Y:=by rw[<- e1,<- e2];refine aO λc _=>?_;rw[r0,<- BC m];congr 1;exact cB λr hr q hq=>by unfold minor;dsimp only;rw[rs q hq]
 have sm:∀c,sgn (m+c)=sgn m*sgn c:=λc=>by
   induction c with
   | zero=>rw[Nat.add_zero,show sgn 0=1 from rfl,Lh]
   | succ c ih=>rw[<- IB,fY,ih,fY]; grind
 have:aP (λc=>sgn (m+c)*Y m c*det m λr q=>Y r (skp c q)) (m+1)=sgn m*aP (λc=>sgn c*Y m c*det m λr q=>Y r (skp c q)) (m+1):=by rw[b8];refine aO λc _=>?_;rw[sm];grind
 rw[this,e3,<- KG,DU,Iz]
noncomputable def eI (M:Nat->Nat->Rat)(L:List Nat):Rat:=det L.length λr c=>M r (L.getD c 0)
theorem kE {M:Nat->Nat->Rat}{L:List Nat}{m:Nat}(h:L.length=m+1):eI M L=aP (λc=>sgn (m-c)*M m (L.getD c 0)*eI M (L.eraseIdx c)) (m+1):=by
 unfold eI;rw[h,yd];refine aO λc hc=>?_
 have e1:sgn (m+c)=sgn (m-c):=by
   unfold sgn;by_cases z:(m+c)%2=0
   . rw[if_pos z,if_pos (by omega)]
   . rw[if_neg z,if_neg (by omega)]
 have e2:(L.eraseIdx c).length=m:=by rw[JB (by omega)]; omega
 rw[e1,e2];refine congrArg (λx=>sgn (m-c)*M m (L.getD c 0)*x) (cB λr _ q hq=>?_);rw[GV,GV,List.getElem?_eraseIdx];unfold skp;split <;> rfl
noncomputable def cols (n S:Nat):List Nat:=(ox n).filter λj=>S.testBit j
theorem rA {n S j:Nat}:j∈cols n S↔j<n/\S.testBit j=true:=by unfold cols;rw[IQ,GQ]
theorem zP {n S j:Nat}(hj:j<n)(h:S.testBit j=false):cols n (S ||| 2^j)=(cols j S)++j::((ox (n-(j+1))).map (j+1+·)).filter (λk=>S.testBit k):=by
 unfold cols;obtain⟨d,rfl⟩:=JZ (show j+1<=n from hj);rw[List.range_add,HD,HF,HF,show j+1+d-(j+1)=d by omega,Ht];have lo:(ox j).filter (λk=>(S ||| 2^j).testBit k)=(ox j).filter λk=>S.testBit k:=Jc λk hk=>by have:=GQ.mp hk;rw[Ji,Ic (by omega),JT]
 have hi:((ox d).map (j+1+·)).filter (λk=>(S ||| 2^j).testBit k)=((ox d).map (j+1+·)).filter λk=>S.testBit k:=Jc λk hk=>by obtain⟨q,_,rfl⟩:=Gy.mp hk;rw[Ji,Ic (by omega),JT]
 rw[lo,hi,LD (by rw[Ji,IM,KY]),Kd];rfl
noncomputable def above (n j S:Nat):List Nat:=((ox (n-(j+1))).map (j+1+·)).filter λk=>S.testBit k
theorem tX {n S j:Nat}(hj:j<n)(h:S.testBit j=false):cols n S=cols j S++above n j S:=by unfold cols above;obtain⟨d,rfl⟩:=JZ (show j+1<=n from hj);rw[List.range_add,HD,HF,HF,show j+1+d-(j+1)=d by omega,LF (by rw[h]; decide),Kd,G3]
theorem lh {n S j:Nat}(hj:j<n)(h:S.testBit j=false):(cols n (S ||| 2^j)).length=(cols n S).length+1/\(cols n (S ||| 2^j)).getD (cols j S).length 0=j/\(cols n (S ||| 2^j)).eraseIdx (cols j S).length=cols n S/\(cols n S).length-(cols j S).length=(above n j S).length/\(cols j S).length<=(cols n S).length:=by
 rw[zP hj h,tX hj h];refine⟨by simp only[vp,GK]; rfl,?_,?_,by rw[vp]; omega,by rw[vp]; omega⟩
 . rw[GV,GU (ia _),K1];rfl
 . rw[List.eraseIdx_append_of_length_le (ia _),K1];rfl
theorem vZ (n S:Nat):cols (n+1) S=if S.testBit n then cols n S++[n] else cols n S:=by
 unfold cols;rw[HD,HF];cases h:S.testBit n with
 | true=>rw[LD h,Kd,if_pos rfl]
 | false=>rw[LF (by rw[h]; decide),Kd,G3,if_neg (by decide)]
theorem qE (G:Nat->Nat->Rat)(S:Nat):∀n,aP (λc=>G c ((cols n S).getD c 0)) (cols n S).length=aP (λj=>if S.testBit j then G (cols j S).length j else 0) n
 | 0=>rfl
 | n+1=>by
   rw[vZ,aP,<- qE G S n];cases h:S.testBit n with
   | true=>
     rw[if_pos rfl,if_pos rfl,vp,Kb,aP];have e1:(cols n S++[n]).getD (cols n S).length 0=n:=by rw[GV,GU (ia _),K1];rfl
     rw[e1];refine congrArg (·+G (cols n S).length n) (aO λc hc=>?_);rw[GV,Gw hc,<- GV]
   | false=>rw[if_neg (by decide),if_neg (by decide),HM]
theorem iD {S j:Nat}(h:S.testBit j=true):(S ^^^ 2^j).testBit j=false/\(S ^^^ 2^j) ||| 2^j=S/\∀k,k≠j->(S ^^^ 2^j).testBit k=S.testBit k:=by
 have a:∀k,k≠j->(S ^^^ 2^j).testBit k=S.testBit k:=λk hk=>by rw[Nat.testBit_xor,Ic (Hi hk),Bool.xor_false]
 have b:(S ^^^ 2^j).testBit j=false:=by rw[Nat.testBit_xor,IM,h]; rfl
 refine⟨b,Kn λk=>?_,a⟩;rw[Ji];by_cases z:k=j
 . subst z;rw[IM,KY,h]
 . rw[a k z,Ic (Hi z),JT]
theorem wD {M:Nat->Nat->Rat}{n m S:Nat}(h:(cols n S).length=m+1):eI M (cols n S)=aP (λj=>if S.testBit j then sgn (above n j S).length*M m j*eI M (cols n (S ^^^ 2^j)) else 0) n:=by
 rw[kE h,<- h,qE (λc j=>sgn (m-c)*M m j*eI M ((cols n S).eraseIdx c)) S n];refine aO λj hj=>?_;cases hb:S.testBit j with
 | false=>rfl
 | true=>
   rw[if_pos rfl,if_pos rfl];obtain⟨b1,b2,b3⟩:=iD hb;obtain⟨c1,c2,c3,c4,c5⟩:=lh hj b1;rw[b2]at c1 c2 c3;have l1:cols j (S ^^^ 2^j)=cols j S:=Jc λk hk=>b3 k (by have:=GQ.mp hk; omega);have l2:above n j (S ^^^ 2^j)=above n j S:=Jc λk hk=>by obtain⟨q,_,rfl⟩:=Gy.mp hk;exact b3 _ (by omega)
   rw[l1]at c3 c4;rw[l2]at c4;rw[c3,<- c4,show (cols n (S ^^^ 2^j)).length=m by omega]
theorem Fu (S j:Nat):su (S:Int) j=S.testBit j:=by
 unfold su;have e:(S:Int)/2^j=((S/2^j:Nat):Int):=by simp
 rw[e,PyProof.Rows.bitAnd_pp (Ir _) (by decide),GC,Nat.testBit_eq_decide_div_mod_eq];have:(S/2^j) &&& (1:Int).toNat=S/2^j%2:=by show (S/2^j) &&& 1=_; rw[Nat.and_one_is_mod]
 rw[this];congr 1;rw[eq_iff_iff];omega
theorem EF (S j:Nat):k4 (S:Int) j=((S ||| 2^j:Nat):Int):=by
 unfold k4;have e:(1:Int)*2^j=((2^j:Nat):Int):=by simp
 rw[e];generalize 2^j=y;unfold Builtin.bitOr;have h1:¬(0<=J9 (S:Int)):=by unfold Builtin.bitNot; omega
 have h2:¬(0<=J9 (y:Int)):=by unfold Builtin.bitNot; omega
 rw[PyProof.Rows.bitAnd_nn h1 h2];have h3:∀x:Int,J9 (J9 x)=x:=λx=>by unfold Builtin.bitNot; omega
 rw[h3,h3,h3,GC,GC]
theorem Gi (k:Nat):((sgZ (k:Int):Int):Rat)=sgn k:=by
 unfold sgZ sgn;rw[HY _ (by decide)];by_cases h:k%2=0
 . rw[if_pos h,show (k:Int)%2=0 by omega]; rfl
 . rw[if_neg h,show (k:Int)%2=1 by omega]; rfl
theorem pk (kv:List (Int×Int))(k v j:Int):bH (fV kv k v) j=if j=k then some v else bH kv j:=by
 have e:=iN (Ev.bD kv) (IW k) (IW j) (V.int v);rw[uF,i9,i9]at e;by_cases h:j=k
 . rw[if_pos (congrArg IW h)]at e;rw[if_pos h];cases z:bH (fV kv k v) j with
   | none=>rw[z]at e; cases e
   | some x=>rw[z]at e; cases e; rfl
 . rw[if_neg (λz=>h (KP z))]at e;rw[if_neg h];cases z:bH (fV kv k v) j <;> cases z':bH kv j <;> rw[z,z']at e <;> cases e <;> rfl
theorem rq (kv:List (Int×Int))(k v:Int):(fV kv k v).map (·.1)=if (kv.any λp=>decide (p.1=k))=true then kv.map (·.1) else kv.map (·.1)++[k]:=by
 unfold fV;split
 . rw[GO];refine GY λp _=>?_;simp only[Jk];split <;> rfl
 . rw[GN]; rfl
theorem Dw {kv:List (Int×Int)}{k v:Int}(h:(kv.map (·.1)).Nodup):((fV kv k v).map (·.1)).Nodup:=by
 rw[rq];split
 . exact h
 . rename_i z;rw[HQ];refine⟨h,by simp,λa ha b hb e=>z ?_⟩;obtain⟨p,hp,rfl⟩:=Gy.mp ha;rw[ib]at hb;exact K3.mpr ⟨p,hp,decide_eq_true (e.trans hb)⟩
theorem Aq {kv:List (Int×Int)}{k v x:Int}(h:x∈(fV kv k v).map (·.1)):x=k\/x∈kv.map (·.1):=by
 rw[rq]at h;split at h
 . exact .inr h
 . rcases Gv.mp h with h | h
   . exact .inr h
   . exact .inl (ib.mp h)
theorem sx:∀{kv:List (Int×Int)} {q:Int×Int},(kv.map (·.1)).Nodup->q∈kv->bH kv q.1=some q.2
 | p::t,q,h,hq=>by
   rw[GP,Ha]at h;unfold bH;by_cases z:p.1=q.1
   . rw[J4 (by simp[z])];rcases xb.mp hq with e | hq
     . rw[e]; rfl
     . exact absurd (Gy.mpr ⟨q,hq,z.symm⟩) h.1
   . rw[J5 (by simp[z])];rcases xb.mp hq with e | hq
     . exact absurd (by rw[e]) z
     . exact sx h.2 hq
theorem x8:∀{kv:List (Int×Int)} {k v:Int},bH kv k=some v->(k,v)∈kv
 | p::t,k,v,h=>by
   unfold bH at h;by_cases z:p.1=k
   . rw[J4 (by simp[z])]at h;cases h;rw[<- z];exact rp ..
   . rw[J5 (by simp[z])]at h;exact pq _ (x8 h)
noncomputable def gv (kv:List (Int×Int))(k:Int):Rat:=(((bH kv k).getD 0:Int):Rat)
theorem Du (kv:List (Int×Int))(k j x:Int):gv (fV kv k ((bH kv k).getD 0+x)) j=gv kv j+if j=k then (x:Rat) else 0:=by
 unfold gv;rw[pk];by_cases h:j=k
 . rw[if_pos h,if_pos h,h,JQ,Jy]
 . rw[if_neg h,if_neg h,HM]
theorem sN {n j S:Nat}(h:j+1<n):(above n j S).length=(if S.testBit (j+1) then 1 else 0)+(above n (j+1) S).length:=by
 unfold above;obtain⟨d,rfl⟩:=JZ (show j+2<=n from h);rw[show j+2+d-(j+1)=d+1 by omega,show j+2+d-(j+1+1)=d by omega,LN,GP,GO,Jo];have e:(ox d).map ((j+1+·)∘Nat.succ)=(ox d).map (j+1+1+·):=GY λk _=>by simp only[Jk]; omega
 rw[e,Nat.add_zero];split
 . rw[GK]; omega
 . omega
theorem r6 {n S:Nat}:(above (n+1) n S).length=0:=by unfold above;rw[show n+1-(n+1)=0 by omega];rfl
theorem lq (g:Nat->Rat):∀n,aP g (n+1)=g 0+aP (λk=>g (k+1)) n
 | 0=>by simp only[aP,HM,Rat.zero_add]
 | n+1=>by rw[aP,lq g n,aP,Rat.add_assoc]
theorem rM (f:Nat->Rat):∀n,aP (λt=>f (n-1-t)) n=aP f n
 | 0=>rfl
 | n+1=>by rw[lq,aP,Rat.add_comm,show n+1-1-0=n by omega,<- rM f n];refine congrArg (·+f n) (aO λk hk=>?_);rw[show n+1-1-(k+1)=n-1-k by omega]
noncomputable def tO (n S:Nat):Nat->Nat
 | 0=>0
 | c+1=>tO n S c+if S.testBit (n-1-c) then 1 else 0
theorem mZ {n S:Nat}:∀c,c<n->tO n S c=(above n (n-1-c) S).length
 | 0,h=>by obtain⟨m,rfl⟩:=Nat.exists_eq_succ_of_ne_zero (show n≠0 by omega);rw[show m.succ-1-0=m by omega,r6];rfl
 | c+1,h=>by rw[tO,mZ c (by omega),sN (n:=n) (j:=n-1-(c+1)) (by omega),show n-1-(c+1)+1=n-1-c by omega];omega
noncomputable def evQ (n:Nat)(row:List Int)(S:Nat)(v:Rat)(T:Int)(j:Nat):Rat:=if S.testBit j then 0 else if T=((S ||| 2^j:Nat):Int) then sgn (above n j S).length*((row.getD j 0:Int):Rat)*v else 0
structure CI (n S:Nat)(row:List Int)(v:Int)(lk:List (Int×Int))(c:Nat)(r:Int×List (Int×Int)):Prop where
 cnt:r.1=(tO n S c:Nat)
 val:∀T,gv r.2 T=gv lk T+aP (λt=>evQ n row S v T (n-1-t)) c
 key:∀x∈r.2.map (·.1),x∈lk.map (·.1)\/∃j,j<n/\S.testBit j=false/\x=((S ||| 2^j:Nat):Int)
 nd:(r.2.map (·.1)).Nodup
 old:∀T,bH lk T≠none->bH r.2 T≠none
 new:∀t<c,S.testBit (n-1-t)=false->bH r.2 ((S ||| 2^(n-1-t):Nat):Int)≠none
theorem vc {n S:Nat}{row:List Int}{v:Int}{lk:List (Int×Int)}(hn:(lk.map (·.1)).Nodup):∀c,c<=n->CI n S row v lk c (bZ n row (S:Int) v lk c)
 | 0,_=>⟨rfl,λT=>by rw[aP,HM]; rfl,λx h=>.inl h,hn,λ_ h=>h,λt h=>by omega⟩
 | c+1,hc=>by
   obtain⟨h1,h2,h3,h4,h5,h6⟩:=vc (n:=n) (S:=S) (row:=row) (v:=v) hn c (by omega);rw[bZ,lW,Fu,EF];generalize bZ n row (S:Int) v lk c=r at h1 h2 h3 h4 h5 h6 ⊢;cases hb:S.testBit (n-1-c) with
   | true=>
     rw[if_pos rfl];refine⟨by dsimp only; rw[h1,tO,hb,if_pos rfl]; omega,λT=>?_,h3,h4,h5,λt ht hf=>?_⟩
     . rw[aP,evQ,if_pos hb,HM]; exact h2 T
     . rcases JF t c with z | z
       . exact h6 t z hf
       . obtain rfl:t=c:=by omega
         rw[hb]at hf; cases hf
   | false=>
     rw[if_neg (by decide)];refine⟨by dsimp only; rw[h1,tO,hb]; rfl,λT=>?_,λx hx=>?_,Dw h4,λT hT=>?_,λt ht hf=>?_⟩
     . dsimp only;have e:evQ n row S v T (n-1-c)=if T=((S ||| 2^(n-1-c):Nat):Int) then sgn (tO n S c)*((row.getD (n-1-c) 0:Int):Rat)*v else 0:=by unfold evQ;rw[if_neg (by rw[hb]; decide),<- mZ (n:=n) (S:=S) c (by omega)]
       rw[Du,h2,aP,<- Rat.add_assoc,e,h1,GJ,GJ,Gi]
     . rcases Aq hx with e | e
       . exact .inr ⟨n-1-c,by omega,hb,e⟩
       . exact h3 x e
     . dsimp only;rw[pk];split
       . exact nofun
       . exact h5 T hT
     . dsimp only;rw[pk];split
       . exact nofun
       . rename_i z;rcases JF t c with y | y
         . exact h6 t y hf
         . obtain rfl:t=c:=by omega
           exact absurd rfl z
structure MI (n:Nat)(row:List Int)(Sf:Nat->Nat)(vf:Nat->Rat)(t:Nat)(r:List (Int×Int)):Prop where
 val:∀T,gv r T=aP (λs=>aP (evQ n row (Sf s) (vf s) T) n) t
 key:∀x∈r.map (·.1),∃s<t,∃j,j<n/\(Sf s).testBit j=false/\x=((Sf s ||| 2^j:Nat):Int)
 nd:(r.map (·.1)).Nodup
 new:∀s<t,∀j<n,(Sf s).testBit j=false->bH r ((Sf s ||| 2^j:Nat):Int)≠none
theorem rQ {n:Nat}{row:List Int}{kv:List (Int×Int)}{Sf:Nat->Nat}(hS:∀s<kv.length,(kv.getD s (0,0)).1=(Sf s:Int)):∀t,t<=kv.length->MI n row Sf (λs=>gv kv (Sf s)) t (bx n row kv t)
 | 0,_=>⟨λT=>rfl,λx h=>by simp[bx]at h,by simp[bx],λs h=>by omega⟩
 | t+1,ht=>by
   obtain⟨h1,h2,h3,h4⟩:=rQ (n:=n) (row:=row) hS t (by omega);rw[bx,hS t (by omega)];generalize bx n row kv t=r at h1 h2 h3 h4 ⊢;obtain⟨_,c2,c3,c4,c5,c6⟩:=vc (n:=n) (S:=Sf t) (row:=row) (v:=(bH kv (Sf t:Int)).getD 0) h3 n (ia _);refine⟨λT=>?_,λx hx=>?_,c4,λs hs j hj hf=>?_⟩
   . rw[c2,h1,aP,rM (evQ n row (Sf t) _ T)];rfl
   . rcases c3 x hx with e | ⟨j,e⟩
     . obtain⟨s,hs,e⟩:=h2 x e;exact⟨s,by omega,e⟩
     . exact⟨t,by omega,j,e⟩
   . rcases JF s t with z | z
     . exact c5 _ (h4 s z j hj hf)
     . obtain rfl:s=t:=by omega
       have:=c6 (n-1-j) (by omega);rw[show n-1-(n-1-j)=j by omega]at this;exact this hf
structure RI (n i:Nat)(M:Nat->Nat->Rat)(kv:List (Int×Int)):Prop where
 key:∀x∈kv.map (·.1),∃S:Nat,x=(S:Int)/\S<2^n/\(cols n S).length=i
 nd:(kv.map (·.1)).Nodup
 all:∀S:Nat,S<2^n->(cols n S).length=i->bH kv (S:Int)≠none/\gv kv (S:Int)=eI M (cols n S)
theorem xC {S T j:Nat}(h:S.testBit j=false)(e:T=S ||| 2^j):T.testBit j=true/\S=T ^^^ 2^j:=by
 have h1:T.testBit j=true:=by rw[e,Ji,IM,KY]
 refine⟨h1,Kn λk=>?_⟩;obtain⟨b1,_,b3⟩:=iD h1;by_cases z:k=j
 . subst z; rw[h,b1]
 . rw[b3 k z,e,Ji,Ic (Hi z),JT]
theorem RI.step {n i:Nat}{M:Nat->Nat->Rat}{kv:List (Int×Int)}{row:List Int}(h:RI n i M kv)(hr:∀j<n,((row.getD j 0:Int):Rat)=M i j):RI n (i+1) M (bx n row kv kv.length):=by
 have hS:∀s<kv.length,(kv.getD s (0,0)).1=((kv.getD s (0,0)).1.toNat:Int)/\(kv.getD s (0,0)).1.toNat<2^n/\(cols n (kv.getD s (0,0)).1.toNat).length=i:=λs hs=>by
   have hm:kv.getD s (0,0)∈kv:=by rw[GV,ph hs]; exact List.getElem_mem hs
   obtain⟨S,e1,e2,e3⟩:=h.key _ (Gy.mpr ⟨_,hm,rfl⟩);rw[e1,GC];exact⟨rfl,e2,e3⟩
 obtain⟨m1,m2,m3,m4⟩:=rQ (n:=n) (row:=row) (kv:=kv) (Sf:=λs=>(kv.getD s (0,0)).1.toNat) (λs hs=>(hS s hs).1) kv.length (ia _)
 have off:∀{T j:Nat},T<2^n->(cols n T).length=i+1->j<n->T.testBit j=true->T ^^^ 2^j<2^n/\(cols n (T ^^^ 2^j)).length=i/\∃s<kv.length,(kv.getD s (0,0)).1.toNat=T ^^^ 2^j:=λ{T j} hT hl hj hb=>by
   obtain⟨b1,b2,_⟩:=iD hb;have l1:T ^^^ 2^j<2^n:=Nat.xor_lt_two_pow hT (Nat.pow_lt_pow_right (by decide) hj);have l2:=(lh hj b1).1;rw[b2,hl]at l2;refine⟨l1,by omega,?_⟩;obtain⟨q,_⟩:=h.all _ l1 (by omega);cases z:bH kv ((T ^^^ 2^j:Nat):Int) with
   | none=>exact absurd z q
   | some v=>obtain⟨s,hs⟩:=List.getElem?_of_mem (x8 z);refine⟨s,(GD.mp hs).1,?_⟩;rw[GV,hs];show (((T ^^^ 2^j:Nat):Int)).toNat=_;rw[GC]
 refine⟨λx hx=>?_,m3,λT hT hl=>⟨?_,?_⟩⟩
 . obtain⟨s,hs,j,hj,hf,rfl⟩:=m2 x hx;obtain⟨_,e2,e3⟩:=hS s hs;exact⟨_,rfl,Nat.or_lt_two_pow e2 (Nat.pow_lt_pow_right (by decide) hj),by rw[(lh hj hf).1,e3]⟩
 . obtain⟨j,hj⟩:=List.exists_mem_of_length_pos (l:=cols n T) (by omega);obtain⟨hj,hb⟩:=rA.mp hj;obtain⟨_,_,s,hs,e⟩:=off hT hl hj hb;obtain⟨b1,b2,_⟩:=iD hb;have:=m4 s hs j hj
   try dsimp only at this
   rw[e,b2]at this;exact this b1
 . rw[m1,jH (λs j=>evQ n row (kv.getD s (0,0)).1.toNat (gv kv ((kv.getD s (0,0)).1.toNat:Int)) (T:Int) j) n kv.length,wD hl];refine aO λj hj=>?_;cases hb:T.testBit j with
   | false=>
     rw[if_neg (by decide)];refine ji λs hs=>?_;unfold evQ;cases hf:(kv.getD s (0,0)).1.toNat.testBit j with
     | true=>rw[if_pos rfl]
     | false=>rw[if_neg (by decide),if_neg λz=>?_];have:=(xC hf (Int.ofNat.inj z)).1;rw[hb]at this; cases this
   | true=>
     rw[if_pos rfl];obtain⟨l1,l2,s0,hs0,e0⟩:=off hT hl hj hb;obtain⟨b1,b2,b3⟩:=iD hb;have ea:above n j (T ^^^ 2^j)=above n j T:=Jc λk hk=>by obtain⟨q,_,rfl⟩:=Gy.mp hk;exact b3 _ (by omega)
     rw[<- (h.all _ l1 l2).2,<- hr j hj,<- ea,<- gG (λ_=>sgn (above n j (T ^^^ 2^j)).length*((row.getD j 0:Int):Rat)*gv kv ((T ^^^ 2^j:Nat):Int)) s0 kv.length hs0];refine aO λs hs=>?_;unfold evQ dq;by_cases z:s=s0
     . subst z;rw[e0,b1,b2,if_neg (by decide),if_pos rfl,if_pos rfl,Lh]
     . rw[if_neg z,Jl];cases hf:(kv.getD s (0,0)).1.toNat.testBit j with
       | true=>rw[if_pos rfl]
       | false=>
         rw[if_neg (by decide),if_neg λy=>z ?_];have e1:=(xC hf (Int.ofNat.inj y)).2
         have e2:(kv.map (·.1))[s]?=(kv.map (·.1))[s0]?:=by
           have g:∀s<kv.length,(kv.map (·.1))[s]?=some (kv.getD s (0,0)).1:=λs hs=>by rw[GL,GV,ph hs]; rfl
           rw[g s hs,g s0 hs0,(hS s hs).1,(hS s0 hs0).1,e1,e0]
         exact(List.getElem?_inj (by rw[fw]; exact hs) h.nd).mp e2
theorem RI.zero (n:Nat)(M:Nat->Nat->Rat):RI n 0 M [(0,1)]:=by
 have c0:∀S:Nat,S<2^n->(cols n S).length=0->S=0:=λS hS h=>Kn λk=>by
   rw[Nat.zero_testBit];rcases JF k n with z | z
   . cases hb:S.testBit k with
     | false=>rfl
     | true=>have:=rA.mpr ⟨z,hb⟩;rw[LC.mp h]at this;cases this
   . exact Nat.testBit_lt_two_pow (Gz hS (Hg (by decide) z))
 refine⟨λx hx=>⟨0,?_,Hv n,?_⟩,by simp,λS hS h=>?_⟩
 . simpa using hx
 . unfold cols;rw[List.filter_eq_nil_iff.mpr λa _=>by rw[Nat.zero_testBit]; decide];rfl
 . obtain rfl:=c0 S hS h;refine⟨nofun,?_⟩;rw[eI,h];rfl
theorem pZ (b:Int):sgZ b=1\/sgZ b=-1:=by unfold sgZ;rw[HY _ (by decide)];omega
theorem k7 (n:Nat)(row:List Int)(k v:Int)(kv:List (Int×Int)):∀c,(bZ n row k v kv c).2.length<=kv.length+c
 | 0=>ia _
 | c+1=>by
   have:=k7 n row k v kv c;rw[bZ,lW];split
   . dsimp only; omega
   . have:=z9 (bZ n row k v kv c).2 (k4 k (n-1-c)) ((bH (bZ n row k v kv c).2 (k4 k (n-1-c))).getD 0+sgZ (bZ n row k v kv c).1*row.getD (n-1-c) 0*v);dsimp only;omega
theorem js (n:Nat)(row:List Int)(kv:List (Int×Int)):∀t,(bx n row kv t).length<=t*n
 | 0=>by rw[bx,Kc]; omega
 | t+1=>by have h1:=js n row kv t;have h2:=k7 n row (kv.getD t (0,0)).1 ((bH kv (kv.getD t (0,0)).1).getD 0) (bx n row kv t) n;rw[bx,Ij];omega
noncomputable def dtR (r:List Int):D:=.lst (r.map .int)
noncomputable def dtM (Ms:List (List Int))(i j:Nat):Rat:=(((Ms.getD i []).getD j 0:Int):Rat)
theorem atR {row:List Int}{j:Nat}(h:j<row.length):atI (row.map D.int) (j:Int)=some (.int (row.getD j 0)):=bB (i:=(j:Int)) (by omega) (by omega)
def bT (ds:List D)(r:Sl):Prop:=∃xs,ds=[.lst xs]/\r=.d (.bl (decide ((1:Int)<=(xs.length:Nat))&&decide (((xs.length:Nat):Int)<=7)))
noncomputable def rwQ (r:List Rat):D:=.lst (r.map frD)
noncomputable def tbQ (M:List (List Rat)):D:=.lst (M.map rwQ)
structure Tq (R C:Nat)(M:List (List Rat)):Prop where
 r1:1<=R
 r7:R<=7
 c1:1<=C
 c7:C<=7
 len:M.length=R
 row:∀r∈M,r.length=C
theorem fI {α:Type}{f:α->D}{xs:List α}(d:α):∀i (h:i<(xs.map f).length),(xs.map f)[i]=f (xs.getD i d):=λi h=>by
 have:i<xs.length:=by simpa using h
 simp[this]
theorem BQ {α:Type}{f:α->D}{xs:List α}(d:α){i:Nat}(h:i<xs.length):atI (xs.map f) (i:Int)=some (f (xs.getD i d)):=ai (by simp[h])
theorem fN {α:Type}{xs:List α}{d:α}{i:Nat}(h:i<xs.length):xs.getD i d∈xs:=by simp[h]
theorem Tq.at_ {R C:Nat}{M:List (List Rat)}(h:Tq R C M){i:Nat}(hi:i<R):(M.getD i []).length=C:=h.row _ (fN (by rw[h.len]; exact hi))
theorem xE (n:Nat)(f:Nat->Bool)(h:∀i,i<n->f i=true):((ox n).map f).all id=true:=by rw[KW,Hb];intro i hi;exact h i (GQ.mp hi)
structure Qs (d v:Nat)(q:Rat):Prop where
 den:Bd d (q.den:Nat)
 val:q.num.natAbs<=2^v*q.den
theorem Bq {X:Cx}{xs:List D}{n:Nat}(h:xs.length=n):iy X (.builtin "len") [.lst xs] (.d (.int n)):=h▸gf
theorem pO {α:Type}(f:α->D)(xs:List α)(d:α){m:Nat}(h:m=xs.length):(ox m).map (λi=>f (xs.getD i d))=xs.map f:=by
 subst h;refine Jp (by simp) λi h1 h2=>?_;have:i<xs.length:=by simpa using h2
 simp[this]
def kL (ds:List D)(r:Sl):Prop:=∃q:List Rat,ds=[rwQ q]/\1<=q.length/\q.length<=7/\r=.d (.bl true)
def ie (ds:List D)(r:Sl):Prop:=∃(R C:Nat) (M:List (List Rat)),ds=[tbQ M]/\Tq R C M/\r=.d (.bl true)
def eZ (ds:List D)(r:Sl):Prop:=∃(R C:Nat) (M:List (List Rat)),ds=[tbQ M]/\Tq R C M/\r=.d .non
section
variable {P:Program}{w:World}{K:gV}{mg:Str->Option Value}{base:Heap}{k:Nat}{f:Addr}{fd:FuncData}{qual:Str}
theorem jA (F:Fun K "is_short_list" qual (top 20) f fd)(hb:∀x∈ah,mg x=none)(y_MOST:∃t,mg "MOST" = some (.int 7 t)):aH P w K mg base CX0 (k+1) f fd ["thing"] (spD K bT):=by refine fnD F jj hb (by rintro _ _ ⟨_,rfl,_⟩; rfl) ?_;rintro _ _ ⟨xs,rfl,rfl⟩ cdv A outer s H E b;exact aL (fQ (cE .list b (aa 0)) λh=>(gC (jd ae (bq b (ab (aa 0) af) gf) (jq y_MOST) oH oH).1)) rfl
theorem wz (F:Fun K "is_row" qual (top 21) f fd)(hb:∀x∈ah,mg x=none)(c_is_short_list:Cal P w K mg base k "is_short_list" bT)(c_is_fraction:Cal P w K mg base k "is_fraction" cD):aH P w K mg base CX0 (k+1) f fd ["thing"] (spD K kL):=by refine fnD F wB hb (by rintro _ _ ⟨_,rfl,_⟩; rfl) ?_;rintro _ _ ⟨q,rfl,h1,h7,rfl⟩ cdv A outer s H E b;refine aL (fQ (x_call b c_is_short_list (ab (aa 0) af) ⟨_,rfl,rfl⟩) λh=>(gC (bq b (ab (a7 (cR (cmp 0 (f:=λ_=>.bl true) b (a9 (aa 0)) (fI (f:=frD) (xs:=q) 0) (by rw[fw]; omega) λi hi s0 H0 fp=>(x_call (b.comp s0 H0 _ fp) c_is_fraction (ab (aa 0) af) ⟨_,rfl,by rw[uL]⟩)))) af) (lD b.calm ((ox (q.map frD).length).map λ_=>true) (by rw[GO]; rfl))))) ?_;rw[fw,decide_eq_true (by omega),decide_eq_true (by omega),xE _ _ λ_ _=>rfl];rfl
theorem qR (F:Fun K "is_table" qual (top 22) f fd)(hb:∀x∈ah,mg x=none)(c_is_short_list:Cal P w K mg base k "is_short_list" bT)(c_is_row:Cal P w K mg base k "is_row" kL):aH P w K mg base CX0 (k+1) f fd ["thing"] (spD K ie):=by
 refine fnD F qP hb (by rintro _ _ ⟨_,_,_,rfl,_⟩; rfl) ?_;rintro _ _ ⟨R,C,M,rfl,t,rfl⟩ cdv A outer s H E b;have hl:(M.map rwQ).length=R:=by rw[fw,t.len]
 have r1:=t.r1;have r7:=t.r7;have c1:=t.c1;have c7:=t.c7;refine bE (PW.pt (cn (a5 (a6 (x_call b c_is_short_list (ab (aa 0) af) ⟨_,rfl,rfl⟩))) λh=>(cg (a5 (a6 (bq b (ab (a7 (cR (cmp 0 (f:=λ_=>.bl true) b (a9 (aa 0)) (fI (f:=rwQ) (xs:=M) []) (by rw[hl]; omega) λi hi s0 H0 fp=>(x_call (b.comp s0 H0 _ fp) c_is_row (ab (aa 0) af) ⟨_,rfl,?_,?_,rfl⟩)))) af) (lD b.calm ((ox (M.map rwQ).length).map λ_=>true) (by rw[GO]; rfl)))))))) ?_ ?_
 . rw[t.at_ (by rw[hl]at hi; exact hi)]; exact c1
 . rw[t.at_ (by rw[hl]at hi; exact hi)]; exact c7
 . rw[hl,decide_eq_true (by omega),decide_eq_true (by omega),xE _ _ λ_ _=>rfl]; rfl
 have e0:atI (M.map rwQ) 0=some (rwQ (M.getD 0 [])):=BQ [] (i:=0) (by rw[t.len]; omega);refine aL (bq b (ab (a7 (cR (cmp 0 (f:=λ_=>.bl (decide ((C:Int)=(C:Int)))) b (a9 (aa 0)) (fI (f:=rwQ) (xs:=M) []) (by rw[hl]; omega) λi hi s0 H0 fp=>(cc (bq (b.comp s0 H0 _ fp) (ab (aa 0) af) (Bq (n:=C) (by rw[fw]; exact t.at_ (by rw[hl]at hi; exact hi)))) (bq (b.comp s0 H0 _ fp) (ab (av (aa 1) ae (aV e0)) af) (Bq (n:=C) (by rw[fw]; exact t.at_ (by omega)))) gN)))) af) (lD b.calm ((ox (M.map rwQ).length).map λ_=>decide ((C:Int)=(C:Int))) (by rw[GO]; rfl))) ?_;rw[xE _ _ λ_ _=>decide_eq_true rfl]
theorem mD (F:Fun K "look_table" qual (top 23) f fd)(hb:∀x∈ah,mg x=none)(c_is_table:Cal P w K mg base k "is_table" ie):aH P w K mg base CX0 (k+1) f fd ["thing"] (spD K eZ):=by refine fnD F mQ hb (by rintro _ _ ⟨_,_,_,rfl,_⟩; rfl) ?_;rintro _ _ ⟨R,C,M,rfl,t,rfl⟩ cdv A outer s H E b;exact bE (a5 (a6 (x_call b c_is_table (ab (aa 0) af) ⟨R,C,M,rfl,t,rfl⟩))) rfl (aK rfl)
end
noncomputable def scS (s:Int)(q:Rat):Int:=s/(GG s (q.den:Nat):Int)*(q.den:Nat)
noncomputable def scL (r:List Rat):Int:=r.foldl scS 1
theorem yf {s:Int}(hs:0<s)(q:Rat):0<scS s q/\s∣scS s q/\((q.den:Nat):Int)∣scS s q:=by
 have hq:=den_pos q;have g0:0<(GG s (q.den:Nat):Int):=by have:=jC (i:=s) (j:=(q.den:Nat)) (by omega);have:=Ir (GG s (q.den:Nat));omega
 have d1:(GG s (q.den:Nat):Int)∣s:=IJ ..;have d2:(GG s (q.den:Nat):Int)∣((q.den:Nat):Int):=HR ..;have p1:0<s/(GG s (q.den:Nat):Int):=Int.ediv_pos_of_pos_of_dvd hs (by omega) d1;refine⟨Jf p1 hq,?_,Int.dvd_mul_left ..⟩;obtain⟨k,hk⟩:=d2;refine⟨k,?_⟩;unfold scS;conv=>lhs; rhs; rw[hk]
 rw[<- J1,Int.ediv_mul_cancel d1]
theorem rh (r:List Rat)(q:Rat):scL (r++[q])=scS (scL r) q:=by unfold scL; rw[Hm]; rfl
theorem uc:∀(r:List Rat) (s:Int),0<s->0<r.foldl scS s/\s∣r.foldl scS s/\∀q∈r,((q.den:Nat):Int)∣r.foldl scS s
 | [],s,h=>⟨h,Int.dvd_refl _,λ_ z=>nomatch z⟩
 | q::r,s,h=>by obtain⟨a1,a2,a3⟩:=yf h q;obtain⟨b1,b2,b3⟩:=uc r _ a1;exact⟨b1,Jt a2 b2,λx hx=>(xb.mp hx).elim (λe=>by rw[e]; exact Jt a3 b2) (b3 x)⟩
theorem tY (r:List Rat):0<scL r/\∀q∈r,((q.den:Nat):Int)∣scL r:=⟨(uc r 1 (by decide)).1,(uc r 1 (by decide)).2.2⟩
theorem zx {d:Nat}:∀(r:List Rat) (s:Int) (n:Nat),Bd n s->(∀q∈r,Bd d (q.den:Nat))->Bd (n+r.length*d) (r.foldl scS s)
 | [],s,n,h,_=>by simpa using h
 | q::r,s,n,h,hd=>by
   have h1:Bd (n+d) (scS s q):=(h.ediv _).mul (hd q (rp ..));have:=zx r _ _ h1 λx hx=>hd x (pq _ hx);rw[GK,Ij]
   rwa [show n+d+r.length*d=n+(r.length*d+d) by omega]at this
theorem lx {d:Nat}{r:List Rat}(h:∀q∈r,Bd d (q.den:Nat)):Bd (1+r.length*d) (scL r):=zx r 1 1 (by unfold Bd; decide) h
def iq (ds:List D)(r:Sl):Prop:=∃(q:List Rat) (d:Nat),ds=[rwQ q]/\q.length<=1000/\(∀x∈q,Bd d (x.den:Nat))/\1+q.length*d<=8999/\d<=8999/\r=.d (.int (scL q))
noncomputable def whR (r:List Rat)(s:Int):List Int:=r.map λq=>q.num*(s/(q.den:Nat))
theorem Ga {q:Rat}{s:Int}(h:((q.den:Nat):Int)∣s):((q.num*(s/(q.den:Nat)):Int):Rat)=q*(s:Rat):=by obtain⟨k,rfl⟩:=h;have:=den_pos q;rw[LG _ (by omega),GJ,GJ,<- KG,fu]
def gk (ds:List D)(r:Sl):Prop:=∃(q:List Rat) (s:Int) (n:Nat),ds=[rwQ q,.int s]/\q.length<=1000/\(∀x∈q,Sq n x)/\n<=8999/\Bd 8999 s/\r=.o ((whR q s).map .int)
noncomputable def whM (M:List (List Rat))(ss:List Int):List (List Int):=(ox M.length).map λi=>whR (M.getD i []) (ss.getD i 0)
theorem Cn {α β:Type}{f:α->D}{g:β->D}{xs:List α}{ys:List β}(d:α)(e:β)(i:Nat)(h:i<(fX (xs.map f) (ys.map g)).length):(fX (xs.map f) (ys.map g))[i]=.tup [f (xs.getD i d),g (ys.getD i e)]:=by
 rw[b7,fw,fw]at h;have h1:i<xs.length:=by omega
 have h2:i<ys.length:=by omega
 simp[fX,h1,h2]
def fb (ds:List D)(r:Sl):Prop:=∃(M:List (List Rat)) (ss:List Int) (n:Nat),ds=[tbQ M,.lst (ss.map .int)]/\M.length=ss.length/\M.length<=1000/\(∀r∈M,r.length<=1000/\∀x∈r,Sq n x)/\n<=8999/\(∀s∈ss,Bd 8999 s)/\r=.o ((whM M ss).map dtR)
noncomputable def tpD (c:List Int):D:=.tup (c.map .int)
noncomputable def oG (cs:List (List Int)):D:=.lst (cs.map tpD)
noncomputable def gR (c:List Int):Int:=c.getD (c.length-1) 0
noncomputable def lea (t:Nat)(c:List Int):Int:=if 0<t then gR c+1 else 0
noncomputable def onC (n t:Nat)(c:List Int):List (List Int):=(ox ((n:Int)-lea t c).toNat).map λk=>c++[lea t c+(k:Nat)]
noncomputable def chs (n:Nat):Nat->List (List Int)
 | 0=>[[]]
 | t+1=>(chs n t).flatMap (onC n t)
structure Chs (n t:Nat)(c:List Int):Prop where
 len:c.length=t
 at_:∀i,i<t->0<=c.getD i 0/\c.getD i 0<n
theorem yH {c:List Int}{x:Int}{i:Nat}:(c++[x]).getD i 0=if i<c.length then c.getD i 0 else if i=c.length then x else 0:=by
 by_cases h:i<c.length
 . rw[if_pos h]; simp[JN,Gw h]
 . rw[if_neg h];by_cases e:i=c.length
   . subst e; simp
   . rw[if_neg e];simp[JN];rw[Iy (by simp; omega)];rfl
theorem sD {n t:Nat}{c:List Int}(h:Chs n t c):0<=lea t c/\lea t c<=n:=by
 unfold lea;by_cases ht:0<t
 . have:=h.at_ (t-1) (by omega);rw[if_pos ht,gR,h.len];omega
 . rw[if_neg ht]; omega
theorem eW (n:Nat):∀t,∀c∈chs n t,Chs n t c
 | 0,c,h=>by rw[chs,ib]at h;subst h;exact⟨rfl,λi hi=>absurd hi (by omega)⟩
 | t+1,c,h=>by
   rw[chs,Jn]at h;obtain⟨d,hd,hc⟩:=h;have ih:=eW n t d hd;have hl:=sD ih;unfold onC at hc;obtain⟨k,hk,rfl⟩:=Gy.mp hc;rw[GQ]at hk;refine⟨by rw[vp,ih.len]; rfl,λi hi=>?_⟩;rw[yH,ih.len];by_cases e:i<t
   . rw[if_pos e]; exact ih.at_ i e
   . rw[if_neg e,if_pos (by omega)]; omega
theorem ot {n t:Nat}{c:List Int}(h:Chs n t c):(onC n t c).length<=n:=by have:=sD h;simp[onC];omega
theorem gr {α β:Type}(f:α->List β)(m:Nat):∀xs:List α,(∀x∈xs,(f x).length<=m)->(xs.flatMap f).length<=xs.length*m
 | [],_=>by simp
 | x::xs,h=>by rw[List.flatMap_cons,vp,GK,Ij];have:=h x (rp ..);have:=gr f m xs λy hy=>h y (pq _ hy);omega
theorem uW {n:Nat}(hn:n<=7):∀t,(chs n t).length<=7^t
 | 0=>by simp[chs]
 | t+1=>by rw[chs];have:=gr (onC n t) 7 (chs n t) λc hc=>GB (ot (eW n t c hc)) hn;have:=uW hn t;rw[Kj];omega
def fg (ds:List D)(r:Sl):Prop:=∃n t:Nat,ds=[.int n,.int t]/\n<=7/\t<=7/\r=.d (oG (chs n t))
theorem A3 {cs:List (List Int)}(i:Nat)(h:i<(cs.map tpD).length):(cs.map tpD)[i]=tpD (cs.getD i []):=by
 have:i<cs.length:=by simpa using h
 simp[this]
theorem bI {α:Type}{xs:List α}{i:Nat}{d:α}(h:i<xs.length):xs.getD i d∈xs:=by simp[h]
theorem vi {c:List Int}(h:c≠[]):atI (c.map D.int) (-1)=some (.int (gR c)):=by
 have hl:0<c.length:=Jw.mpr h;unfold atI ixN gR;rw[if_neg (by decide),if_pos (by rw[fw]; omega),fw];simp only[Option.bind_some];have e:(-1+(c.length:Int)).toNat=c.length-1:=by omega
 rw[e];simp[(by omega:c.length-1<c.length)]
section
variable {P:Program}{w:World}{K:gV}{mg:Str->Option Value}{base:Heap}{k:Nat}{f:Addr}{fd:FuncData}{qual:Str}
theorem rV (F:Fun K "scale_of" qual (top 28) f fd)(hb:∀x∈ah,mg x=none)(c_common_divisor:Cal P w K mg base k "common_divisor" aW):aH P w K mg base CX0 (k+1) f fd ["row"] (spD K iq):=by
 refine fnD F jW hb (by rintro _ _ ⟨_,_,rfl,_⟩; rfl) ?_;rintro _ _ ⟨q,d,rfl,hl,hd,hb1,hd1,rfl⟩ cdv A outer s H E b;have nd:=jW.nd;refine aA 1 nd ae ?_;refine bK 2 (g:=λi=>frD (q.getD i 0)) (λi τ=>i<=q.length/\∃s2,τ=[.d (rwQ q),.d (.int (scL (q.take i))),s2]) b nd (a9 (aa 0)) (fI (f:=frD) (xs:=q) 0) ⟨G5 _,.un,rfl⟩ (λi hi τ h=>?_) λτ h=>?_
 . obtain⟨_,s2,rfl⟩:=h;have hi:i<q.length:=by simpa using hi
   have mm:=fN (d:=(0:Rat)) hi;have hs:=(tY (q.take i)).1
   have bs:Bd (1+q.length*d) (scL (q.take i)):=(lx λx hx=>hd x (ID hx)).mono (by
     have:(q.take i).length*d<=q.length*d:=G2 _ (by rw[GZ]; omega);omega)
   have et:q.take (i+1)=q.take i++[q.getD i 0]:=by rw[Lq,ph hi]; simp[hi]
   rw[et,rh];generalize scL (q.take i)=sc at hs bs ⊢;generalize q.getD i 0=x at mm ⊢;have hx:=den_pos x;have dv:aE (GG sc (x.den:Nat):Int):=((hd x mm).gcd (by omega)).aE (jC (by omega)) (by omega);refine aA 1 nd (aB (aB (aa 1) (x_call b c_common_divisor (ab (aa 1) (ab (av (aa 2) ae (aq (ai (i:=1) rfl))) af)) ⟨_,_,rfl,rfl⟩) (bg dv)) (av (aa 2) ae (aq (ai (i:=1) rfl))) (bf ?_)) (aK ⟨hi,.d (frD x),?_⟩)
   . rw[cU]; exact(bs.ediv _).aJ (hd x mm) (by omega) (by omega)
   . rw[cU]; rfl
 . obtain⟨_,s2,rfl⟩:=h;rw[fw,K2];exact aL (aa 1) rfl
theorem pL (F:Fun K "whole_row" qual (top 29) f fd)(hb:∀x∈ah,mg x=none):aH P w K mg base CX0 (k+1) f fd ["row","scale"] (spD K gk):=by
 refine fnD F pQ hb (by rintro _ _ ⟨_,_,_,rfl,_⟩; rfl) ?_;rintro _ _ ⟨q,s0,n,rfl,hl,hq,hn,hs,rfl⟩ cdv A outer s H E b;refine aL (cR (cmp 0 (f:=λi=>.int ((q.getD i 0).num*(s0.fdiv ((q.getD i 0).den:Nat)))) b (a9 (aa 0)) (fI (f:=frD) (xs:=q) 0) (by rw[fw]; omega) λi hi s1 H0 fp=>?_)) ?_
 . have sq:=hq _ (fN (d:=(0:Rat)) (by simpa using hi));generalize q.getD i 0=x at sq ⊢;have hx:=den_pos x;have e:s0.fdiv (x.den:Nat)=s0/(x.den:Nat):=Hn _ (by omega);exact aB (av (aa 0) ae (aq (ai (i:=0) rfl))) (aB (aa 1) (av (aa 0) ae (aq (ai (i:=1) rfl))) (bg (sq.den.aE (by omega) (by omega)))) (bf (by rw[e]; exact sq.num.aJ (hs.ediv _) (by omega) (by omega)))
 . refine congrArg Sl.o ((pO (λx:Rat=>D.int (x.num*(s0.fdiv (x.den:Nat)))) q 0 (fw ..)).trans ?_);unfold whR;rw[GO];refine GY λx _=>?_;simp only[Jk];rw[Hn _ (by have:=den_pos x; omega)]
theorem mx (F:Fun K "whole_rows" qual (top 30) f fd)(hb:∀x∈ah,mg x=none)(c_whole_row:Cal P w K mg base k "whole_row" gk):aH P w K mg base CX0 (k+1) f fd ["table","scales"] (spD K fb):=by
 refine fnD F mn hb (by rintro _ _ ⟨_,_,_,rfl,_⟩; rfl) ?_;rintro _ _ ⟨M,ss,n,rfl,hl,h1,hM,hn,hs,rfl⟩ cdv A outer s H E b;have zl:(fX (M.map rwQ) (ss.map D.int)).length=M.length:=by rw[b7,fw,fw]; omega
 refine aL (cR (zJ 0 1 (g:=λi=>rwQ (M.getD i [])) (g':=λi=>.int (ss.getD i 0)) (f:=λi=>dtR (whR (M.getD i []) (ss.getD i 0))) b (u5 b (aa 0) (aa 1)) (Cn [] 0) (by rw[zl]; omega) λi hi s0 H0 fp=>?_)) ?_
 . rw[zl]at hi;obtain⟨g1,g2⟩:=hM _ (fN (d:=[]) hi);exact a7 (x_call (b.comp s0 H0 _ fp) c_whole_row (ab (aa 0) (ab (aa 1) af)) ⟨_,_,n,rfl,g1,g2,hn,hs _ (fN (by omega)),rfl⟩)
 . unfold whM;rw[zl,GO];rfl
theorem mI (F:Fun K "choices_of" qual (top 24) f fd)(hb:∀x∈ah,mg x=none):aH P w K mg base CX0 (k+1) f fd ["many","size"] (spD K fg):=by
 refine fnD F hX hb (by rintro _ _ ⟨_,_,rfl,_⟩; rfl) ?_;rintro _ _ ⟨n,t,rfl,hn,ht,rfl⟩ cdv A outer s H E b;have nd:=hX.nd;refine aA 2 nd (a7 (bY (ab (bz af) af))) ?_;refine bK 3 (λi τ=>∃s3 s4 s5 s6,τ=[.d (.int n),.d (.int t),.d (oG (chs n i)),s3,s4,s5,s6]) b nd (fK b (aa 1) (by omega) (by omega)) fL ⟨.un,.un,.un,.un,rfl⟩ (λi hi τ h=>?_) λτ h=>?_
 . obtain⟨s3,s4,s5,s6,rfl⟩:=h;have hi:i<t:=by rw[aN]at hi; omega
   have l1:=uW hn i;have l2:7^i<=7^6:=Hg (by decide) (by omega);refine aA 4 nd (bY af) ?_;refine bK 5 (g:=λl=>tpD ((chs n i).getD l [])) (λl τ=>∃s5 s6,τ=[.d (.int n),.d (.int t),.d (oG (chs n i)),.d (.int (i:Nat)),.o ((((chs n i).take l).flatMap (onC n i)).map tpD),s5,s6]) b nd (a9 (aa 2)) A3 ⟨s5,s6,rfl⟩ (λl hl τ h=>?_) λτ h=>?_
   . obtain⟨s5,s6,rfl⟩:=h;have hl:l<(chs n i).length:=by simpa using hl
     have ok:=eW n i _ (bI (d:=[]) hl);have hle:=sD ok;have len1:=gr (onC n i) 7 ((chs n i).take l) λc hc=>GB (ot (eW n i c (ID hc))) hn;rw[GZ]at len1;have len2:=ot ok;refine aA 6 nd (qo (s:=.d (.int (lea i ((chs n i).getD l [])))) (aX (aa 3) ae qQ) (λh=>?_) λh=>?_) ?_
     . have h:=of_decide_eq_true h;have h0:0<i:=by omega
       rw[show lea i ((chs n i).getD l [])=gR ((chs n i).getD l [])+1 from if_pos h0];exact aB (av (aa 5) (vH ae) (aq (vi λz=>by have:=ok.len; rw[z]at this; simp at this; omega))) ae bp
     . have h:=of_decide_eq_false h;rw[show lea i ((chs n i).getD l [])=0 from if_neg (by omega)];exact ae
     refine ED 4 (cR (cmp 0 (f:=λk=>tpD (((chs n i).getD l [])++[lea i ((chs n i).getD l [])+(k:Nat)])) b (xA b (aa 6) (aa 0) ⟨by omega,by omega,by omega,by omega⟩) (λk hk=>kB _ _ k hk) (by rw[aN]; omega) λk hk s0 H0 fp=>?_)) ?_ (aK ⟨.d (tpD ((chs n i).getD l [])),.d (.int (lea i ((chs n i).getD l []))),?_⟩)
     . have e:tpD (((chs n i).getD l [])++[lea i ((chs n i).getD l [])+(k:Nat)])=.tup ((((chs n i).getD l []).map D.int)++[.int (lea i ((chs n i).getD l [])+(k:Nat))]):=by unfold tpD; rw[GN]; rfl
       rw[e];exact aB (aa 1) (bz (ab (aa 0) af)) (om (by rw[fw,ok.len]; show _+1<_; omega))
     . rw[fw,fw,Hd,aN]; omega
     . rw[take_snoc [] hl,Ko,GN,aN];show [_,_,_,_,Sl.o (_++(ox ((n:Int)-lea i ((chs n i).getD l [])).toNat).map _),_,_]=_;simp[onC]
   . obtain⟨s5,s6,rfl⟩:=h;refine jE 4 (aA 2 nd (aa 4) (aK ⟨.d (.int (i:Nat)),.d (oG (chs n (i+1))),s5,s6,?_⟩));rw[fw,Gx (ia _)];rfl
 . obtain⟨s3,s4,s5,s6,rfl⟩:=h;refine aL (aa 2) ?_;rw[aN,GC]
end
noncomputable abbrev kT:Ev.KD (List Int):=Ev.Cy Ev.EI
noncomputable abbrev kTT:Ev.KD (List Int×List Int):=Ev.B1 kT kT
theorem hdT:kT.dep<=7:=by show 1<=7; decide
theorem mH:kTT.dep<=7:=by show 2<=7; decide
theorem cw {F:gV}(c:List Int)(H:Hp)(v:V)(h:Den F H v (kT.toD c)):∃b,v=.ref b:=by
 generalize e:kT.toD c=x at h;cases h with
 | tup=>exact⟨_,rfl⟩
 | _=>cases e
theorem uV {F:gV}(c:List Int×List Int)(H:Hp)(v:V)(h:Den F H v (kTT.toD c)):∃b,v=.ref b:=by
 generalize e:kTT.toD c=x at h;cases h with
 | tup=>exact⟨_,rfl⟩
 | _=>cases e
section
variable {κ:Type}[DecidableEq κ]
theorem jt (p:κ×D)(m:List (κ×D))(k:κ):getM (p::m) k=if p.1=k then some p.2 else getM m k:=by
 unfold getM;rw[HU];by_cases e:p.1=k
 . simp[e]
 . simp[e]
theorem ng (k k':κ)(x:D):∀m:List (κ×D),getM (m.map λy=>if y.1=k then (y.1,x) else y) k'=if k=k'/\(getM m k).isSome then some x else getM m k'
 | []=>by simp[getM]
 | p::m=>by
   rw[GP,jt,ng k k' x m,jt,jt];by_cases e:p.1=k
   . rw[if_pos e,if_pos e];by_cases e':k=k'
     . simp[e,e']
     . simp[e,e']
   . rw[if_neg e,if_neg e];by_cases e':p.1=k'
     . simp[e',show ¬k=k' from λz=>e (e'.trans z.symm)]
     . simp[e']
theorem qI (m:List (κ×D))(k k':κ)(x:D):getM (fT m k x) k'=if k=k' then some x else getM m k':=by
 unfold fT;by_cases h:(getM m k).isSome
 . rw[if_pos h,ng];simp[h]
 . rw[if_neg h];have h:getM m k=none:=by simpa using h
   unfold getM at *
   rw[KL];by_cases e:k=k'
   . subst e;have h:m.find? (λx=>decide (x.1=k))=none:=by simpa using h
     rw[h];simp
   . simp[e]
noncomputable def mkM (v:κ->D)(ks:List κ):List (κ×D):=ks.foldl (λm k=>fT m k (v k)) []
theorem iY (v:κ->D)(ks:List κ)(k:κ):mkM v (ks++[k])=fT (mkM v ks) k (v k):=by unfold mkM; rw[Hm]; rfl
theorem m5 (v:κ->D)(k:κ):∀(ks:List κ) (m:List (κ×D)),getM (ks.foldl (λm k=>fT m k (v k)) m) k=if k∈ks then some (v k) else getM m k
 | [],m=>by simp
 | k0::ks,m=>by
   rw[IT,m5 v k ks,qI];by_cases h:k∈ks
   . simp[h]
   . by_cases e:k0=k
     . simp[e]
     . simp[h,e,show ¬k=k0 from λz=>e z.symm]
theorem du {v:κ->D}{ks:List κ}{k:κ}(h:k∈ks):getM (mkM v ks) k=some (v k):=by unfold mkM; rw[m5,if_pos h]
theorem yL (m:List (κ×D))(k:κ)(x:D):(fT m k x).length<=m.length+1:=by unfold fT;split <;> simp
theorem nS (v:κ->D):∀(ks:List κ) (m:List (κ×D)),(ks.foldl (λm k=>fT m k (v k)) m).length<=m.length+ks.length
 | [],m=>by simp
 | k::ks,m=>by rw[IT];have:=nS v ks (fT m k (v k));have:=yL m k (v k);rw[GK];omega
theorem gE (v:κ->D)(ks:List κ):(mkM v ks).length<=ks.length:=by unfold mkM; simpa using nS v ks []
theorem zu {m:List (κ×D)}{k:κ}{x:D}{p:κ×D}(h:p∈fT m k x):p=(k,x)\/p∈m:=by
 unfold fT at h;split at h
 . obtain⟨q,hq,e⟩:=Gy.mp h;by_cases z:q.1=k
   . rw[if_pos z]at e; exact .inl (by rw[<- e,z])
   . rw[if_neg z]at e; exact .inr (e▸hq)
 . rcases Gv.mp h with h | h
   . exact .inr h
   . exact .inl (ib.mp h)
theorem nN (v:κ->D){p:κ×D}:∀(ks:List κ) (m:List (κ×D)),p∈ks.foldl (λm k=>fT m k (v k)) m->(p.1∈ks/\p.2=v p.1)\/p∈m
 | [],m,h=>.inr h
 | k::ks,m,h=>by
   rw[IT]at h;rcases nN v ks _ h with ⟨h1,h2⟩ | h
   . exact .inl ⟨pq _ h1,h2⟩
   . rcases zu h with e | h
     . exact .inl (by rw[e]; exact⟨rp ..,rfl⟩)
     . exact .inr h
theorem gH {v:κ->D}{ks:List κ}{p:κ×D}(h:p∈mkM v ks):p.1∈ks/\p.2=v p.1:=(nN v ks [] h).elim id λz=>nomatch z
theorem qp {m:List (κ×D)}{k:κ}{x:D}(h:getM m k=some x):(k,x)∈m:=by
 unfold getM at h;obtain⟨p,h1,h2⟩:=IX.mp h;have e:p.1=k:=by have:=List.find?_some h1; simpa using this
 rw[<- h2,<- e];exact IF h1
end
noncomputable def ers (c:List Int)(k:Nat):List Int:=c.take k++c.drop (k+1)
noncomputable def alP (f:List Int->Int)(row c:List Int)(k:Nat):Int:=row.getD (c.getD k 0).toNat 0*f (ers c k)
noncomputable def alS (f:List Int->Int)(row c:List Int):Nat->Int
 | 0=>0
 | k+1=>if Int.fmod ((c.length:Int)-(k:Nat)) 2=0 then alS f row c k-alP f row c k else alS f row c k+alP f row c k
noncomputable def alR (f:List Int->Int)(row c:List Int):Int:=alS f row c c.length
theorem Fo (c:List Int)(k:Nat):kT.toD (ers c k)=.tup (Hy.cutD (c.map D.int) none (some (k:Int))++Hy.cutD (c.map D.int) (some ((k:Int)+1)) none):=by
 rw[show ((k:Int)+1)=((k+1:Nat):Int) from rfl,ig]
 have e:Hy.cutD (c.map D.int) (some ((k+1:Nat):Int)) none=(c.map D.int).drop (k+1):=by
   unfold Hy.cutD;rw[HT.gJ,HT.kI];rcases Kk (k+1) (c.map D.int).length with h | h
   . rw[IY h,Gx (by rw[J0]; exact ia _)]
   . rw[Jq h,LO (ia _),LO h,List.take_nil]
 rw[e];show D.tup ((ers c k).map D.int)=_;unfold ers;rw[GN,Ik,JS]
def cv (P:Program)(w:World)(ds:List D)(r:Sl):Prop:=∃(m:List (List Int×D)) (f:List Int->Int) (row c:List Int) (n p:Nat),ds=[bxD kT hdT P w m,dtR row,tpD c]/\c.length<=7/\(∀k,k<c.length->0<=c.getD k 0/\c.getD k 0<row.length)/\(∀k,k<c.length->getM m (ers c k)=some (.int (f (ers c k)))/\Bd p (f (ers c k)))/\(∀x∈row,Bd n x)/\n<=10000/\p<=10000/\r=.d (.int (alR f row c))
section
variable {P:Program}{w:World}{K:gV}{mg:Str->Option Value}{base:Heap}{k:Nat}{f:Addr}{fd:FuncData}{qual:Str}
theorem iS (F:Fun K "along_last_row" qual (top 35) f fd)(hb:∀x∈ah,mg x=none):aH P w K mg base CX0 (k+1) f fd ["known","row","columns"] (spD K (cv P w)):=by
 refine fnD F dr hb (by rintro _ _ ⟨_,_,_,_,_,_,rfl,_⟩; rfl) ?_;rintro _ _ ⟨m,g,row,c,n,p,rfl,h7,hc,hg,hr,hn,hp,rfl⟩ cdv A outer s H E b;have nd:=dr.nd;have hu:(Xc P w K mg base ["known","row","columns","total","k","part"] qual (top 35) f cdv A outer s H E).A.units+16<cLine:=GX (HW (by decide:16<=64) _) b.room.units;have lc:(c.map D.int).length=c.length:=fw ..;refine aA 3 nd ae ?_;refine bK 4 (λi τ=>i<=c.length/\∃s4 s5,τ=[.d (bxD kT hdT P w m),.d (dtR row),.d (tpD c),.d (.int (alS g row c i)),s4,s5]) b nd (fK b (bq b (ab (aa 2) af) fA) (by omega) (by omega)) fL ⟨G5 _,.un,.un,rfl⟩ (λi hi τ h=>?_) λτ h=>?_
 . obtain⟨_,s4,s5,rfl⟩:=h;have hi:i<c.length:=by rw[aN,lc]at hi; omega
   obtain⟨c1,c2⟩:=hc i hi;obtain⟨g1,g2⟩:=hg i hi;have ht:(c.getD i 0).toNat<row.length:=by omega
   refine aA 5 nd (aB (av (aa 1) (av (aa 2) (aa 4) (aq (atR hi))) (aV (bB c1 ht))) (tu (a:=kT) (hd:=hdT) (m:=m) (key:=ers c i) hu (aa 0) (by
     rw[Fo]
     exact aB (rg (aa 2) dH (cL (aa 4)) (by rw[HT.gJ,lc]; omega)) (rg (aa 2) (cL (aB (aa 4) ae bp)) dH (by rw[show ((i:Int)+1)=((i+1:Nat):Int) from rfl,HT.gJ,lc]; omega)) (om (by
       have l1:∀l u,(Hy.cutD (c.map D.int) l u).length<=7:=λl u=>by unfold Hy.cutD; rw[GZ,J0,lc]; omega
       have:=l1 none (some (i:Int));have:=l1 (some ((i:Int)+1)) none;omega))) g1 (cw _) xU) (bf ((hr _ (bI ht)).aJ g2 (by omega) (by omega)))) ?_
   refine aA 3 nd (qo (s:=.d (.int (alS g row c (i+1)))) (aX (aB (aB (bq b (ab (aa 2) af) fA) (aa 4) hU) ae (bP (by decide))) ae gN) (λh=>?_) λh=>?_) (aK ⟨hi,_,_,rfl⟩)
   . have h:=of_decide_eq_true h;rw[lc]at h;rw[alS,if_pos h];exact aB (aa 3) (aa 5) hU
   . have h:=of_decide_eq_false h;rw[lc]at h;rw[alS,if_neg h];exact aB (aa 3) (aa 5) bp
 . obtain⟨_,s4,s5,rfl⟩:=h;refine aL (aa 3) ?_;rw[aN,lc,GC];rfl
end
noncomputable def orM (f:List Int->Int)(row:List Int)(cs:List (List Int)):List (List Int×D):=mkM (λc=>D.int (alR f row c)) cs
def cZ (P:Program)(w:World)(ds:List D)(r:Sl):Prop:=∃(m:List (List Int×D)) (f:List Int->Int) (row:List Int) (cs:List (List Int)) (n p:Nat),ds=[bxD kT hdT P w m,dtR row,oG cs]/\cs.length<=100000/\(∀c∈cs,c.length<=7/\(∀k,k<c.length->0<=c.getD k 0/\c.getD k 0<row.length)/\(∀k,k<c.length->getM m (ers c k)=some (.int (f (ers c k)))/\Bd p (f (ers c k))))/\(∀x∈row,Bd n x)/\n<=10000/\p<=10000/\r=.d (bxD kT hdT P w (orM f row cs))
section
variable {P:Program}{w:World}{K:gV}{mg:Str->Option Value}{base:Heap}{k:Nat}{f:Addr}{fd:FuncData}{qual:Str}
theorem kb (F:Fun K "one_row_more" qual (top 34) f fd)(hb:∀x∈ah,mg x=none)(c_along_last_row:Cal P w K mg base k "along_last_row" (cv P w)):aH P w K mg base CX0 (k+1) f fd ["known","row","column_choices"] (spD K (cZ P w)):=by
 refine fnD F fM hb (by rintro _ _ ⟨_,_,_,_,_,_,rfl,_⟩; rfl) ?_;rintro _ _ ⟨m,g,row,cs,n,p,rfl,h1,hc,hr,hn,hp,rfl⟩ cdv A outer s H E b;have nd:=fM.nd;have hu:(Xc P w K mg base ["known","row","column_choices","found","columns"] qual (top 34) f cdv A outer s H E).A.units+16<cLine:=GX (HW (by decide:16<=64) _) b.room.units;refine aA 3 nd (sR (a:=kT) (hd:=hdT)) ?_;refine bK 4 (g:=λi=>tpD (cs.getD i [])) (λi τ=>∃s4,τ=[.d (bxD kT hdT P w m),.d (dtR row),.d (oG cs),.x (exK kT hdT P w (orM g row (cs.take i))),s4]) b nd (a9 (aa 2)) A3 ⟨.un,rfl⟩ (λi hi τ h=>?_) λτ h=>?_
 . obtain⟨s4,rfl⟩:=h;have hi:i<cs.length:=by simpa using hi
   obtain⟨c1,c2,c3⟩:=hc _ (bI (d:=[]) hi);have ln:=gE (λc=>D.int (alR g row c)) (cs.take i);rw[GZ]at ln;refine pD 3 (a:=kT) (hd:=hdT) (key:=cs.getD i []) (x:=.int (alR g row (cs.getD i []))) hu rfl (aa 4) (x_call b c_along_last_row (ab (aa 0) (ab (aa 1) (ab (aa 4) af))) ⟨m,g,row,_,n,p,rfl,c1,c2,c3,hr,hn,hp,rfl⟩) (GB ln (by unfold sizeLine; omega)) (cw _) (aK ⟨.d (tpD (cs.getD i [])),?_⟩);rw[take_snoc [] hi];unfold orM;rw[iY];rfl
 . obtain⟨s4,rfl⟩:=h;refine Br 3 (a:=kT) (hd:=hdT) (aL (aa 3) ?_);rw[fw,Gx (ia _)];rfl
end
theorem B5:∀n,n<8->∀t,t<7->((chs n (t+1)).all λc=>(chs n t).contains (c.take t)&&(ox (t+1)).all λk=>(chs n t).contains (ers c k))=true:=by decide +kernel
theorem n8:∀n,n<8->∀t,t<8->(chs n t).length<=35:=by decide +kernel
theorem oz {n t:Nat}{c:List Int}(hn:n<=7)(ht:t<7)(h:c∈chs n (t+1)):c.take t∈chs n t/\∀k,k<t+1->ers c k∈chs n t:=by have:=Hb.mp (B5 n (by omega) t ht) c h;rw[Hc]at this;obtain⟨h1,h2⟩:=this;refine⟨by simpa using h1,λk hk=>?_⟩;have:=Hb.mp h2 k (GQ.mpr hk);simpa using this
noncomputable def dtm (R:List (List Int)):Nat->List Int->List Int->Int
 | 0,_,_=>1
 | t+1,ls,c=>alR (dtm R t (ls.take t)) (R.getD (gR ls).toNat []) c
structure Rw (m n b:Nat)(R:List (List Int)):Prop where
 len:R.length=m
 row:∀r∈R,r.length=n/\∀x∈r,Bd b x
 m1:1<=m/\m<=7
 n1:1<=n/\n<=7
 b1:b<=1400
theorem yc {f:List Int->Int}{row c:List Int}{N:Nat}:∀k,(∀i,i<k->(alP f row c i).natAbs<=N)->(alS f row c k).natAbs<=k*N
 | 0,_=>by simp[alS]
 | k+1,h=>by have ih:=yc k λi hi=>h i (by omega);have h1:=h k (by omega);rw[alS,Ij];split <;> omega
theorem Cb {f:List Int->Int}{row c:List Int}{n p:Nat}(h7:c.length<=7)(hr:∀x∈row,Bd n x)(hf:∀k,k<c.length->Bd p (f (ers c k))):Bd (n+p+3) (alR f row c):=by
 have h:=yc (f:=f) (row:=row) (c:=c) (N:=2^(n+p)) c.length λi hi=>by
   have h1:Bd n (row.getD (c.getD i 0).toNat 0):=by
     by_cases h:(c.getD i 0).toNat<row.length
     . exact hr _ (bI h)
     . rw[getD_none (by omega)];exact Hv n
   exact Ia (h1.mul (hf i hi))
 unfold Bd alR;have e:2^(n+p+3)=8*2^(n+p):=by rw[Lk]; omega
 have p0:=Hv (n+p);have:c.length*2^(n+p)<=7*2^(n+p):=G2 _ h7;omega
theorem w5 {m n b:Nat}{R:List (List Int)}(h:Rw m n b R):∀t,t<=7->∀ls c,c∈chs n t->Bd (1+t*(b+3)) (dtm R t ls c)
 | 0,_,_,_,_=>by unfold Bd dtm; rw[Nat.zero_mul]; decide
 | t+1,ht,ls,c,hc=>by
   have l:=(eW n _ c hc).len
   have:=Cb (f:=dtm R t (ls.take t)) (row:=R.getD (gR ls).toNat []) (c:=c) (n:=b) (p:=1+t*(b+3)) (by omega) (λx hx=>by
     by_cases hl:(gR ls).toNat<R.length
     . exact(h.row _ (bI hl)).2 x hx
     . rw[getD_none (by omega)]at hx;cases hx) λk hk=>w5 h t (by omega) _ _ ((oz h.n1.2 (by omega) hc).2 k (by omega))
   rw[dtm];refine this.mono ?_;rw[Ij];omega
noncomputable def mK (P:Program)(w:World)(R:List (List Int))(n t:Nat)(ls:List Int):D:=bxD kT hdT P w (mkM (λc=>D.int (dtm R t ls c)) (chs n t))
noncomputable def knM (P:Program)(w:World)(R:List (List Int))(m n t:Nat):List (List Int×D):=mkM (mK P w R n t) (chs m t)
noncomputable def ky1 (n t:Nat)(ls:List Int):List (List Int×List Int):=(chs n t).map λc=>(ls,c)
noncomputable def kys (m n i:Nat):List (List Int×List Int):=(ox i).flatMap λt=>(chs m (t+1)).flatMap (ky1 n (t+1))
noncomputable def vD (R:List (List Int))(p:List Int×List Int):Int:=dtm R p.1.length p.1 p.2
noncomputable def fdM (R:List (List Int))(ks:List (List Int×List Int)):List ((List Int×List Int)×D):=mkM (λp=>D.int (vD R p)) ks
theorem yE {n t:Nat}(hn:n<=7)(ht:t<=7):∀ls:List (List Int),ls.length<=35->(ls.flatMap (ky1 n t)).length<=1225:=λls hl=>by
 have:=gr (ky1 n t) 35 ls λx _=>by unfold ky1; rw[fw]; exact n8 n (by omega) t (by omega)
 omega
theorem kys_len {m n i:Nat}(hm:m<=7)(hn:n<=7)(hi:i<=7):(kys m n i).length<=8575:=by have:=gr (λt=>(chs m (t+1)).flatMap (ky1 n (t+1))) 1225 (ox i) λt ht=>yE hn (by have:=GQ.mp ht; omega) _ (n8 m (by omega) _ (by have:=GQ.mp ht; omega));rw[Hd]at this;unfold kys;omega
def bV (P:Program)(w:World)(ds:List D)(r:Sl):Prop:=∃(R:List (List Int)) (m n b:Nat),ds=[.lst (R.map dtR)]/\Rw m n b R/\r=.d (.box (bxW kTT mH P w (fdM R (kys m n (min m n)))))
theorem nY {R:List (List Int)}{i:Int}(h0:0<=i)(h:i.toNat<R.length):atI (R.map dtR) i=some (dtR (R.getD i.toNat [])):=by
 obtain⟨n,rfl⟩:=HJ h0
 exact ai (by
   have h:n<R.length:=h;simp[h])
theorem B8 (c:List Int)(t:Nat)(h:c.length=t+1):D.tup (Hy.cutD (c.map D.int) none (some (-1)))=kT.toD (c.take t):=by
 unfold Hy.cutD;have e:HT.sIx (c.map D.int).length (c.map D.int).length (some (-1))=t:=by unfold HT.sIx;simp only[];rw[if_pos (by decide),fw,h];omega
 rw[e,HT.kI,List.drop_zero,Nat.sub_zero,<- Ik];rfl
theorem kn0 (P:Program)(w:World)(R:List (List Int))(m n:Nat):knM P w R m n 0=[([],bxD kT hdT P w [([],.int 1)])]:=rfl
section
variable {P:Program}{w:World}{K:gV}{mg:Str->Option Value}{base:Heap}{k:Nat}{f:Addr}{fd:FuncData}{qual:Str}
set_option maxHeartbeats 1000000 in
theorem gP (F:Fun K "all_determinants" qual (top 33) f fd)(hb:∀x∈ah,mg x=none)(c_choices_of:Cal P w K mg base k "choices_of" fg)(c_one_row_more:Cal P w K mg base k "one_row_more" (cZ P w)):aH P w K mg base CX0 (k+1) f fd ["rows"] (spD K (bV P w)):=by
 refine fnD F cN hb (by rintro _ _ ⟨_,_,_,_,rfl,_⟩; rfl) ?_;rintro _ _ ⟨R,m,n,b0,rfl,ok,rfl⟩ cdv A outer s H E b;have nd:=cN.nd;have hu:(Xc P w K mg base ["rows","found","known","size","fresh","column_choices","some","columns"] qual (top 33) f cdv A outer s H E).A.units+16<cLine:=GX (HW (by decide:16<=64) _) b.room.units;obtain⟨⟨m1,m7⟩,n1,n7⟩:=And.intro ok.m1 ok.n1;have lR:(R.map dtR).length=m:=by rw[fw,ok.len]
 have r0:(R.getD 0 []).length=n:=(ok.row _ (bI (by rw[ok.len]; omega))).1;have lr0:((R.getD 0 []).map D.int).length=n:=by rw[fw,r0]
 have a0:atI (R.map dtR) 0=some (dtR (R.getD 0 [])):=nY (i:=0) (by decide) (by rw[ok.len]; show 0<m; omega);have hmin:(if ((((R.getD 0 []).map D.int).length:Nat):Int)<((R.map dtR).length:Nat) then ((((R.getD 0 []).map D.int).length:Nat):Int) else ((R.map dtR).length:Nat))=((min m n:Nat):Int):=by rw[lR,lr0];split <;> omega
 refine aA 1 nd (sR (a:=kTT) (hd:=mH)) ?_;generalize e:Expr.Dict [some (Expr.Tuple [] 0 _)] _ _=ex;refine aA 2 nd (s:=.d (bxD kT hdT P w [([],bxD kT hdT P w [([],.int 1)])])) ?_ ?_ (hs:=by subst e; rfl)
 . subst e;generalize e:Expr.Dict [some (Expr.Tuple [] 0 _)] [Expr.Constant _ _ _] _=ex;refine BG (a:=kT) (hd:=hdT) (si (a:=kT) (hd:=hdT) (key:=[]) (x:=bxD kT hdT P w [([],.int 1)]) hu ?_ ?_ (cw []))
   . show PE _ _ (dE _ _ _ (.d (.tup [])));exact bz af
   . subst e;refine BG (a:=kT) (hd:=hdT) (m:=[([],.int 1)]) (si (a:=kT) (hd:=hdT) (key:=[]) (x:=.int 1) hu ?_ ae (cw []));show PE _ _ (dE _ _ _ (.d (.tup [])));exact bz af
 refine bK 3 (g:=λi=>.int (1+(i:Nat))) (λi τ=>i<=min m n/\∃s3 s4 s5 s6 s7,τ=[.d (.lst (R.map dtR)),.x (exK kTT mH P w (fdM R (kys m n i))),.d (bxD kT hdT P w (knM P w R m n i)),s3,s4,s5,s6,s7]) b nd (xA b ae (aB (bq b (ab (bq b (ab (aa 0) af) gf) (ab (bq b (ab (av (aa 0) ae (aV a0)) af) gf) af)) (yy b.calm)) ae bp) (by rw[hmin]; omega)) (λk hk=>kB _ _ k hk) ⟨G5 _,.un,.un,.un,.un,.un,by rw[kn0]; rfl⟩ (λi hi τ h=>?_) λτ h=>?_
 . obtain⟨_,s3,s4,s5,s6,s7,rfl⟩:=h;have hi:i<min m n:=by rw[aN,hmin]at hi; omega
   have e1:(1+(i:Nat):Int)=((i+1:Nat):Int):=by omega
   rw[e1];refine aA 4 nd (sR (a:=kT) (hd:=hdT)) ?_;refine aA 5 nd (x_call b c_choices_of (ab (bq b (ab (av (aa 0) ae (aV a0)) af) gf) (ab (aa 3) af)) ⟨n,i+1,by rw[lr0],n7,by omega,rfl⟩) ?_;refine bK 6 (g:=λl=>tpD ((chs m (i+1)).getD l [])) (λl τ=>∃s6 s7,τ=[.d (.lst (R.map dtR)),.x (exK kTT mH P w (fdM R (kys m n i++((chs m (i+1)).take l).flatMap (ky1 n (i+1))))),.d (bxD kT hdT P w (knM P w R m n i)),.d (.int ((i+1:Nat):Int)),.x (exK kT hdT P w (mkM (mK P w R n (i+1)) ((chs m (i+1)).take l))),.d (oG (chs n (i+1))),s6,s7]) b nd (a9 (x_call b c_choices_of (ab (bq b (ab (aa 0) af) gf) (ab (aa 3) af)) ⟨m,i+1,by rw[lR],m7,by omega,rfl⟩)) A3 ⟨s6,s7,by simp[mkM]; rfl⟩ (λl hl τ h=>?_) λτ h=>?_
   . obtain⟨s6,s7,rfl⟩:=h;have hl:l<(chs m (i+1)).length:=by simpa using hl
     have hs:=bI (d:=[]) hl;generalize hls:(chs m (i+1)).getD l []=ls at hs;have okl:=eW m _ ls hs;have l35:=n8 m (by omega) (i+1) (by omega);have n35:=n8 n (by omega) (i+1) (by omega);have lf:=gE (mK P w R n (i+1)) ((chs m (i+1)).take l);rw[GZ]at lf;have ne:ls≠[]:=λz=>by have:=okl.len; rw[z]at this; cases this
     have last:0<=gR ls/\gR ls<m:=by have:=okl.at_ i (by omega);unfold gR;rw[okl.len];exact this
     have hlr:(gR ls).toNat<R.length:=by rw[ok.len]; omega
     have hrow:=ok.row _ (bI (d:=[]) hlr);have pre:=(oz m7 (by omega) hs).1;have key:kT.toD (ls.take i)=D.tup (Hy.cutD (ls.map D.int) none (some (-1))):=(B8 ls i okl.len).symm
     refine pD 4 (a:=kT) (hd:=hdT) (key:=ls) (x:=mK P w R n (i+1) ls) hu rfl (aa 6) (x_call b c_one_row_more (ab (tu (a:=kT) (hd:=hdT) (m:=knM P w R m n i) (key:=ls.take i) (x:=mK P w R n i (ls.take i)) hu (aa 2) (by
       rw[key];refine rg (aa 6) dH (cL (vH ae)) ?_;rintro⟨_,z⟩;have e:HT.sIx (ls.map D.int).length (ls.map D.int).length (some (-1))=i:=by unfold HT.sIx;simp only[];rw[if_pos (by decide),fw,okl.len];omega
       rw[e,fw,okl.len]at z;omega) (du pre) (cw _) λ_ _=>rfl) (ab (av (aa 0) (av (aa 6) (vH ae) (aq (vi ne))) (aV (nY last.1 hlr))) (ab (aa 5) af))) ⟨_,dtm R i (ls.take i),_,_,b0,1+i*(b0+3),rfl,by omega,λc hc=>?_,hrow.2,by have:=ok.b1; omega,?_,rfl⟩) (GB lf (by unfold sizeLine; omega)) (cw _) ?_
     . have okc:=eW n _ c hc;refine⟨by rw[okc.len]; omega,λk hk=>?_,λk hk=>?_⟩
       . rw[hrow.1];exact okc.at_ k (by rw[okc.len]at hk; exact hk)
       . have hk:k<i+1:=by rw[okc.len]at hk; exact hk
         have:=(oz n7 (by omega) hc).2 k hk;exact⟨du this,w5 ok i (by omega) _ _ this⟩
     . have:=ok.b1;have:i*(b0+3)<=6*(b0+3):=G2 _ (by omega);omega
     have kl:=kys_len (i:=i) m7 n7 (by omega);have kk:=yE (t:=i+1) n7 (by omega) ((chs m (i+1)).take l) (by rw[GZ]; omega);refine bK 7 (g:=λj=>tpD ((chs n (i+1)).getD j [])) (λj τ=>∃s7,τ=[.d (.lst (R.map dtR)),.x (exK kTT mH P w (fdM R (kys m n i++((chs m (i+1)).take l).flatMap (ky1 n (i+1))++((chs n (i+1)).take j).map λc=>(ls,c)))),.d (bxD kT hdT P w (knM P w R m n i)),.d (.int ((i+1:Nat):Int)),.x (exK kT hdT P w (fT (mkM (mK P w R n (i+1)) ((chs m (i+1)).take l)) ls (mK P w R n (i+1) ls))),.d (oG (chs n (i+1))),.d (tpD ls),s7]) b nd (a9 (aa 5)) A3 ⟨s7,by simp; rfl⟩ (λj hj τ h=>?_) λτ h=>?_
     . obtain⟨s7,rfl⟩:=h;have hj:j<(chs n (i+1)).length:=by simpa using hj
       have hc:=bI (d:=[]) hj;generalize hcs:(chs n (i+1)).getD j []=c at hc;have gF:getM (fT (mkM (mK P w R n (i+1)) ((chs m (i+1)).take l)) ls (mK P w R n (i+1) ls)) ls=some (mK P w R n (i+1) ls):=by rw[qI,if_pos rfl]
       refine pD 1 (a:=kTT) (hd:=mH) (key:=(ls,c)) (x:=.int (vD R (ls,c))) hu rfl (bz (ab (aa 6) (ab (aa 7) af))) (tu (a:=kT) (hd:=hdT) (key:=c) hu (sj 4 (a:=kT) (hd:=hdT) (key:=ls) hu rfl (aa 6) gF (cw _) fD) (aa 7) ?_ (cw _) fD) ?_ (uV _) (aK ⟨.d (tpD c),?_⟩)
       . rw[du hc];show _=some (D.int (dtm R ls.length ls c));rw[okl.len]
       . refine GB (gE _ _) ?_;rw[vp,vp,fw,GZ];unfold sizeLine;omega
       . rw[take_snoc [] hj,hcs,GN,<- Ht];unfold fdM;rw[List.map_singleton,iY];rfl
     . obtain⟨s7,rfl⟩:=h;refine aK ⟨.d (tpD ls),s7,?_⟩;rw[take_snoc [] hl,hls,iY,Ko,fw,Gx (ia _),Ht];simp[ky1]
   . obtain⟨s6,s7,rfl⟩:=h;refine Br 4 (a:=kT) (hd:=hdT) (aA 2 nd (aa 4) (aK ⟨hi,.d (.int ((i+1:Nat):Int)),.d (bxD kT hdT P w (knM P w R m n (i+1))),.d (oG (chs n (i+1))),s6,s7,?_⟩));rw[fw,Gx (ia _)];have e:kys m n (i+1)=kys m n i++(chs m (i+1)).flatMap (ky1 n (i+1)):=by unfold kys; rw[HD,Ko]; simp
     rw[e];rfl
 . obtain⟨_,s3,s4,s5,s6,s7,rfl⟩:=h;refine Bs 1 (a:=kTT) (hd:=mH) (aL (aa 1) ?_);rw[aN,hmin];show Sl.d (.box (bxW kTT mH P w (fdM R (kys m n ((((min m n:Nat):Int)+1)-1).toNat))))=_;rw[Int.add_sub_cancel,GC]
end
end K67
namespace Ev
open PySem PySem.Spec PyProof.Rows L2 PySem.W
section
variable {prog:Program}{w:World}{d:Addr}{o:Obj}{es:Array DictEntry}{ep:Nat}
theorem DJ (h0:(d==sysModules)=false)(hx:o.ExactDict)(hdat:o.data=.dict es ep):KdlSrc prog w "dict" d d es.size (λi v=>∃h:i<es.size,v=es[i].key) (λh=>h.get? d=some o) where
 type:=λs h=>⟨o,h,hx.1⟩
 there:=λh e=>⟨Gr e,Gr e⟩
 keep:=λh h' e k=>k d (.inl rfl) o e
 notList:=by decide
 notTuple:=by decide
 hint:=λA E s Q e q=>kdl_hint_dict ⟨o,e,hx.1⟩ q
 iter:=λA s hh e=>by
   have ne:d≠s.heap.objs.size:=GR (Gr e);refine⟨_,λi h=>h.get? d=some o/\h.IsKeyIter s.heap.objs.size d i es.size ep,λE Q q=>uE h0 e hx hdat q,?_,ip _ e,⟨_,Et _ rfl,rfl,rfl⟩⟩
   exact {
     sub:=λb hb=>by rw[ib.mp hb]; exact rp ..
     frame:=λi h h' st k=>⟨k d (by simp) o st.1,st.2.at λo e=>k _ (rp ..) o e⟩
     item:=λi s' Q E hi st hQ=>u0 st.2 st.1 hdat hi λh' st' sb=>hQ _ h' s'.toks ⟨hi,rfl⟩ ⟨(sb.2 d ne).trans st.1,st'⟩ λb o' hb e'=>(sb.2 b λz=>hb (by rw[z]; exact ib.mpr rfl)).trans e'
     done:=λs' Q E st hQ=>yg hh st.2 st.1 hdat (ia _) λh' eb=>hQ h' s'.toks λb o' hb e'=>eb b o' (λz=>hb (by rw[z]; exact ib.mpr rfl)) e'
     self:=λi s' Q E st h=>wpAny_pyIter_keyiter st.2 h }
end
section
variable {K:Type}[DecidableEq K]{a:KD K}{hd:a.dep<=7}{X:Cx}
theorem nH:∀xs:NEs K,Vals (xs.map λx=>V.ref x.2.1) (xs.map λx=>GI x.2.1)
 | []=>.nil
 | _::xs=>.cons rfl (nH xs)
theorem k8 (hc:X.calm=true):cX X (.type "list") (λvs H Q=>∃d xs,vs=[.ref d]/\H d=some (dNk a hd X.prog X.w d xs)/\xs.length<=sizeLine/\∀l,H l=none->Q (.ref l) (upd H l (.lst (xs.map λx=>.ref x.2.1)))):=by
 intro pins s σ H vs us Q I r h;obtain⟨d,xs,rfl,ha,hz,q⟩:=h;obtain⟨u,rfl,rx⟩:=vals1 r;cases rx;obtain⟨⟨h0,o,es,ep,h1,h2,h3,h4,h5⟩,_⟩:=(show bj X.prog X.w H s.heap d (dNk a hd X.prog X.w d xs) from I.hok d _ ha);have hl:es.size=xs.length:=by rw[<- G8,h4,fw]
 refine kdl_call (DJ h0 h2 h3) (I.ok.hd hc) h1 (by omega) λh' tk acc' c' kp e it=>?_
 have ea:acc'.toList=xs.map λx=>GI x.2.1:=by
   refine Jp (by rw[G8,it.1,fw,hl]) λi z1 z2=>?_;rw[G8]at z1;obtain⟨g,e⟩:=it.2 i acc'[i] (IE z1);rw[Array.getElem_toList,e];have hi:i<xs.length:=by omega
   have e:es.toList[i]?=some (entryOfKey (kd a hd X.prog X.w) xs[i]):=by rw[h4,GL,ph hi]; rfl
   rw[Jg,IE g]at e;rw[GS e,Il];rfl
 have e':h'.get? s.heap.objs.size=some { cls:=.type "list",dict:=none,data:=.seq (xs.map λx=>GI x.2.1).toArray c',slots:=#[] }:=by rw[<- ea,Array.toArray_toList]; exact e
 exact⟨.ref s.heap.objs.size,_,I.laid (t':=tk) kp (ia _) (show bj X.prog X.w _ h' _ (.lst (xs.map λx=>.ref x.2.1)) from⟨by rw[fw]; exact hz,_,c',nH xs,e'⟩),rfl,q _ (I.hok.fresh (ia _))⟩
end
end Ev
namespace Hy
open PySem PySem.Spec PyProof.Rows L2
open Ev (D Den ay KD NEs dNk g8 Bx ao k8)
section
variable {K:Type}[DecidableEq K]{a:KD K}{hd:a.dep<=7}{X:Cx}{τ:List Sl}{pos p q:Pos}{k:Nat}{m:List (K×D)}
theorem EnK.refs {F:gV}{G:Hp}:∀{xs:NEs K} {m:List (K×D)},EnK a F G xs m->ay F G (xs.map λx=>V.ref x.2.1) (m.map λp=>a.toD p.1)
 | _,_,.nil=>.nil
 | _,_,.cons h _ _ r=>.cons h r.refs
theorem Ah (i:Nat){n:Str}(B:Bk X k)(hi:τ[i]?=some (.x (exK a hd X.prog X.w m)))(hl:m.length<=sizeLine)(hN:X.N[i]?=some n:=by rfl)
   (hv:Vis X.env.scope n:=by first | exact Hh rfl | exact G0 (Hh rfl) | exact G0 (G0 rfl)) (hd1:(n==("__debug__" : Str))=false:=by decide) (hcd:(n==("__classdict__" : Str))=false:=by decide)
   (hg:Gl X "list":=by rfl) (he:starEach [.Name n q] X.env=(false,eval (.Name n q) X.env)::starEach [] X.env:=by rfl) (hpl:(backTo pos (starEach [] X.env)).any (·.1)=false:=by rfl):PE X (.Call (.Name "list" p) [.Name n q] [] pos) (dE X.K true τ (.o (m.map λp=>a.toD p.1))):=
 peW (nO (k8 (a:=a) (hd:=hd) B.calm) hg (B.blt _ (by decide)) (by decide +kernel) (bw (a4 (i:=i) hN hv hd1 hcd) c8 he) (by decide) (by decide) he hpl) λσ H Q ⟨A,H₀,B,S,kk⟩=>by obtain⟨d,xs,e1,e2,e3,e4⟩:=S.dct hi;refine⟨_,slot_of e1,d,xs,rfl,e3,by rw[e4.length]; exact hl,λp hp=>?_⟩;obtain⟨z1,z2,z3⟩:=jz (K:=X.K) (M:=own A B) hp e4.refs;exact kk _ _ [p] z1 z2 z3
end
end Hy
namespace Ev
open PySem PySem.Spec PyProof.Rows L2
noncomputable def DZ (a:Addr)(o:Obj)(kv:List (Int×Int)):L2.It:=⟨λi H=>i<kv.length/\H a=some (.frz o (.dK (bD kv))),λi H x H'=>H'=H/\∃p,kv[i]?=some p/\x=.int p.2,λi H=>kv.length<=i/\H a=some (.frz o (.dK (bD kv)))⟩
theorem BA:∀{kv:List (Int×Int)} {vs:List (Key×Value)},KV (bD kv) vs->∀i (hi:i<kv.length),∃k v,vs[i]?=some (k,v)/\RelV (.int kv[i].2) v
 | [],_,_,i,hi=>absurd hi (by simp)
 | p::kv,vs,r,i,hi=>by
   unfold KV bD at r;rw[GP]at r;cases r with
   | cons h r=>
     cases i with
     | zero=>exact⟨_,_,rfl,h.2⟩
     | succ i=>obtain⟨k,v,h1,h2⟩:=BA (kv:=kv) (show KV (bD kv) _ from r) i (by simpa using hi);exact⟨k,v,by simpa using h1,by simpa using h2⟩
theorem wH {P:Program}{w:World}{K:gV}{tg:Expr}(a it:Addr)(o:Obj)(kv:List (Int×Int))(es:Array DictEntry)(ep:Nat)(hd:o.data=.dict es ep):
   Turn P w K false tg (DZ a o kv) [it] it (λi h=>i<=kv.length/\h.IsValIter it a i kv.length ep) where
 mem:=by simp
 obj:=λi h st b hb=>by
   have e:b=it:=by simpa using hb
   subst e;obtain⟨o,e,c,d⟩:=st.2;exact⟨o,e,λv z=>by rw[d]at z; cases z⟩
 keep:=λi h h' st k=>⟨st.1,st.2.at λo e=>k it (by simp) o e⟩
 item:=by
   intro X hP hw hK hc i pins s σ H E I hf st hg;subst hP hw hK;obtain⟨hi,ha⟩:=hg;obtain⟨f0,f1,f2,f3,f4,f5⟩:=hf it (by simp);obtain⟨vs,rel,dd⟩:=pC I ha hd;have hl:kv.length=vs.length:=by rw[<- rel.length,bD,fw]
   have st2:=st.2;rw[hl]at st2;obtain⟨k,v,hx,rv⟩:=BA rel i hi;refine wpAny_pyNext_values_item st2 dd hx λh' st' sb=>?_;have I1:Inv X pins σ H { s with heap:=h' }:=I.turned (t':=s.toks) (λb o hb e=>(sb.2 b hb).trans e) f0 f1 f3 f4 f5;obtain⟨o',e,c,d⟩:=id st';refine⟨_,rfl,iH (s:={ s with heap:=h' }) e c d (by decide) ⟨.int kv[i].2,H,I1,rv,⟨rfl,_,ph hi,rfl⟩,⟨hi,by rw[hl]; exact st'⟩,λb hb=>(hf b hb).1⟩⟩
 done:=by
   intro X hP hw hK hc i pins s σ H E I hf st hg;subst hP hw hK;obtain⟨hi,ha⟩:=hg;obtain⟨f0,f1,f2,f3,f4,f5⟩:=hf it (by simp);obtain⟨vs,rel,dd⟩:=pC I ha hd;have hl:kv.length=vs.length:=by rw[<- rel.length,bD,fw]
   have st2:=st.2;rw[hl]at st2;exact wpAny_pyNext_values_end (I.ok.hd hc.calm) st2 dd (Iy (by omega)) λh' eb=>⟨rfl,I.turned (t':=s.toks) (λb o hb e=>eb b o hb e) f0 f1 f3 f4 f5⟩
 self:=λ_ _ _ _ _ st h=>wpAny_pyIter_valiter st.2 h
structure M0 (X:Cx)(o:Expr)(m:Str)(apos:Pos)(cpos:Pos):Prop where
 base:attributeBase o m X.env (eval o X.env)=eval o X.env
 few:((backTo cpos (starEach [] X.env)).all (λx=>!x.1)&&(backToKw cpos (keywordEach [] X.env)).all (λx=>x.1.isSome)
   && decide (([]:List Expr).length+([]:List Keyword).length+(if ([]:List Keyword).isEmpty then 0 else 1)<30))=true
 line:(apos.endLine==cpos.line)=true
 trees:backTo cpos (starEach [] X.env)=[]
section
variable {X:Cx}{tg:Expr}
def yF (tl:TE):TI:=λσ H R=>tl σ H λx H1=>∃a o kv,x=.ref a/\H1 a=some (.frz o (.dK (bD kv)))/\R (DZ a o kv) H1
theorem ra {l:Expr}{tl:TE}{apos cpos:Pos}(hc:X.calm=true)(hl:PE X l tl)(m:M0 X l "values" apos cpos):PI X tg (.Call (.Attribute l "values" apos) [] [] cpos) (yF tl):=by
 intro pins s σ H R I h;refine wpAny_Call_method m.base m.few m.line JJ Ld PySem.F.type_dict_values (thn (hl pins s σ H _ I h) λu s1 ⟨x,H1,I1,r1,a,o,kv,ex,ha,q⟩=>?_);subst ex;obtain rfl:u=GI a:=r1;obtain⟨e,ok⟩:=(show bj X.prog X.w H1 s1.heap a (.frz o (.dK (bD kv))) from I1.hok a _ ha);obtain⟨z,hd,vs,rel,o',es,ep,e',r⟩:=ok;rw[e]at e';cases e';have dd:s1.heap.DictAt (bb X.prog X.w) a vs ep:=⟨o,es,e,r⟩;refine⟨dd.dictOf.typeIs,λc ec=>(by cases ec; exact⟨o,e,r.1.2.1⟩),?_⟩;rw[m.trees];refine Im rfl (PySem.evalArgs_none ?_);refine call_meetsIn Ld dd.dictOf.typeIs PySem.F.entry_dict_values (PySem.F.args_dict_values_1 _) (meets_dict_values (bb X.prog X.w) a hd) ⟨⟨vs,dd.dictOf⟩,?_⟩;have I2:Inv X pins σ H1 { s1 with heap:=s1.heap.push { cls:=.type "dict_values",data:=.fields #[.ref a] } }:=I1.kept (t':=s1.toks) λb o e=>ip _ e;have hv:vs.length=kv.length:=by rw[<- rel.length,bD,fw]
 refine wpAny_pyIter_values (knd:=bb X.prog X.w) (kvs:=vs) (ep:=ep) ⟨_,Et _ rfl,rfl,rfl⟩ (dd.push _) ?_;refine⟨false,_,[(s1.heap.push { cls:=.type "dict_values",data:=.fields #[.ref a] }).objs.size],_,_,H1,rfl,I2.kept (t':=s1.toks) λb o e=>ip _ e,.inl hc,wH a _ o kv es ep r.2.1,⟨G5 _,?_⟩,λb hb=>?_,q⟩
 . rw[<- hv];exact⟨_,Et _ rfl,rfl,rfl⟩
 . have e:b=(s1.heap.push { cls:=.type "dict_values",data:=.fields #[.ref a] }).objs.size:=by simpa using hb
   subst e;exact I2.jv (ia _) (I2.hok.fresh (ia _))
end
end Ev
namespace Hy
open PySem PySem.Spec PyProof.Rows L2
open Ev (D Den ay Bx ao bD DZ yF ra M0)
section
variable {X:Cx}{C:Bool}{τ:List Sl}{e tg:Expr}{p apos cpos:Pos}{m:List (Int×Int)}
theorem A6 (h:PE X e (dE X.K true τ (.d (.box (bxZ m)))))(hc:X.calm=true:=by first | rfl | assumption)(m0:M0 X e "values" apos cpos:=by exact⟨rfl,rfl,rfl,rfl⟩):PI X tg (.Call (.Attribute e "values" apos) [] [] cpos) (dI X.K τ (m.map λp=>.int p.2)):=piW (ra hc h m0) λσ H R ⟨A,H₀,B,S,k⟩=>aF S λv H1 e1 d1=>by
 cases d1 with
 | box h=>
   obtain⟨o,g⟩:=h;refine⟨_,o,m,rfl,aG _ _ g,k _ H1 e1 λH2 sg=>⟨λi hi=>⟨by simpa using hi,sg _ _ g⟩,λi hi=>⟨⟨by simpa using hi,sg _ _ g⟩,λx H' ⟨eH,p,hp,ex⟩=>?_⟩⟩⟩;subst eH ex;refine⟨ak.refl _,λM _ _=>?_⟩;have hi':i<m.length:=by simpa using hi
   rw[ph hi']at hp;cases hp;rw[Il];exact .int
theorem Fm (h:PE X e (dE X.K C τ (.x (exZ m)))):PE X e (dE X.K C τ (.d (.box (bxZ m)))):=by
 intro pins s σ H Q I q;obtain⟨A,H₀,B,S,kk⟩:=ck q;have vd:=S.vd (C:=C);refine thn (h pins s σ H (λv H'=>∃d,v=.ref d/\ak H H'/\H d=none/\H' d=some (.dK (bD m))) I ⟨A,H₀,B,S,λv H' bs e hf ⟨d,o,h1,h2,h3,h4⟩=>?_⟩) λu s1 ⟨x,H1,I1,rx,d,ex,e,hn,h3⟩=>?_
 . cases h2;cases (show o=_ from h4);subst h1;exact⟨d,rfl,e,(hf d (ib.mpr rfl)).1,h3⟩
 . subst ex;obtain⟨z,hd0,vs,rel,dd⟩:=rG I1.hok h3;obtain⟨o,es,ep,e0,r⟩:=id dd;have I2:Inv X pins σ (upd H1 d (.frz o (.dK (bD m)))) s1:=eY (t':=s1.toks) (h':=s1.heap) I1 (by rw[h3]; exact HL) (.refl _ _) ⟨o,e0⟩ ⟨e0,oJ z hd0 rel dd⟩;have un:¬vw C A B d:=λz=>by obtain⟨_,q⟩:=vd d z;rw[hn]at q;cases q
   refine⟨.ref d,_,I2,rx,kk _ _ (λb o' hb=>?_) (.box ⟨o,ax.mpr ⟨un,au⟩⟩)⟩;rw[ar (λz=>by rw[z,hn]at hb; cases hb)];exact e b o' hb
end
end Hy
namespace K67
open PySem PySem.Spec PyProof.Rows L2 Hy
open Ev (D Den ay aJ aE)
noncomputable def bJ (n:Nat)(rs:List (List Int)):List (Int×Int):=rs.foldl (λkv r=>bx n r kv kv.length) [(0,1)]
theorem eV (n:Nat)(rs:List (List Int))(r:List Int):bJ n (rs++[r])=bx n r (bJ n rs) (bJ n rs).length:=by unfold bJ; rw[Hm]; rfl
theorem rR (n:Nat)(rs:List (List Int)):∀i,i<=rs.length->RI n i (dtM rs) (bJ n (rs.take i))
 | 0,_=>RI.zero n _
 | i+1,h=>by have e:rs.take (i+1)=rs.take i++[rs.getD i []]:=take_snoc _ (by omega);rw[e,eV];exact(rR n rs i (by omega)).step λj _=>rfl
theorem jh (n:Nat)(rs:List (List Int)):RI n rs.length (dtM rs) (bJ n rs):=by
 have:=rR n rs rs.length (ia _)
 rwa [Gx (ia _)]at this
theorem jy (n:Nat)(rs:List (List Int)):∀i,i<=rs.length->(bJ n (rs.take i)).length<=n^i
 | 0,_=>ia 1
 | i+1,h=>by have e:rs.take (i+1)=rs.take i++[rs.getD i []]:=take_snoc _ (by omega);rw[e,eV,Kj];exact GB (js _ _ _ _) (G2 _ (jy n rs i (by omega)))
theorem zA {kv:List (Int×Int)}{k v:Int}{q:Int×Int}(h:q∈fV kv k v):q.2=v\/q∈kv:=by
 unfold fV at h;split at h
 . obtain⟨p,hp,e⟩:=Gy.mp h;by_cases z:p.1=k
   . rw[if_pos z]at e; exact .inl (by rw[<- e])
   . rw[if_neg z]at e; exact .inr (e▸hp)
 . rcases Gv.mp h with h | h
   . exact .inr h
   . exact .inl (by rw[ib.mp h])
theorem Be {kv:List (Int×Int)}{k:Int}{N:Nat}(h:∀q∈kv,q.2.natAbs<=N):((bH kv k).getD 0).natAbs<=N:=by
 cases e:bH kv k with
 | none=>simp
 | some v=>unfold bH at e;obtain⟨p,h1,h2⟩:=IX.mp e;rw[<- h2];exact h p (IF h1)
theorem um {n:Nat}{row:List Int}{k v:Int}{kv:List (Int×Int)}{N W:Nat}(hW:∀j,(row.getD j 0*v).natAbs<=W)(h:∀q∈kv,q.2.natAbs<=N):∀c,∀q∈(bZ n row k v kv c).2,q.2.natAbs<=N+c*W
 | 0,q,hq=>by have:=h q hq; omega
 | c+1,q,hq=>by
   have ih:=um (n:=n) (k:=k) hW h c;rw[bZ,lW]at hq;rw[Ij];split at hq
   . have:=ih q hq; omega
   . rcases zA hq with e | hq
     . have h1:=Be (k:=k4 k (n-1-c)) ih;have h2:(sgZ (bZ n row k v kv c).1*row.getD (n-1-c) 0*v).natAbs<=W:=by rw[J1,Ly];have:=hW (n-1-c);rcases pZ (bZ n row k v kv c).1 with z | z <;> rw[z] <;> simpa using this
       rw[e];omega
     . have:=ih q hq; omega
theorem rJ {n:Nat}{row:List Int}{kv:List (Int×Int)}{W:Nat}(hW:∀j q,q∈kv->(row.getD j 0*q.2).natAbs<=W):∀t,∀q∈bx n row kv t,q.2.natAbs<=t*n*W
 | 0,q,hq=>nomatch hq
 | t+1,q,hq=>by
   rw[bx]at hq;have ih:=rJ (n:=n) hW t
   have:=um (N:=t*n*W) (W:=W) (λj=>by
     cases e:bH kv (kv.getD t (0,0)).1 with
     | none=>simp
     | some v=>
       unfold bH at e;obtain⟨p,h1,h2⟩:=IX.mp e;rw[JQ,<- h2];exact hW j p (IF h1)) ih n q hq
   rw[Ij,Nat.add_mul];exact this
theorem qG {n b:Nat}{rs:List (List Int)}(hn:n<=7)(hl:rs.length<=7)(hr:∀r∈rs,∀x∈r,Bd b x):∀i,i<=rs.length->∀q∈bJ n (rs.take i),Bd (1+i*(b+24)) q.2
 | 0,_,q,hq=>by cases ib.mp hq;unfold Bd;rw[Nat.zero_mul];decide
 | i+1,h,q,hq=>by
   have e:rs.take (i+1)=rs.take i++[rs.getD i []]:=take_snoc _ (by omega);rw[e,eV]at hq;have ih:=qG hn hl hr i (by omega);have hl1:=jy n rs i (by omega);have hl2:n^i<=7^7:=GB (Nat.pow_le_pow_left hn i) (Hg (by decide) (by omega))
   have:=rJ (n:=n) (row:=rs.getD i []) (W:=2^(b+(1+i*(b+24)))) (λj q hq=>by
     have h1:Bd b ((rs.getD i []).getD j 0):=by
       by_cases hj:j<(rs.getD i []).length
       . exact hr _ (bI (by omega)) _ (bI hj)
       . rw[getD_none (by omega)]; exact Hv b
     exact Ia (h1.mul (ih q hq))) _ q hq
   unfold Bd;have e2:1+(i+1)*(b+24)=(b+(1+i*(b+24)))+24:=by rw[Ij]; omega
   rw[e2,Lk];have p0:=Hv (b+(1+i*(b+24)));have h7:(7:Nat)^7=823543:=by decide
   have:(bJ n (rs.take i)).length*n<=823543*7:=Lw (by omega) hn;have l2:(bJ n (rs.take i)).length*n*2^(b+(1+i*(b+24)))<=823543*7*2^(b+(1+i*(b+24))):=G2 _ this;have l3:823543*7*2^(b+(1+i*(b+24)))<2^(b+(1+i*(b+24)))*2^24:=by rw[Nat.mul_comm];exact Lp (by decide) p0
   omega
noncomputable def lnR (R:List (List Int))(ls:List Int):List (List Int):=ls.map λi=>R.getD i.toNat []
noncomputable def vMn (R:List (List Int))(n:Nat)(ls:List Int):D:=.box (bxZ (bJ n (lnR R ls)))
noncomputable def nxK (n i:Nat)(ks:List (List Int)):List (List Int):=(ks.filter λls=>decide (ls.length<n)).map λls=>ls++[(i:Int)]
noncomputable def lks (R:List (List Int))(n:Nat):Nat->List (List Int)
 | 0=>[[]]
 | i+1=>lks R n i++nxK n i ((mkM (vMn R n) (lks R n i)).map (·.1))
theorem uy (n i:Nat)(ks:List (List Int)):(nxK n i ks).length<=ks.length:=by unfold nxK;rw[fw];exact List.length_filter_le ..
theorem vm (R:List (List Int))(n:Nat):∀i,(lks R n i).length<=2^i
 | 0=>ia 1
 | i+1=>by have h1:=vm R n i;have h2:=uy n i ((mkM (vMn R n) (lks R n i)).map (·.1));have h3:=gE (vMn R n) (lks R n i);rw[fw]at h2;rw[lks,vp,Kj];omega
structure Ls (n i:Nat)(ls:List Int):Prop where
 len:ls.length<=n
 at_:∀x∈ls,0<=x/\x<i
theorem Cs {n i:Nat}{ks:List (List Int)}(h:∀ls∈ks,Ls n i ls):∀ls∈nxK n i ks,Ls n (i+1) ls:=λls hs=>by
 unfold nxK at hs;obtain⟨l,hl,rfl⟩:=Gy.mp hs;rw[IQ]at hl;have h1:=h l hl.1;have h2:=of_decide_eq_true hl.2;refine⟨by rw[vp,Kb]; omega,λx hx=>?_⟩;rcases Gv.mp hx with hx | hx
 . have:=h1.at_ x hx; omega
 . rw[ib.mp hx]; omega
theorem lks_ok (R:List (List Int))(n:Nat):∀i,∀ls∈lks R n i,Ls n i ls
 | 0,ls,h=>by rw[ib.mp h];exact⟨G5 _,λ_ z=>nomatch z⟩
 | i+1,ls,h=>by
   have ih:=lks_ok R n i;rcases Gv.mp h with h | h
   . have:=ih ls h;exact⟨this.len,λx hx=>by have:=this.at_ x hx; omega⟩
   . refine Cs (λl hl=>?_) ls h;obtain⟨q,hq,rfl⟩:=Gy.mp hl;exact ih _ (gH hq).1
def iC (P:Program)(w:World)(ds:List D)(r:Sl):Prop:=∃(R:List (List Int)) (m n b:Nat),ds=[.lst (R.map dtR)]/\Rw m n b R/\r=.d (.box (bxW kT hdT P w (mkM (vMn R n) (lks R n m))))
theorem mn0 (R:List (List Int))(n:Nat):mkM (vMn R n) (lks R n 0)=[([],D.box (bxZ [(0,1)]))]:=rfl
theorem xG (R:List (List Int))(n i:Nat)(ls:List Int):vMn R n (ls++[(i:Int)])=.box (bxZ (bx n (R.getD i []) (bJ n (lnR R ls)) (bJ n (lnR R ls)).length)):=by
 unfold vMn;have e:lnR R (ls++[(i:Int)])=lnR R ls++[R.getD i []]:=by unfold lnR; rw[GN]; rfl
 rw[e,eV]
theorem xB (n i:Nat)(ks:List (List Int))(ls:List Int):nxK n i (ks++[ls])=nxK n i ks++if ls.length<n then [ls++[(i:Int)]] else []:=by
 unfold nxK;rw[HF,GN];congr 1;by_cases h:ls.length<n
 . rw[if_pos h,Jo,if_pos (by simpa using h)]; rfl
 . rw[if_neg h,Jo,if_neg (by simpa using h)]; rfl
section
variable {P:Program}{w:World}{K:gV}{mg:Str->Option Value}{base:Heap}{k:Nat}{f:Addr}{fd:FuncData}{qual:Str}
set_option maxHeartbeats 1000000 in
theorem rH (F:Fun K "_law_minors" qual (top 66) f fd)(hb:∀x∈ah,mg x=none):aH P w K mg base CX0 (k+1) f fd ["_law_rows_here"] (spD K (iC P w)):=by
 refine fnD F jU hb (by rintro _ _ ⟨_,_,_,_,rfl,_⟩; rfl) ?_;rintro _ _ ⟨R,m,n,b0,rfl,ok,rfl⟩ cdv A outer s H E b;have nd:=jU.nd;have hu:(Xc P w K mg base ["_law_rows_here","_law_wide","_law_made_here","_law_i","_law_lines","_law_longer","_law_mask","_law_behind_it","_law_j","_law_key","_law_part"] qual (top 66) f cdv A outer s H E).A.units+16<cLine:=GX (HW (by decide:16<=64) _) b.room.units;have hu1:(Xc P w K mg base ["_law_rows_here","_law_wide","_law_made_here","_law_i","_law_lines","_law_longer","_law_mask","_law_behind_it","_law_j","_law_key","_law_part"] qual (top 66) f cdv A outer s H E).A.units+1<cLine:=GX (HW (by decide:1<=64) _) b.room.units;obtain⟨⟨m1,m7⟩,n1,n7⟩:=And.intro ok.m1 ok.n1;have lR:(R.map dtR).length=m:=by rw[fw,ok.len]
 have r0:(R.getD 0 []).length=n:=(ok.row _ (bI (by rw[ok.len]; omega))).1;have lr0:((R.getD 0 []).map D.int).length=n:=by rw[fw,r0]
 have a0:atI (R.map dtR) 0=some (dtR (R.getD 0 [])):=nY (i:=0) (by decide) (by rw[ok.len]; show 0<m; omega);refine aA 1 nd (bq b (ab (av (aa 0) ae (aV a0)) af) (wM lr0)) ?_;generalize e:Expr.Dict [some (Expr.Tuple [] 0 _)] _ _=ex;refine aA 2 nd (s:=.x (exK kT hdT P w [([],D.box (bxZ [(0,1)]))])) ?_ ?_ (hs:=by subst e; rfl)
 . subst e;generalize e:Expr.Dict [some (Expr.Constant _ _ _)] _ _=ex;refine si (a:=kT) (hd:=hdT) (key:=[]) (x:=D.box (bxZ [(0,1)])) hu ?_ ?_ (cw [])
   . show PE _ _ (dE _ _ _ (.d (.tup [])));exact bz af
   . subst e;exact Fm Cd
 refine bK 3 (λi τ=>i<=m/\∃s3 s4 s5 s6 s7 s8 s9 s10,τ=[.d (.lst (R.map dtR)),.d (.int n),.x (exK kT hdT P w (mkM (vMn R n) (lks R n i))),s3,s4,s5,s6,s7,s8,s9,s10]) b nd (fK b (bq b (ab (aa 0) af) (wM lR)) (by omega) (by omega)) fL ⟨G5 _,.un,.un,.un,.un,.un,.un,.un,.un,by rw[mn0]; rfl⟩ (λi hi τ h=>?_) λτ h=>?_
 . obtain⟨_,s3,s4,s5,s6,s7,s8,s9,s10,rfl⟩:=h;have hi:i<m:=by rw[aN]at hi; omega
   have hiR:i<R.length:=by rw[ok.len]; exact hi
   have hrow:=ok.row _ (bI (d:=[]) hiR);have aRi:atI (R.map dtR) (i:Int)=some (dtR (R.getD i [])):=nY (i:=(i:Int)) (by omega) (by omega);have kl:=gE (vMn R n) (lks R n i);have ll:=vm R n i;have p2:2^i<=2^7:=Hg (by decide) (by omega);have hks:∀ls∈(mkM (vMn R n) (lks R n i)).map (·.1),ls∈lks R n i:=λls h=>by obtain⟨q,hq,rfl⟩:=Gy.mp h;exact(gH hq).1
   have lkl:((mkM (vMn R n) (lks R n i)).map (·.1)).length<=128:=by rw[fw]; omega
   have eL:lks R n (i+1)=lks R n i++nxK n i ((mkM (vMn R n) (lks R n i)).map (·.1)):=rfl;have em:(mkM (vMn R n) (lks R n i)).map (λp=>kT.toD p.1)=((mkM (vMn R n) (lks R n i)).map (·.1)).map kT.toD:=by rw[GO]; rfl
   refine bK 4 (g:=λl=>kT.toD (((mkM (vMn R n) (lks R n i)).map (·.1)).getD l [])) (λl τ=>∃s4 s5 s6 s7 s8 s9 s10,τ=[.d (.lst (R.map dtR)),.d (.int n),.x (exK kT hdT P w (mkM (vMn R n) (lks R n i++nxK n i (((mkM (vMn R n) (lks R n i)).map (·.1)).take l)))),.d (.int (i:Nat)),s4,s5,s6,s7,s8,s9,s10]) b nd (em▸a9 (a7 (Ah 2 (a:=kT) (hd:=hdT) b rfl (GB kl (GB ll (GB p2 (by decide))))))) (fI (f:=kT.toD) []) ⟨s4,s5,s6,s7,s8,s9,s10,by rw[List.take_zero]; show _=[_,_,Sl.x (exK kT hdT P w (mkM (vMn R n) (lks R n i++[]))),_,_,_,_,_,_,_,_]; rw[G3]; rfl⟩ (λl hl τ h=>?_) λτ h=>?_
   . obtain⟨s4,s5,s6,s7,s8,s9,s10,rfl⟩:=h;generalize (mkM (vMn R n) (lks R n i)).map (·.1)=ks at hl hks lkl;have hl:l<ks.length:=by simpa using hl
     have hs:=hks _ (bI (d:=[]) hl);have es:ks.take (l+1)=ks.take l++[ks.getD l []]:=take_snoc _ hl;rw[es,xB];generalize ks.getD l []=ls at hs;have okl:=lks_ok R n i ls hs;have nl:=uy n i (ks.take l);rw[GZ]at nl;generalize nxK n i (ks.take l)=nx at nl;have gK:getM (mkM (vMn R n) (lks R n i++nx)) ls=some (.box (bxZ (bJ n (lnR R ls)))):=du (v:=vMn R n) (GF _ hs);have ml:=gE (vMn R n) (lks R n i++nx);rw[vp]at ml;have lnl:(lnR R ls).length=ls.length:=by unfold lnR; rw[fw]
     have RIk:=jh n (lnR R ls);have kvl:=jy n (lnR R ls) _ (ia _)
     have kvb:=qG (n:=n) (b:=b0) (rs:=lnR R ls) n7 (by have:=okl.len; omega) (λr hr x hx=>by
       unfold lnR at hr;obtain⟨y,hy,rfl⟩:=Gy.mp hr;have:=okl.at_ y hy;exact(ok.row _ (bI (by rw[ok.len]; omega))).2 x hx) _ (ia _)
     rw[Gx (ia _)]at kvl kvb;have kv7:n^(lnR R ls).length<=7^7:=GB (Nat.pow_le_pow_left n7 _) (Hg (by decide) (by have:=okl.len; omega));have h77:(7:Nat)^7=823543:=by decide
     have vS:=xG R n i ls;generalize bJ n (lnR R ls)=kv at gK RIk kvl kvb vS;generalize hRow:R.getD i []=row at hrow aRi vS;refine aA 5 nd C4 ?_;refine bK 6 (g:=λt=>.int (kv.getD t (0,0)).1) (λt τ=>∃s6 s7 s8 s9 s10,τ=[.d (.lst (R.map dtR)),.d (.int n),.x (exK kT hdT P w (mkM (vMn R n) (lks R n i++nx))),.d (.int (i:Nat)),.d (kT.toD ls),.x (exZ (bx n row kv t)),s6,s7,s8,s9,s10]) b nd (zF (sj 2 (a:=kT) (hd:=hdT) (key:=ls) hu rfl (aa 4) gK (cw _) fD)) An ⟨s6,s7,s8,s9,s10,rfl⟩ (λt ht τ z=>?_) λτ z=>?_
     . obtain⟨s6,s7,s8,s9,s10,rfl⟩:=z;have ht:t<kv.length:=by simpa using ht
       have hq:kv.getD t (0,0)∈kv:=bI ht;have hg:bH kv (kv.getD t (0,0)).1=some (kv.getD t (0,0)).2:=sx RIk.nd hq;have hv:=kvb _ hq;have hml:=js n row kv t;have hml2:t*n<=823543*7:=Lw (by omega) n7;have eM:bx n row kv (t+1)=(bZ n row (kv.getD t (0,0)).1 (kv.getD t (0,0)).2 (bx n row kv t) n).2:=by rw[bx,hg]; rfl
       rw[eM];generalize bx n row kv t=lk at hml;generalize (kv.getD t (0,0)).1=mk at hg;generalize (kv.getD t (0,0)).2=v at hg hv;refine aA 7 nd ae ?_;refine bK 8 (g:=λc=>.int ((n-1-c:Nat):Int)) (λc τ=>∃s8 s9 s10,τ=[.d (.lst (R.map dtR)),.d (.int n),.x (exK kT hdT P w (mkM (vMn R n) (lks R n i++nx))),.d (.int (i:Nat)),.d (kT.toD ls),.x (exZ (bZ n row mk v lk c).2),.d (.int mk),.d (.int (bZ n row mk v lk c).1),s8,s9,s10]) b nd (Gk (n:=n) b (aa 1) (by omega)) Gp ⟨s8,s9,s10,rfl⟩ (λc hc τ z=>?_) λτ z=>?_
       . obtain⟨s8,s9,s10,rfl⟩:=z;have hc:c<n:=by rw[iF]at hc; exact hc
         have hcl:=k7 n row mk v lk c;have hj:n-1-c<row.length:=by rw[hrow.1]; omega
         have eC:bZ n row mk v lk (c+1)=lW row mk v (n-1-c) (bZ n row mk v lk c):=rfl;rw[eC];generalize bZ n row mk v lk c=st at hcl;generalize n-1-c=j at hj;have j7:j<7:=by have:=hrow.1; omega
         refine jJ (M:=λτ=>∃s8 s9 s10,τ=[.d (.lst (R.map dtR)),.d (.int n),.x (exK kT hdT P w (mkM (vMn R n) (lks R n i++nx))),.d (.int (i:Nat)),.d (kT.toD ls),.x (exZ (lW row mk v j st).2),.d (.int mk),.d (.int (lW row mk v j st).1),s8,s9,s10]) (aX (aB (aB (aa 6) (aa 8) (Fb (by omega))) ae Er) ae gN) (λz=>?_) (λz=>?_) λτ z=>by obtain⟨s8,s9,s10,rfl⟩:=z;exact aK ⟨s8,s9,s10,rfl⟩
         . have z:su mk j=true:=by unfold su;rw[GC]at z;exact z
           have e:lW row mk v j st=(st.1+1,st.2):=by unfold lW; rw[if_pos z]
           rw[e];exact aA 7 nd (aB (aa 7) ae bp) (aK ⟨_,_,_,rfl⟩)
         . have z:su mk j=false:=by unfold su;rw[GC]at z;exact z
           have e:lW row mk v j st=(st.1,fV st.2 (k4 mk j) ((bH st.2 (k4 mk j)).getD 0+sgZ st.1*row.getD j 0*v)):=by unfold lW; rw[if_neg (by rw[z]; decide)]
           have hx:Bd b0 (row.getD j 0):=hrow.2 _ (bI hj)
           have s2:aJ (row.getD j 0) v:=hx.aJ hv (by have:=ok.b1; omega) (by
             have:=ok.b1;have:(lnR R ls).length*(b0+24)<=7*(b0+24):=G2 _ (by have:=okl.len; omega);omega)
           rw[e];refine aA 9 nd (aB (aa 6) (aB ae (aa 8) (Fz ⟨by omega,by omega,by decide⟩)) FY) ?_;rw[GC];show PSs _ _ (dS K [.d (.lst (R.map dtR)),.d (.int n),.x (exK kT hdT P w (mkM (vMn R n) (lks R n i++nx))),.d (.int (i:Nat)),.d (kT.toD ls),.x (exZ st.2),.d (.int mk),.d (.int st.1),.d (.int (j:Nat)),.d (.int (k4 mk j)),_] _);refine aA 10 nd (aB (av (av (aa 0) (aa 3) (aV aRi)) (aa 8) (aV (atR hj))) (Cz hu1 (sj 2 (a:=kT) (hd:=hdT) (key:=ls) hu rfl (aa 4) gK (cw _) fD) (aa 6) hg fD) (bf s2)) ?_;refine jJ (M:=λτ=>τ=[.d (.lst (R.map dtR)),.d (.int n),.x (exK kT hdT P w (mkM (vMn R n) (lks R n i++nx))),.d (.int (i:Nat)),.d (kT.toD ls),.x (exZ st.2),.d (.int mk),.d (.int st.1),.d (.int (j:Nat)),.d (.int (k4 mk j)),.d (.int (sgZ st.1*row.getD j 0*v))]) (aX (aB (aa 7) ae (bP (by decide))) ae gN) (λz=>?_) (λz=>?_) λτ z=>?_
           . have z:=of_decide_eq_true z;have e2:sgZ st.1=-1:=by unfold sgZ; rw[z]; rfl
             rw[e2,J1,Int.neg_mul,Int.one_mul];exact aA 10 nd (vH (aa 10)) (aK rfl)
           . have z:=of_decide_eq_false z
             have e2:sgZ st.1=1:=by
               rcases pZ st.1 with h | h
               . exact h
               . unfold sgZ at h; omega
             rw[e2,Int.one_mul];exact aK rfl
           . rw[z];refine DG 5 hu1 rfl (aa 9) (aB (A4 5 hu1 rfl (aa 9) ae) (aa 10) bp) ?_ (aK ⟨_,_,_,rfl⟩);have:sizeLine>10000000:=by decide
             omega
       . obtain⟨s8,s9,s10,rfl⟩:=z;rw[iF];exact aK ⟨_,_,_,_,_,rfl⟩
     . obtain⟨s6,s7,s8,s9,s10,rfl⟩:=z;rw[fw];refine Eb 5 ?_;refine jJ (M:=λτ=>∃s4 s5 s6 s7 s8 s9 s10,τ=[.d (.lst (R.map dtR)),.d (.int n),.x (exK kT hdT P w (mkM (vMn R n) (lks R n i++(nx++if ls.length<n then [ls++[(i:Int)]] else [])))),.d (.int (i:Nat)),s4,s5,s6,s7,s8,s9,s10]) (aX (bq b (ab (aa 4) af) fA) (aa 1) wj) (λz=>?_) (λz=>?_) λτ z=>aK z
       . have z:=of_decide_eq_true z;rw[fw]at z;rw[if_pos (by omega),<- Ht,iY,vS];refine pD 2 (a:=kT) (hd:=hdT) (key:=ls++[(i:Int)]) hu rfl ?_ (aa 5) (GB ml ?_) (cw _) (aK ⟨_,_,_,_,_,_,_,rfl⟩)
         . have e:kT.toD (ls++[(i:Int)])=.tup (ls.map D.int++[.int (i:Nat)]):=by show D.tup ((ls++[(i:Int)]).map D.int)=_; rw[GN]; rfl
           rw[e];exact aB (aa 4) (bz (ab (aa 3) af)) (om (by rw[fw]; have:=okl.len; show _+1<_; omega))
         . have:sizeLine>10000000:=by decide
           omega
       . have z:=of_decide_eq_false z;rw[fw]at z;rw[if_neg (by omega),G3];exact aK ⟨_,_,_,_,_,_,_,rfl⟩
   . obtain⟨s4,s5,s6,s7,s8,s9,s10,rfl⟩:=h;refine aK ⟨hi,.d (.int (i:Nat)),s4,s5,s6,s7,s8,s9,s10,?_⟩;rw[eL,fw,Gx (ia _)]
 . obtain⟨_,s3,s4,s5,s6,s7,s8,s9,s10,rfl⟩:=h;refine Bs 2 (a:=kT) (hd:=hdT) (aL (aa 2) ?_);rw[aN,GC];rfl
end
noncomputable def sg1 (x:Int):Int:=if 0<x then 1 else if x<0 then -1 else 0
noncomputable def lsV (a:Int)(kv:List (Int×Int)):Int:=kv.foldl (λa p=>min a (sg1 p.2)) a
noncomputable def lsA (R:List (List Int))(n:Nat)(a:Int)(ks:List (List Int)):Int:=ks.foldl (λa ls=>lsV a (bJ n (lnR R ls))) a
theorem yM (a:Int)(kv:List (Int×Int))(p:Int×Int):lsV a (kv++[p])=min (lsV a kv) (sg1 p.2):=by unfold lsV; rw[Hm]; rfl
theorem zC (R:List (List Int))(n:Nat)(a:Int)(ks:List (List Int))(ls:List Int):lsA R n a (ks++[ls])=lsV (lsA R n a ks) (bJ n (lnR R ls)):=by unfold lsA; rw[Hm]; rfl
def dg (ds:List D)(r:Sl):Prop:=∃(R:List (List Int)) (m n b:Nat),ds=[.lst (R.map dtR)]/\Rw m n b R/\r=.d (.int (lsA R n 1 ((mkM (vMn R n) (lks R n m)).map (·.1))))
theorem Am {m:List (Int×Int)}:∀i (h:i<(m.map λp=>D.int p.2).length),(m.map λp=>D.int p.2)[i]=.int (m.getD i (0,0)).2:=λi h=>by
 have:i<m.length:=by simpa using h
 simp[this]
section
variable {P:Program}{w:World}{K:gV}{mg:Str->Option Value}{base:Heap}{k:Nat}{f:Addr}{fd:FuncData}{qual:Str}
set_option maxHeartbeats 1000000 in
theorem kj (F:Fun K "_law_least_sign" qual (top 67) f fd)(hb:∀x∈ah,mg x=none)(c_l_minors:Cal P w K mg base k "_law_minors" (iC P w)):aH P w K mg base CX0 (k+1) f fd ["_law_rows_here"] (spD K dg):=by
 refine fnD F fJ hb (by rintro _ _ ⟨_,_,_,_,rfl,_⟩; rfl) ?_;rintro _ _ ⟨R,m,n,b0,rfl,ok,rfl⟩ cdv A outer s H E b;have nd:=fJ.nd;have hu:(Xc P w K mg base ["_law_rows_here","_law_least","_law_made_here","_law_lines","_law_worth"] qual (top 67) f cdv A outer s H E).A.units+16<cLine:=GX (HW (by decide:16<=64) _) b.room.units;refine aA 1 nd ae ?_;refine aA 2 nd (x_call b c_l_minors (ab (aa 0) af) ⟨R,m,n,b0,rfl,ok,rfl⟩) ?_;have hall:∀ls∈(mkM (vMn R n) (lks R n m)).map (·.1),getM (mkM (vMn R n) (lks R n m)) ls=some (.box (bxZ (bJ n (lnR R ls)))):=λls h=>by obtain⟨q,hq,rfl⟩:=Gy.mp h;exact du (v:=vMn R n) (gH hq).1
 generalize hks:(mkM (vMn R n) (lks R n m)).map (·.1)=ks at hall;have em:(mkM (vMn R n) (lks R n m)).map (λp=>kT.toD p.1)=ks.map kT.toD:=by rw[<- hks,GO]; rfl
 refine bK 3 (g:=λi=>kT.toD (ks.getD i [])) (λi τ=>∃s3 s4,τ=[.d (.lst (R.map dtR)),.d (.int (lsA R n 1 (ks.take i))),.d (.box (bxW kT hdT P w (mkM (vMn R n) (lks R n m)))),s3,s4]) b nd (em▸vh (aa 2)) (fI (f:=kT.toD) (xs:=ks) []) ⟨.un,.un,rfl⟩ (λi hi τ h=>?_) λτ h=>?_
 . obtain⟨s3,s4,rfl⟩:=h;have hi:i<ks.length:=by simpa using hi
   have gK:=hall _ (bI (d:=[]) hi);have es:ks.take (i+1)=ks.take i++[ks.getD i []]:=take_snoc _ hi;rw[es,zC];generalize ks.getD i []=ls at gK;generalize lsA R n 1 (ks.take i)=a0;generalize bJ n (lnR R ls)=kv at gK;refine bK 4 (g:=λt=>.int (kv.getD t (0,0)).2) (λt τ=>∃s4,τ=[.d (.lst (R.map dtR)),.d (.int (lsV a0 (kv.take t))),.d (.box (bxW kT hdT P w (mkM (vMn R n) (lks R n m)))),.d (kT.toD ls),s4]) b nd (A6 (zy (a:=kT) (hd:=hdT) (key:=ls) hu (aa 2) (aa 3) gK (cw _) fD)) Am ⟨s4,rfl⟩ (λt ht τ z=>?_) λτ z=>?_
   . obtain⟨s4,rfl⟩:=z;have ht:t<kv.length:=by simpa using ht
     have es:kv.take (t+1)=kv.take t++[kv.getD t (0,0)]:=take_snoc _ ht;rw[es,yM];generalize (kv.getD t (0,0)).2=x;refine aA 1 nd (bq b (ab (aa 1) (ab (aB (kR b (ab (cc (aa 4) ae qQ) af) qh) (kR b (ab (cc (aa 4) ae wj) af) qh) hU) af)) (yy b.calm)) (aK ⟨.d (.int x),?_⟩)
     have e:(if ((if decide (x>0)=true then (1:Int) else 0)-(if decide (x<0)=true then (1:Int) else 0))<lsV a0 (kv.take t) then ((if decide (x>0)=true then (1:Int) else 0)-(if decide (x<0)=true then (1:Int) else 0)) else lsV a0 (kv.take t))=min (lsV a0 (kv.take t)) (sg1 x):=by
       have e1:((if decide (x>0)=true then (1:Int) else 0)-(if decide (x<0)=true then (1:Int) else 0))=sg1 x:=by unfold sg1;simp only[decide_eq_true_eq];split <;> split <;> (try split) <;> omega
       rw[e1];split <;> omega
     exact congrArg (λy=>[Sl.d (.lst (R.map dtR)),Sl.d (.int y),Sl.d (.box (bxW kT hdT P w (mkM (vMn R n) (lks R n m)))),Sl.d (kT.toD ls),Sl.d (.int x)]) e
   . obtain⟨s4,rfl⟩:=z;refine aK ⟨.d (kT.toD ls),s4,?_⟩;rw[fw,Gx (ia _)]
 . obtain⟨s3,s4,rfl⟩:=h;refine aL (aa 1) ?_;rw[fw,Gx (ia _)]
end
theorem uO {f:List Int->Int}{row c:List Int}{g:Nat->Rat}{m:Nat}(hl:c.length=m+1)(hg:∀k,k<m+1->((alP f row c k:Int):Rat)=g k):∀k,k<=m+1->((alS f row c k:Int):Rat)=aP (λk=>sgn (m-k)*g k) k
 | 0,_=>rfl
 | k+1,h=>by
   have ih:=uO hl hg k (by omega);rw[alS,aP,<- ih,<- hg k (by omega),hl];unfold sgn;rw[HY _ (by decide)];by_cases z:(m-k)%2=0
   . rw[if_pos z,if_neg (by omega),Jy,Iz]
   . rw[if_neg z,if_pos (by omega),Rat.intCast_sub,Rat.sub_eq_add_neg,Rat.neg_mul,Iz]
theorem tG {M M':Nat->Nat->Rat}{L:List Nat}(h:∀r,r<L.length->∀j,M r j=M' r j):eI M L=eI M' L:=by unfold eI;exact cB λr hr q _=>h r hr _
theorem xZ (R:List (List Int))(ls:List Int)(t r j:Nat)(h:r<t):dtM (lnR R (ls.take t)) r j=dtM (lnR R ls) r j:=by
 have e:(lnR R (ls.take t)).getD r []=(lnR R ls).getD r []:=by unfold lnR;rw[Ik,GV,GV,Lx h]
 unfold dtM;rw[e]
theorem uQ (c:List Int)(k:Nat):(ers c k).map JA=(c.map JA).eraseIdx k:=by unfold ers;rw[HB,GN,Ik,JS]
theorem oK (R:List (List Int)):∀(t:Nat) (ls c:List Int),ls.length=t->c.length=t->((dtm R t ls c:Int):Rat)=eI (dtM (lnR R ls)) (c.map JA)
 | 0,ls,c,_,hc=>by cases LC.mp hc;rfl
 | t+1,ls,c,hl,hc=>by
   have hL:(c.map JA).length=t+1:=by rw[fw,hc]
   rw[kE hL,dtm];unfold alR;rw[hc]
   have:=uO (f:=dtm R t (ls.take t)) (row:=R.getD (gR ls).toNat []) (c:=c) (g:=λk=>dtM (lnR R ls) t ((c.map JA).getD k 0)*eI (dtM (lnR R ls)) ((c.map JA).eraseIdx k)) hc (λk hk=>by
     unfold alP;have e1:(c.map JA).getD k 0=(c.getD k 0).toNat:=by simp[show k<c.length by omega]
     have e2:(lnR R ls).getD t []=R.getD (gR ls).toNat []:=by unfold lnR gR;rw[hl];simp[show t<ls.length by omega]
     have l2:(ers c k).length=t:=by have:=congrArg List.length (uQ c k);rw[fw,JB (by omega),hL]at this;exact this
     rw[GJ,oK R t (ls.take t) (ers c k) (by rw[GZ,hl]; omega) l2,uQ];rw[e1];have e3:dtM (lnR R ls) t (c.getD k 0).toNat=(((R.getD (gR ls).toNat []).getD (c.getD k 0).toNat 0:Int):Rat):=by unfold dtM; rw[e2]
     rw[e3];refine congrArg _ (tG λr hr j=>xZ R ls t r j ?_);rw[JB (by omega),hL]at hr;omega) (t+1) (ia _)
   rw[this];refine aO λk hk=>?_;rw[KG]
noncomputable def lkP (n:Nat):Nat->List (List Int)
 | 0=>[[]]
 | i+1=>lkP n i++nxK n i (lkP n i)
theorem kM {κ:Type}[DecidableEq κ]{v:κ->D}{ks:List κ}{k:κ}:k∈(mkM v ks).map (·.1)↔k∈ks:=by
 constructor
 . intro h;obtain⟨q,hq,rfl⟩:=Gy.mp h;exact(gH hq).1
 . intro h;exact Gy.mpr ⟨_,qp (du (v:=v) h),rfl⟩
theorem uX {n i:Nat}{ks:List (List Int)}{ls:List Int}:ls∈nxK n i ks↔∃l,l∈ks/\l.length<n/\l++[(i:Int)]=ls:=by
 unfold nxK;rw[Gy];constructor
 . rintro⟨l,h,e⟩;rw[IQ]at h;exact⟨l,h.1,of_decide_eq_true h.2,e⟩
 . rintro⟨l,h,z,e⟩;exact⟨l,IQ.mpr ⟨h,decide_eq_true z⟩,e⟩
theorem oj (R:List (List Int))(n:Nat):∀i (ls:List Int),ls∈lks R n i↔ls∈lkP n i
 | 0,_=>Iff.rfl
 | i+1,ls=>by have ih:=oj R n i;rw[lks,lkP,Gv,Gv,uX,uX,ih];refine or_congr Iff.rfl (exists_congr λl=>?_);rw[kM,ih]
theorem Cu:∀n,n<8->∀m,m<8->(((lkP n m).all λls=>(chs m ls.length).contains ls&&decide (ls.length<=min m n))&&(ox (min m n+1)).all λt=>(chs m t).all λls=>(lkP n m).contains ls)=true:=by decide +kernel
theorem Cf:∀n,n<8->(((ox (2^n)).all λS=>(chs n (cols n S).length).contains ((cols n S).map Ll))&&(ox 8).all λt=>(chs n t).all λc=>(ox (2^n)).any λS=>decide (cols n S=c.map JA))=true:=by decide +kernel
theorem uG {m n k:Nat}{ls c:List Int}:(ls,c)∈kys m n k↔∃s,s<k/\ls∈chs m (s+1)/\c∈chs n (s+1):=by
 unfold kys ky1;constructor
 . intro h;obtain⟨s,hs,h⟩:=Jn.mp h;obtain⟨l,hl,h⟩:=Jn.mp h;obtain⟨d,hd,e⟩:=Gy.mp h;cases e;exact⟨s,GQ.mp hs,hl,hd⟩
 . rintro⟨s,hs,h1,h2⟩;exact Jn.mpr ⟨s,GQ.mpr hs,Jn.mpr ⟨ls,h1,Gy.mpr ⟨c,h2,rfl⟩⟩⟩
theorem zr {x y:Int}(h:(x:Rat)=(y:Rat)):x=y:=by exact_mod_cast h
theorem rE {R:List (List Int)}{m n b:Nat}(ok:Rw m n b R){t:Int}(ht:t<=1):(∀p∈kys m n (min m n),t<=vD R p)↔∀ls∈lks R n m,∀q∈bJ n (lnR R ls),t<=q.2:=by
 have m7:=ok.m1.2;have n7:=ok.n1.2;have f1:=Bool.and_eq_true_iff.mp (Cu n (by omega) m (by omega));have f2:=Bool.and_eq_true_iff.mp (Cf n (by omega));constructor
 . intro h ls hls q hq;have hP:=Hb.mp f1.1 ls ((oj R n m ls).mp hls);rw[Hc]at hP;have hc:ls∈chs m ls.length:=by simpa using hP.1
   have hl:=of_decide_eq_true hP.2;have RIk:=jh n (lnR R ls);have lnl:(lnR R ls).length=ls.length:=by unfold lnR; rw[fw]
   rw[lnl]at RIk;obtain⟨S,e1,e2,e3⟩:=RIk.key q.1 (Gy.mpr ⟨q,hq,rfl⟩);have hg:=sx RIk.nd hq;have hv:=(RIk.all S e2 e3).2;unfold gv at hv;rw[<- e1,hg,JQ]at hv;have hcc:(cols n S).map Ll∈chs n ls.length:=by have:=Hb.mp f2.1 S (GQ.mpr e2);rw[e3]at this;simpa using this
   have et:((cols n S).map Ll).map JA=cols n S:=by rw[GO];exact(GY λx _=>rfl).trans (List.map_id _)
   have hd:=oK R ls.length ls ((cols n S).map Ll) rfl (by rw[fw,e3]);rw[et,<- hv]at hd;have e:=zr hd;rw[<- e];cases hl0:ls.length with
   | zero=>exact ht
   | succ s=>have:=h (ls,(cols n S).map Ll) (uG.mpr ⟨s,by omega,by rw[<- hl0]; exact hc,by rw[<- hl0]; exact hcc⟩);unfold vD at this;rw[hl0]at this;exact this
 . rintro h ⟨ls,c⟩ hp;obtain⟨s,hs,h1,h2⟩:=uG.mp hp;have l1:=(eW m _ ls h1).len;have l2:=(eW n _ c h2).len
   have hls:ls∈lks R n m:=(oj R n m ls).mpr (by
     have:=Hb.mp (Hb.mp f1.2 (s+1) (GQ.mpr (by omega))) ls h1;simpa using this)
   obtain⟨S,hS,eS⟩:=K3.mp (Hb.mp (Hb.mp f2.2 (s+1) (GQ.mpr (by omega))) c h2);have eS:=of_decide_eq_true eS;have RIk:=jh n (lnR R ls);have lnl:(lnR R ls).length=ls.length:=by unfold lnR; rw[fw]
   rw[lnl,l1]at RIk;obtain⟨a1,a2⟩:=RIk.all S (GQ.mp hS) (by rw[eS,fw,l2]);have hd:=oK R (s+1) ls c l1 l2;rw[<- eS,<- a2]at hd;unfold gv at hd;have e:=zr hd;show t<=dtm R ls.length ls c;rw[l1,e];cases hg:bH (bJ n (lnR R ls)) (S:Int) with
   | none=>exact absurd hg a1
   | some v=>rw[JQ];unfold bH at hg;obtain⟨p,h3,h4⟩:=IX.mp hg;rw[<- h4];exact h ls hls p (IF h3)
theorem Qs.sq {d v:Nat}{q:Rat}(h:Qs d v q):Sq (v+d) q:=by refine⟨?_,h.den.mono (by omega)⟩;have h1:=h.den;unfold Bd at h1 ⊢;rw[JH]at h1;rw[Lk];exact GX h.val (Lp h1 (Hv v))
noncomputable def fuO (R:List (List Int))(m n:Nat)(t:Int):Option (List Int×List Int):=(((fdM R (kys m n (min m n))).map (·.1)).find? λp=>decide (vD R p<t))
noncomputable def fuD:Option (List Int×List Int)->D
 | none=>.non
 | some p=>.tup [.lst (p.1.map .int),.lst (p.2.map .int)]
theorem AO {R:List (List Int)}{m n:Nat}{t:Int}:fuO R m n t=none↔∀p∈kys m n (min m n),t<=vD R p:=by
 unfold fuO;rw[List.find?_eq_none];constructor
 . intro h p hp;have:=h p (Gy.mpr ⟨_,qp (du (v:=λp=>D.int (vD R p)) hp),rfl⟩);have:=of_decide_eq_false (by simpa using this:decide (vD R p<t)=false);omega
 . intro h p hp;obtain⟨q,hq,rfl⟩:=Gy.mp hp;have:=h _ (gH hq).1;simp;omega
theorem DV {X:Cx}{o:Option (List Int×List Int)}:bW X (compareOp .Is) (fuD o) .non (.bl o.isNone):=⟨_,CL,λ_ v w H Q _ d1 d2 k=>by
 cases d2;cases o with
 | none=>cases d1; exact⟨rfl,by rw[decide_eq_true rfl]; exact k _ H (ak.refl _) .bl⟩
 | some i=>cases d1; exact⟨rfl,by rw[decide_eq_false (by intro z; cases z)]; exact k _ H (ak.refl _) .bl⟩⟩
def dZ (ds:List D)(r:Sl):Prop:=∃(m n d v:Nat) (M:List (List Rat)) (t:Int),ds=[tbQ M,.int t]/\Tq m n M/\(∀r∈M,∀x∈r,Qs d v x)/\v+(1+n*d)<=8999/\(∃b,Rw m n b (whM M (M.map scL)))/\r=.d (fuD (fuO (whM M (M.map scL)) m n t))
def gw (ds:List D)(r:Sl):Prop:=∃(m n d v:Nat) (M:List (List Rat)),ds=[tbQ M]/\Tq m n M/\(∀r∈M,∀x∈r,Qs d v x)/\v+(1+n*d)<=8999/\(∃b,Rw m n b (whM M (M.map scL)))/\r=.d (.bl (fuO (whM M (M.map scL)) m n 1).isNone)
section
variable {P:Program}{w:World}{K:gV}{mg:Str->Option Value}{base:Heap}{k:Nat}{f:Addr}{fd:FuncData}{qual:Str}
set_option maxHeartbeats 1000000 in
theorem kD (F:Fun K "first_under" qual (top 32) f fd)(hb:∀x∈ah,mg x=none)(c_all_determinants:Cal P w K mg base k "all_determinants" (bV P w))(c_whole_rows:Cal P w K mg base k "whole_rows" fb)(c_scale_of:Cal P w K mg base k "scale_of" iq):aH P w K mg base CX0 (k+1) f fd ["table","bound"] (spD K dZ):=by
 refine fnD F gb hb (by rintro _ _ ⟨_,_,_,_,_,_,rfl,_⟩; rfl) ?_;rintro _ _ ⟨m,n,d,v,M,t,rfl,tq,hq,hz,⟨b0,ok⟩,rfl⟩ cdv A outer s H E b;have nd:=gb.nd;have hu:(Xc P w K mg base ["table","bound","found","choices"] qual (top 32) f cdv A outer s H E).A.units+16<cLine:=GX (HW (by decide:16<=64) _) b.room.units;have r7:=tq.r7;have c7:=tq.c7;have nd1:d<=n*d:=Nat.le_mul_of_pos_left d tq.c1;generalize hRR:whM M (M.map scL)=R at ok;have es:(D.lst ((M.map scL).map .int))=.lst ((ox (M.map rwQ).length).map λi=>D.int (scL (M.getD i []))):=by exact congrArg D.lst (((pO (λr:List Rat=>D.int (scL r)) M [] (fw ..)).trans (by rw[GO]; rfl)).symm)
 refine aA 2 nd (x_call b c_all_determinants (ab (a7 (x_call b c_whole_rows (ab (aa 0) (ab (a7 (cR (cmp 0 (g:=λi=>rwQ (M.getD i [])) (f:=λi=>.int (scL (M.getD i []))) b (a9 (aa 0)) (fI (f:=rwQ) (xs:=M) []) (by rw[fw,tq.len]; omega) λi hi s0 H0 fp=>(x_call (b.comp s0 H0 _ fp) c_scale_of (ab (aa 0) af) ⟨_,d,rfl,?_,?_,?_,?_,rfl⟩)))) af)) ⟨M,M.map scL,v+d,by rw[es],by rw[fw],by rw[tq.len]; omega,λr hr=>⟨by rw[tq.row r hr]; omega,λx hx=>(hq r hr x hx).sq⟩,by omega,?_,rfl⟩)) af) ⟨R,m,n,_,by rw[hRR],ok,rfl⟩) ?_
 . rw[tq.row _ (fN (by simpa using hi))]; omega
 . exact λx hx=>(hq _ (fN (by simpa using hi)) x hx).den
 . rw[tq.row _ (fN (by simpa using hi))]; omega
 . omega
 . intro s hs;obtain⟨r,hr,rfl⟩:=Gy.mp hs;have:=lx (d:=d) (r:=r) λx hx=>(hq _ hr x hx).den;rw[tq.row r hr]at this;exact this.mono (by omega)
 have hall:∀p∈(fdM R (kys m n (min m n))).map (·.1),getM (fdM R (kys m n (min m n))) p=some (.int (vD R p)):=λp hp=>by obtain⟨q,hq,rfl⟩:=Gy.mp hp;exact du (gH hq).1
 unfold fuO;generalize hks:(fdM R (kys m n (min m n))).map (·.1)=ks at hall;have em:(fdM R (kys m n (min m n))).map (λp=>kTT.toD p.1)=ks.map kTT.toD:=by rw[<- hks,GO]; rfl
 refine bK 3 (g:=λi=>kTT.toD (ks.getD i ([],[]))) (λi τ=>(ks.take i).find? (λp=>decide (vD R p<t))=none/\∃s3,τ=[.d (tbQ M),.d (.int t),.d (.box (bxW kTT mH P w (fdM R (kys m n (min m n))))),s3]) b nd (em▸vh (aa 2)) (fI (f:=kTT.toD) (xs:=ks) ([],[])) ⟨rfl,.un,rfl⟩ (λi hi τ h=>?_) λτ h=>?_
 . obtain⟨h0,s3,rfl⟩:=h;have hi:i<ks.length:=by simpa using hi
   have mi:ks.getD i ([],[])∈ks:=fN hi;have g:=hall _ mi;have es:ks.take (i+1)=ks.take i++[ks.getD i ([],[])]:=take_snoc _ hi;generalize hp:ks.getD i ([],[])=p at g es;refine hJ (aX (zy (a:=kTT) (hd:=mH) (key:=p) hu (aa 2) (aa 3) g (uV _) fD) (aa 1) wj) (λh=>?_) λh=>?_
   . have e:ks.find? (λp=>decide (vD R p<t))=some p:=by
       have e1:ks=ks.take i++p::ks.drop (i+1):=by have:=List.take_append_drop (i+1) ks;rw[es,Ht]at this;exact this.symm
       rw[e1,KL,h0,HU,h];rfl
     rw[e];exact aL (bz (ab (a7 (kR b (ab (av (aa 3) ae (aq rfl)) af) uo)) (ab (a7 (kR b (ab (av (aa 3) ae (aq rfl)) af) uo)) af))) rfl
   . refine aK ⟨?_,_,rfl⟩;rw[es,KL,h0,HU,h];rfl
 . obtain⟨h0,s3,rfl⟩:=h;rw[fw,Gx (ia _)]at h0;rw[h0];exact aL Bn rfl
theorem oW (F:Fun K "is_strict" qual (top 31) f fd)(hb:∀x∈ah,mg x=none)(c_look_table:Cal P w K mg base k "look_table" eZ)(c_first_under:Cal P w K mg base k "first_under" dZ):aH P w K mg base CX0 (k+1) f fd ["table"] (spD K gw):=by refine fnD F oN hb (by rintro _ _ ⟨_,_,_,_,_,rfl,_⟩; rfl) ?_;rintro _ _ ⟨m,n,d,v,M,rfl,t,hq,hz,hw,rfl⟩ cdv A outer s H E b;refine dM (x_call b c_look_table (ab (aa 0) af) ⟨m,n,M,rfl,t,rfl⟩) ?_;exact aL (cc (x_call b c_first_under (ab (aa 0) (ab ae af)) ⟨m,n,d,v,M,1,rfl,t,hq,hz,hw,rfl⟩) Bn DV) rfl
end
theorem xY {t:Int}:∀(kv:List (Int×Int)) (a:Int),t<=lsV a kv↔t<=a/\∀q∈kv,t<=sg1 q.2
 | [],a=>by simp[lsV]
 | p::kv,a=>by
   have ih:=xY (t:=t) kv (min a (sg1 p.2));show t<=lsV (min a (sg1 p.2)) kv↔_;rw[ih];constructor
   . rintro⟨h1,h2⟩
     exact⟨by omega,λq hq=>by
       rcases xb.mp hq with rfl | hq
       . omega
       . exact h2 q hq⟩
   . rintro⟨h1,h2⟩;have:=h2 p (rp ..);exact⟨by omega,λq hq=>h2 q (pq _ hq)⟩
theorem xi {R:List (List Int)}{n:Nat}{t:Int}:∀(ks:List (List Int)) (a:Int),t<=lsA R n a ks↔t<=a/\∀ls∈ks,∀q∈bJ n (lnR R ls),t<=sg1 q.2
 | [],a=>by simp[lsA]
 | ls::ks,a=>by
   have ih:=xi (R:=R) (n:=n) (t:=t) ks (lsV a (bJ n (lnR R ls)));show t<=lsA R n (lsV a (bJ n (lnR R ls))) ks↔_;rw[ih,xY];constructor
   . rintro⟨⟨h1,h2⟩,h3⟩
     exact⟨h1,λl hl=>by
       rcases xb.mp hl with rfl | hl
       . exact h2
       . exact h3 l hl⟩
   . rintro⟨h1,h2⟩;exact⟨⟨h1,h2 ls (rp ..)⟩,λl hl=>h2 l (pq _ hl)⟩
theorem y9 {t x:Int}(h:t=0\/t=1):t<=sg1 x↔t<=x:=by
 unfold sg1;split
 . omega
 . split <;> omega
theorem y0 {R:List (List Int)}{m n b:Nat}(ok:Rw m n b R){t:Int}(h:t=0\/t=1):(fuO R m n t).isNone=decide (t<=lsA R n 1 ((mkM (vMn R n) (lks R n m)).map (·.1))):=by
 have e:(fuO R m n t).isNone=true↔t<=lsA R n 1 ((mkM (vMn R n) (lks R n m)).map (·.1)):=by
   rw[Option.isNone_iff_eq_none,AO,rE ok (by omega),xi];constructor
   . intro z;exact⟨by omega,λls hl q hq=>(y9 h).mpr (z ls (kM.mp hl) q hq)⟩
   . rintro⟨_,z⟩ ls hl q hq;exact(y9 h).mp (z ls (kM.mpr hl) q hq)
 by_cases z:t<=lsA R n 1 ((mkM (vMn R n) (lks R n m)).map (·.1))
 . rw[decide_eq_true z,e.mpr z]
 . rw[decide_eq_false z];cases hh:(fuO R m n t).isNone with
   | false=>rfl
   | true=>exact absurd (e.mp hh) z
noncomputable def prZ (ns:List Int):Int:=ns.foldl (·*·) 1
theorem xT (ns:List Int)(n:Int):prZ (ns++[n])=prZ ns*n:=by unfold prZ; rw[Hm]; rfl
theorem zv {d:Nat}:∀(r:List Int) (s:Int) (n:Nat),Bd n s->(∀q∈r,Bd d q)->Bd (n+r.length*d) (r.foldl (·*·) s)
 | [],s,n,h,_=>by simpa using h
 | q::r,s,n,h,hd=>by
   have:=zv r _ _ (h.mul (hd q (rp ..))) λx hx=>hd x (pq _ hx);rw[GK,Ij]
   rwa [show n+d+r.length*d=n+(r.length*d+d) by omega]at this
theorem BS {d:Nat}{r:List Int}(h:∀q∈r,Bd d q):Bd (1+r.length*d) (prZ r):=zv r 1 1 (by unfold Bd; decide) h
theorem Bu {s:Int}(hs:0<s)(q:Rat):(s*(q.den:Nat))/(GG s (q.den:Nat):Int)=scS s q:=by unfold scS;have d1:(GG s (q.den:Nat):Int)∣s:=IJ ..;rw[Km s,Int.mul_ediv_assoc _ d1,Km]
def kY (ds:List D)(r:Sl):Prop:=∃(R C d v:Nat) (M:List (List Rat)),ds=[tbQ M]/\Tq R C M/\(∀r∈M,∀x∈r,Qs d v x)/\1+C*d<=8999/\v+d<=8999/\r=.d (.tup [.lst ((whM M (M.map scL)).map dtR),.int (prZ (M.map scL))])
theorem zi {M:List (List Rat)}{i:Nat}(h:i<M.length):((ox (i+1)).map λi=>whR (M.getD i []) (scL (M.getD i [])))=((ox i).map λi=>whR (M.getD i []) (scL (M.getD i [])))++[whR (M.getD i []) (scL (M.getD i []))]:=by rw[HD,GN];rfl
theorem Az (M:List (List Rat)):(ox M.length).map (λi=>whR (M.getD i []) (scL (M.getD i [])))=whM M (M.map scL):=by unfold whM;refine GY λi hi=>?_;have:i<M.length:=GQ.mp hi;simp[this]
section
variable {P:Program}{w:World}{K:gV}{mg:Str->Option Value}{base:Heap}{k:Nat}{f:Addr}{fd:FuncData}{qual:Str}
set_option maxHeartbeats 1000000 in
theorem vR (F:Fun K "_law_rows" qual (top 65) f fd)(hb:∀x∈ah,mg x=none)(c_l_divisor:Cal P w K mg base k "_law_divisor" cF):aH P w K mg base CX0 (k+1) f fd ["_law_table"] (spD K kY):=by
 refine fnD F ny hb (by rintro _ _ ⟨_,_,_,_,_,rfl,_⟩; rfl) ?_;rintro _ _ ⟨R,C,d,v,M,rfl,t,hq,z1,z2,rfl⟩ cdv A outer s H E b;have nd:=ny.nd;have r7:=t.r7;have c7:=t.c7;refine aA 1 nd (bY af) ?_;refine aA 2 nd ae ?_;refine bK 3 (g:=λi=>rwQ (M.getD i [])) (λi τ=>i<=M.length/\∃s3 s4 s5,τ=[.d (tbQ M),.o (((ox i).map λi=>whR (M.getD i []) (scL (M.getD i []))).map dtR),.d (.int (prZ ((M.map scL).take i))),s3,s4,s5]) b nd (a9 (aa 0)) (fI (f:=rwQ) (xs:=M) []) ⟨G5 _,.un,.un,.un,rfl⟩ (λi hi τ h=>?_) λτ h=>?_
 . obtain⟨_,s3,s4,s5,rfl⟩:=h;have hi:i<M.length:=by simpa using hi
   have mi:=fN (xs:=M) (d:=[]) hi;have hiR:i<R:=by rw[<- t.len]; exact hi
   have hC:=t.at_ hiR;have qr:=hq _ mi;rw[zi hi];have et:(M.map scL).take (i+1)=(M.map scL).take i++[scL (M.getD i [])]:=by rw[Lq,GL,ph hi];simp[hi]
   rw[et,xT]
   have bpr:Bd (1+R*8999) (prZ ((M.map scL).take i)):=(BS (d:=8999) λx hx=>by
     obtain⟨r,hr,rfl⟩:=Gy.mp (ID hx);have:=lx (d:=d) (r:=r) λx hx=>(hq r hr x hx).den;rw[t.row r hr]at this
     exact this.mono z1).mono (by
       have:((M.map scL).take i).length<=R:=by rw[GZ,fw,t.len]; omega
       have:=G2 8999 this;omega)
   generalize prZ ((M.map scL).take i)=pr at bpr ⊢;generalize hg:((ox i).map λi=>whR (M.getD i []) (scL (M.getD i [])))=Gs;have lGs:Gs.length=i:=by rw[<- hg]; simp
   generalize M.getD i []=row at mi hC qr ⊢;refine aA 4 nd ae ?_;refine bK 5 (g:=λj=>frD (row.getD j 0)) (λj τ=>j<=row.length/\∃s5,τ=[.d (tbQ M),.o (Gs.map dtR),.d (.int pr),.d (rwQ row),.d (.int (scL (row.take j))),s5]) b nd (a9 (aa 3)) (fI (f:=frD) (xs:=row) 0) ⟨G5 _,s5,rfl⟩ (λj hj τ h=>?_) λτ h=>?_
   . obtain⟨_,s5,rfl⟩:=h;have hj:j<row.length:=by simpa using hj
     have mm:=fN (d:=(0:Rat)) hj;have hs:=(tY (row.take j)).1
     have bs:Bd (1+C*d) (scL (row.take j)):=(lx λx hx=>(qr x (ID hx)).den).mono (by
       have:(row.take j).length*d<=C*d:=G2 _ (by rw[GZ]; omega);omega)
     have et:row.take (j+1)=row.take j++[row.getD j 0]:=by rw[Lq,ph hj]; simp[hj]
     rw[et,rh];generalize scL (row.take j)=sc at hs bs ⊢;generalize row.getD j 0=x at mm ⊢;have hx:=den_pos x;have sd:=(qr x mm).den;have dv:aE (GG sc (x.den:Nat):Int):=(sd.gcd (by omega)).aE (jC (by omega)) (by omega);refine aA 4 nd (aB (aB (aa 4) (av (aa 5) ae (aq (ai (i:=1) rfl))) (bf (bs.aJ sd (by omega) (by omega)))) (x_call b c_l_divisor (ab (aa 4) (ab (av (aa 5) ae (aq (ai (i:=1) rfl))) af)) ⟨_,_,rfl,rfl⟩) (bg dv)) (aK ⟨hj,.d (frD x),?_⟩);rw[cU,Bu hs];rfl
   . obtain⟨_,s5,rfl⟩:=h;rw[fw,K2];have br:=lx (d:=d) (r:=row) λx hx=>(qr x hx).den;rw[hC]at br;refine qx 1 (x:=dtR (whR row (scL row))) (a7 (cR (cmp 0 (g:=λj=>frD (row.getD j 0)) (f:=λj=>.int ((row.getD j 0).num*((scL row).fdiv ((row.getD j 0).den:Nat)))) b (a9 (aa 3)) (fI (f:=frD) (xs:=row) 0) (by rw[fw]; omega) λj hj s0 H0 fp=>?_)) ?hx) ?_ ?_
     . have sq:=(qr _ (fN (d:=(0:Rat)) (show j<row.length by simpa using hj))).sq;generalize row.getD j 0=x at sq ⊢;have hx:=den_pos x;have e:(scL row).fdiv (x.den:Nat)=scL row/(x.den:Nat):=Hn _ (by omega);exact aB (av (aa 0) ae (aq (ai (i:=0) rfl))) (aB (aa 1) (av (aa 0) ae (aq (ai (i:=1) rfl))) (bg (sq.den.aE (by omega) (by omega)))) (bf (by rw[e]; exact sq.num.aJ (br.ediv _) (by omega) (by omega)))
     case hx=>refine congrArg (λl=>some (D.lst l)) ((pO (λx:Rat=>D.int (x.num*((scL row).fdiv (x.den:Nat)))) row 0 (fw ..)).trans ?_);unfold whR;rw[GO];refine GY λx _=>?_;simp only[Jk];rw[Hn _ (by have:=den_pos x; omega)]
     . rw[fw,lGs]; omega
     . refine aA 2 nd (aB (aa 2) (aa 4) (bf (bpr.aJ br (by omega) (by omega)))) (aK ⟨hi,.d (rwQ row),.d (.int (scL row)),s5,?_⟩);rw[GN];rfl
 . obtain⟨_,s3,s4,s5,rfl⟩:=h;rw[fw,Az,Gx (by rw[fw]; exact ia _)];exact aL (bz (ab (gu 1) (ab (aa 2) af))) rfl
end
theorem Ai {z D:Int}{q:Rat}(hD:0<D)(h:(z:Rat)=q*(D:Rat)):((q.den:Nat):Int)∣D:=by have e:=(cq hD h).2;exact⟨(GG z D:Int),by rw[e,Int.ediv_mul_cancel (HR ..)]⟩
theorem AD {s D:Int}(hs:0<s){q:Rat}(h1:s∣D)(h2:((q.den:Nat):Int)∣D):scS s q∣D:=by
 have e:scS s q=((Nat.lcm s.natAbs q.den:Nat):Int):=by rw[<- Bu hs q];unfold Nat.lcm;rw[Int.natCast_ediv,Int.natCast_mul,Int.natAbs_of_nonneg (by omega)];rfl
 rw[e];refine Int.ofNat_dvd_left.mpr (Nat.lcm_dvd (Int.natAbs_dvd_natAbs.mpr h1) (Int.ofNat_dvd_left.mp h2))
theorem vA {D:Int}:∀(r:List Rat) (s:Int),0<s->s∣D->(∀q∈r,((q.den:Nat):Int)∣D)->r.foldl scS s∣D
 | [],_,_,h,_=>h
 | q::r,s,hs,h,hr=>vA r (scS s q) (yf hs q).1 (AD hs h (hr q (rp ..))) λx hx=>hr x (pq _ hx)
theorem zT {D:Int}{r:List Rat}(hr:∀q∈r,((q.den:Nat):Int)∣D):scL r∣D:=vA r 1 (by decide) (Int.one_dvd _) hr
noncomputable def mkT (R C:Nat)(G:Nat->Nat->Rat):List (List Rat):=(ox R).map λi=>(ox C).map (G i)
theorem ku (R C:Nat)(G:Nat->Nat->Rat):(mkT R C G).length=R:=by simp[mkT]
theorem Ad {R C i:Nat}{G:Nat->Nat->Rat}(hi:i<R):(mkT R C G).getD i []=(ox C).map (G i):=by simp[mkT,hi]
theorem Cw {R C:Nat}{G:Nat->Nat->Rat}(r1:1<=R)(r7:R<=7)(c1:1<=C)(c7:C<=7):Tq R C (mkT R C G):=⟨r1,r7,c1,c7,ku R C G,λr hr=>by
 unfold mkT at hr;obtain⟨i,_,rfl⟩:=Gy.mp hr;simp⟩
def Cq (w d m:Nat)(r:Nat->Rat):Prop:=∃D:Int,0<D/\D.natAbs<=2^d/\∀a<w,∃z:Int,(z:Rat)=r a*(D:Rat)/\z.natAbs<=2^m
theorem EY {C d m:Nat}{g:Nat->Rat}(h:Cq C d m g):∀x∈whR ((ox C).map g) (scL ((ox C).map g)),x.natAbs<=2^m:=λx hx=>by
 unfold whR at hx;obtain⟨q,hq,rfl⟩:=Gy.mp hx;obtain⟨D,d0,d1,gg⟩:=h;have dv:scL ((ox C).map g)∣D:=zT λy hy=>by obtain⟨b,hb,rfl⟩:=Gy.mp hy;obtain⟨z,hz,_⟩:=gg b (GQ.mp hb);exact Ai d0 hz
 have so:=tY ((ox C).map g);have wq:=Ga (so.2 q hq);obtain⟨a,ha,rfl⟩:=Gy.mp hq;obtain⟨z,hz,z1⟩:=gg a (GQ.mp ha);generalize scL ((ox C).map g)=s at dv so wq ⊢;generalize (g a).num*(s/((g a).den:Nat))=y at wq ⊢;obtain⟨t,rfl⟩:=dv
 have ez:z=y*t:=by
   have:(z:Rat)=((y*t:Int):Rat):=by rw[hz,GJ,GJ,wq,KG]
   exact Rat.intCast_inj.mp this
 have t0:t≠0:=λz=>by rw[z,Int.mul_zero]at d0; exact absurd d0 (by decide)
 rw[ez,Ly]at z1;exact GB (LM _ (by omega)) z1
theorem rw_cq {R C d m:Nat}{G:Nat->Nat->Rat}(r1:1<=R)(r7:R<=7)(c1:1<=C)(c7:C<=7)(hm:m+1<=1400)(h:∀i<R,Cq C d m (G i)):Rw R C (m+1) (whM (mkT R C G) ((mkT R C G).map scL)):=by
 refine⟨by unfold whM; simp[ku],λr hr=>?_,⟨r1,r7⟩,⟨c1,c7⟩,hm⟩;unfold whM at hr;obtain⟨i,hi,rfl⟩:=Gy.mp hr;rw[GQ,ku]at hi;have e:((mkT R C G).map scL).getD i 0=scL ((mkT R C G).getD i []):=by simp[show i<(mkT R C G).length by rw[ku]; exact hi]
 rw[e,Ad hi];refine⟨by unfold whR; simp,λx hx=>?_⟩;have:=EY (h i hi) x hx;unfold Bd;rw[Kj];have:=Hv m;omega
theorem Qs.of {t b:Int}{q:Rat}{d v:Nat}(hb:0<b)(h:(t:Rat)=q*(b:Rat))(hd:Bd d b)(hv:t.natAbs<=2^v):Qs d v q:=by
 obtain⟨e1,e2⟩:=cq hb h;refine⟨by rw[e2]; exact hd.ediv _,?_⟩;have h1:q.num.natAbs<=t.natAbs:=by rw[e1]; exact Lz ..
 exact GB h1 (GB hv (LM _ q.den_pos))
theorem Wq.mono {a b:Nat}{q:Rat}(h:Wq a q)(g:a<=b):Wq b q:=⟨h.n0,h.sq.mono g⟩
open Classical in
noncomputable def mw (s:Stp):Bool:=!decide (Wq 34 s.2.2)
noncomputable def eS (s:Stp):Nat:=if mw s=true then 67 else 34
noncomputable def di:List Stp->Nat
 | []=>0
 | s::ss=>eS s+di ss
theorem xO {s:Stp}(h:mw s=false):Wq 34 s.2.2:=by unfold mw at h;simpa using h
theorem ye {s:Stp}(h:Wq 34 s.2.2):mw s=false:=by unfold mw;simpa using h
theorem vg:∀ss:List Stp,di ss<=34*ss.length+33*ss.countP mw
 | []=>by simp[di]
 | s::ss=>by have ih:=vg ss;rw[di,List.countP_cons,GK];unfold eS;split <;> omega
structure LI (T c l:Nat)(ss:List Stp):Prop where
 st:∀s∈ss,okS T s/\Wq 67 s.2.2
 big:ss.countP mw<=c
 len:ss.length<=l
noncomputable def nxt (ss:List Stp)(a:Nat)(ys:List Stp):List Stp:=ss.take a++ys++ss.drop (a+1)
theorem LI.mono {T c l l':Nat}{ss:List Stp}(h:LI T c l ss)(g:l<=l'):LI T c l' ss:=⟨h.st,h.big,GB h.len g⟩
theorem LI.nxt {T c l a:Nat}{ss ys:List Stp}(h:LI T c l ss)(hy:∀s∈ys,okS T s/\Wq 34 s.2.2)(h1:ys.length<=1):LI T c (l+1) (nxt ss a ys):=by
 have sb:(ss.take a++ss.drop (a+1)).Sublist ss:=by rw[<- HB];exact List.eraseIdx_sublist ..
 have cy:ys.countP mw=0:=Kq.mpr λs hs=>by rw[ye (hy s hs).2]; decide
 have hl:=sb.length_le;have hc:=sb.countP_le (p:=mw);have hb:=h.big;have hn:=h.len;rw[vp]at hl;rw[Kz]at hc;unfold K67.nxt;refine⟨λs hs=>?_,?_,?_⟩
 . rw[Gv,Gv]at hs;rcases hs with (hs | hs) | hs
   . exact h.st s (ID hs)
   . exact⟨(hy s hs).1,(hy s hs).2.mono (by decide)⟩
   . exact h.st s (List.mem_of_mem_drop hs)
 . rw[Kz,Kz,cy];omega
 . rw[vp,vp];omega
def Lok (T:Nat)(ss:List Stp):Prop:=LI T 0 25 ss\/LI T 4 21 ss
theorem Lok.st {T:Nat}{ss:List Stp}(h:Lok T ss):∀s∈ss,okS T s:=λs hs=>(h.elim (λz=>z.st s hs) λz=>z.st s hs).1
theorem Lok.len {T:Nat}{ss:List Stp}(h:Lok T ss):ss.length<=25:=h.elim (λz=>z.len) λz=>GB z.len (by decide)
theorem Lok.wq {T:Nat}{ss:List Stp}(h:Lok T ss):∃e,e<=100/\(e+1)*ss.length<=1500/\∀i,i<ss.length->Wq e (ss.getD i ("weigh",0,0)).2.2:=by
 rcases h with h | h
 . have hl:=h.len;refine⟨34,by decide,by omega,λi hi=>?_⟩;have m:ss.getD i ("weigh",0,0)∈ss:=by simp[hi]
   have z:=Kq.mp (Nat.le_zero.mp h.big) _ m;exact xO (by simpa using z)
 . have hl:=h.len;refine⟨67,by decide,by omega,λi hi=>?_⟩;exact(h.st _ (by simp[hi]:ss.getD i ("weigh",0,0)∈ss)).2
theorem Lok.sum {T:Nat}{ss:List Stp}(h:Lok T ss):di ss<=982:=by
 have hs:=vg ss;rcases h with h | h
 . have:=h.len; have:=h.big; omega
 . have:=h.len; have:=h.big; omega
theorem Lok.w {T:Nat}{ss:List Stp}(h:Lok T ss):∀s∈ss,Wq (eS s) s.2.2:=λs hs=>by
 unfold eS;by_cases z:mw s=true
 . rw[if_pos z]; exact(h.elim (λy=>y.st s hs) λy=>y.st s hs).2
 . rw[if_neg z]; exact xO (by simpa using z)
theorem Eu {V:Nat->Nat->Rat}{P:Int}{n e:Nat}{s:Stp}(h:∀k i,Zq P n (V k i))(g:Wq e s.2.2):∀k i,Zq (P*((s.2.2.den:Nat):Int)) (n+e+1) (stV V s k i):=λk i=>by
 have u:∀k i,Zq (P*((s.2.2.den:Nat):Int)) (n+e) (V k i):=λk i=>(h k i).up g;unfold stV;split
 . unfold fW;split
   . exact((h _ i).mul g).mono (by omega)
   . exact(u k i).mono (by omega)
 . unfold fW;split
   . exact(u _ i).add ((h _ i).mul g)
   . exact(u k i).mono (by omega)
theorem uK:∀(ss:List Stp) (V:Nat->Nat->Rat) (P:Int) (p n:Nat),0<P->P<=2^p->(∀k i,Zq P n (V k i))->(∀s∈ss,Wq (eS s) s.2.2) ->
   ∃P':Int,0<P'/\P'<=2^(p+di ss)/\∀k i,Zq P' (n+di ss+ss.length) (ss.foldl stV V k i)
 | [],V,P,p,n,h1,h2,h3,_=>⟨P,h1,h2,h3⟩
 | s::ss,V,P,p,n,h1,h2,h3,hw=>by have g:=hw s (rp ..);have dp:=den_pos s.2.2;obtain⟨P',a1,a2,a3⟩:=uK ss (stV V s) (P*((s.2.2.den:Nat):Int)) (p+eS s) (n+eS s+1) (Jf h1 dp) (by rw[p2]; exact Jj h2 (bd2 g.sq.den) (by omega) (p0 _)) (Eu h3 g) λx hx=>hw x (pq _ hx);refine⟨P',a1,by rw[di,<- IB]; exact a2,λk i=>?_⟩;rw[IT];have:=a3 k i;rw[di,GK];exact this.mono (by omega)
theorem Ct {ss:List Stp}(hw:∀s∈ss,Wq (eS s) s.2.2):∃P:Int,0<P/\P<=2^di ss/\∀k i,Zq P (di ss+ss.length) (fwd ss k i):=by
 obtain⟨P,h1,h2,h3⟩:=uK ss V0 1 0 0 (by decide) (by decide) (λk i=>by
   unfold V0;split
   . exact⟨1,by decide,by simp,(Iz _).symm⟩
   . exact⟨0,by decide,by simp,(Ke _).symm⟩) hw
 exact⟨P,h1,by rwa [Nat.zero_add]at h2,λk i=>by have:=h3 k i; rwa [Nat.zero_add]at this⟩
theorem xW (R C:Nat)(V:Nat->Nat->Rat):cO C R V=mkT R C λi j=>V j i:=rfl
theorem Lok.strict {T R C:Nat}{ss:List Stp}(h:Lok T ss)(ok:okL T R C ss):∃d v,Tq R C (cO C R (fwd ss))/\(∀r∈cO C R (fwd ss),∀x∈r,Qs d v x)/\v+(1+C*d)<=8999/\1+C*d<=8999/\v+d<=8999/\∃b,Rw R C b (whM (cO C R (fwd ss)) ((cO C R (fwd ss)).map scL)):=by
 obtain⟨P,h1,h2,h3⟩:=Ct h.w;have hs:=h.sum;have hl:=h.len;have t7:=ok.t7;have rT:=ok.rT;have cT:=ok.cT;have hC:C*(di ss+1)<=7*983:=Lw (by omega) (by omega);refine⟨di ss+1,di ss+ss.length,Cw ok.r1 (by omega) ok.c1 (by omega),λr hr x hx=>?_,by omega,by omega,by omega,di ss+ss.length+1,?_⟩
 . obtain⟨i,_,rfl⟩:=Gy.mp hr;obtain⟨j,_,rfl⟩:=Gy.mp hx;obtain⟨z,z0,z1,z2⟩:=h3 j i
   exact Qs.of h1 z2 (rn (by omega) h2) (by
     have e:((2^(di ss+ss.length):Nat):Int)=(2:Int)^(di ss+ss.length):=IZ ..;omega)
 . rw[xW];refine rw_cq (d:=di ss) ok.r1 (by omega) ok.c1 (by omega) (by omega) λi _=>⟨P,h1,?_,λj _=>?_⟩
   . have e:((2^di ss:Nat):Int)=(2:Int)^di ss:=IZ ..;omega
   . obtain⟨z,z0,z1,z2⟩:=h3 j i;refine⟨z,z2,?_⟩;have e:((2^(di ss+ss.length):Nat):Int)=(2:Int)^(di ss+ss.length):=IZ ..;omega
noncomputable def dnP (c:Int)(m:Nat):List Int:=nums c [8,1+(m:Int)]
noncomputable def dnN (c:Int)(m:Nat):Nat:=if (dnP c m).getD 0 0=1 then min 4 ((dnP c m).getD 1 0).toNat else ((dnP c m).getD 1 0).toNat
noncomputable def dnG (c:Int)(m:Nat):Nat:=if (dnP c m).getD 0 0=1 then 20 else 0
noncomputable def ldS (c:Int)(T n g:Nat):List Stp:=(ox n).map (adS (adP c n g) T g)
noncomputable def dnR (c:Int)(m:Nat):Int:=c.fdiv (8+8*(m:Int))
noncomputable def dnS (c:Int)(T m:Nat):List Stp:=ldS (dnR c m) T (dnN c m) (dnG c m)
theorem zt (p:Int):Wq 3 (wgt p 0):=by have f1:=fm (a:=p) (b:=7) (by decide);have f2:=fm (a:=p.fdiv 7) (b:=4) (by decide);have eT:wgT p 0=p.fmod 7:=if_neg (by omega);have eB:wgB p 0=1+(p.fdiv 7).fmod 4:=if_neg (by omega);have h:=gM p (g:=0) (by decide);exact⟨(oS p (by decide)).1,Sq.cq (by rw[eB]; omega) h (by rw[eT]; unfold Bd; omega) (by rw[eB]; unfold Bd; omega)⟩
theorem Al (p:Int):Wq 67 (wgt p 20):=by
 have f1:=fm (a:=p) (b:=10^20) (by decide);have f2:=fm (a:=p.fdiv (10^20)) (b:=10^20-1) (by decide);have eT:wgT p 20=p.fmod (10^20):=if_pos (by omega);have eB:wgB p 20=1+(p.fdiv (10^20)).fmod (10^20-1):=if_pos (by omega);have h:=gM p (g:=20) (by decide);have z:(10:Int)^20<2^67:=by decide
 have z2:((2^67:Nat):Int)=(2:Int)^67:=by decide
 generalize (10:Int)^20=t at *
 exact⟨(oS p (by decide)).1,Sq.cq (by rw[eB]; omega) h (by rw[eT]; unfold Bd; omega) (by rw[eB]; unfold Bd; omega)⟩
theorem fE (c:Int)(T n g:Nat):(ldS c T n g).length=n:=by simp[ldS]
theorem t9 (c:Int)(T g:Nat){n i:Nat}(h:i<n):(ldS c T n g).getD i ("weigh",0,0)=adS (adP c n g) T g i:=eG _ h _
theorem rZ (c:Int){T n g:Nat}(hT:1<=T)(hg:g<=40):∀i,i<(ldS c T n g).length->okS T ((ldS c T n g).getD i ("weigh",0,0)):=λi hi=>by rw[fE]at hi;rw[t9 c T g hi];exact(DR hT hg).1
theorem Dc (c:Int){T n:Nat}:∀i,i<(ldS c T n 0).length->Wq 3 ((ldS c T n 0).getD i ("weigh",0,0)).2.2:=λi hi=>by rw[fE]at hi;rw[t9 c T 0 hi];exact zt _
theorem zO (c:Int){T n:Nat}:∀i,i<(ldS c T n 20).length->Wq 67 ((ldS c T n 20).getD i ("weigh",0,0)).2.2:=λi hi=>by rw[fE]at hi;rw[t9 c T 20 hi];exact Al _
theorem Ee (c:Int)(m:Nat):0<=(dnP c m).getD 1 0/\(dnP c m).getD 1 0<=m:=by
 have hp:∀b∈([8,1+(m:Int)]:List Int),0<b:=by intro b hb; simp at hb; omega
 have h:0<=(dnP c m).getD 1 0/\(dnP c m).getD 1 0<1+(m:Int):=oA (c:=c) hp (i:=1) (by simp);omega
def jg (ds:List D)(r:Sl):Prop:=∃(c:Int) (T R C m:Nat),ds=[.int c,.int T,.int R,.int C,.int m]/\1<=T/\m<=40/\r=.d (aI T R C (dnS c T m))
noncomputable def oeP (ns:List Int):List Int:=nums (ns.getD 0 0) [8,7,7,7]
noncomputable def oeT (ns:List Int):Nat:=(1+((oeP ns).getD 1 0).fmod (if (oeP ns).getD 0 0=1 then 7 else 4)).toNat
noncomputable def oeR (ns:List Int):Nat:=(1+((oeP ns).getD 2 0).fmod (oeT ns)).toNat
noncomputable def oeC (ns:List Int):Nat:=(1+((oeP ns).getD 3 0).fmod (oeT ns)).toNat
noncomputable def oeS (ns:List Int):List Stp:=dnS (ns.getD 1 0) (oeT ns) 8
theorem uw (ns:List Int):1<=oeT ns/\oeT ns<=7/\1<=oeR ns/\oeR ns<=oeT ns/\1<=oeC ns/\oeC ns<=oeT ns:=by
 have hT:1<=oeT ns/\oeT ns<=7:=by
   unfold oeT;split
   . have:=fm (a:=(oeP ns).getD 1 0) (b:=7) (by decide); omega
   . have:=fm (a:=(oeP ns).getD 1 0) (b:=4) (by decide); omega
 have h2:=fm (a:=(oeP ns).getD 2 0) (b:=oeT ns) (by omega);have h3:=fm (a:=(oeP ns).getD 3 0) (b:=oeT ns) (by omega);unfold oeR oeC;omega
theorem Ei (ns:List Int):1+((oeP ns).getD 1 0).fmod (if (oeP ns).getD 0 0=1 then 7 else 4)=(oeT ns:Nat):=by
 unfold oeT;split
 . have:=fm (a:=(oeP ns).getD 1 0) (b:=7) (by decide); omega
 . have:=fm (a:=(oeP ns).getD 1 0) (b:=4) (by decide); omega
theorem E9 (ns:List Int):1+((oeP ns).getD 2 0).fmod (oeT ns)=(oeR ns:Nat):=by have:=uw ns;have:=fm (a:=(oeP ns).getD 2 0) (b:=oeT ns) (by omega);unfold oeR; omega
theorem EB (ns:List Int):1+((oeP ns).getD 3 0).fmod (oeT ns)=(oeC ns:Nat):=by have:=uw ns;have:=fm (a:=(oeP ns).getD 3 0) (b:=oeT ns) (by omega);unfold oeC; omega
def n9 (ds:List D)(r:Sl):Prop:=∃ns:List Int,ds=[.lst (ns.map .int)]/\r=.d (aI (oeT ns) (oeR ns) (oeC ns) (oeS ns))
section
variable {P:Program}{w:World}{K:gV}{mg:Str->Option Value}{base:Heap}{k:Nat}{f:Addr}{fd:FuncData}{qual:Str}
theorem tS (F:Fun K "_law_drawn" qual (top 78) f fd)(hb:∀x∈ah,mg x=none)(c_l_numbers:Cal P w K mg base k "_law_numbers" bL)(c_l_ladder:Cal P w K mg base k "_law_ladder" eU):aH P w K mg base CX0 (k+1) f fd ["_law_cell_here","_law_tracks","_law_rows_here","_law_columns","_law_most"] (spD K jg):=by
 refine fnD F lQ hb (by rintro _ _ ⟨_,_,_,_,_,rfl,_⟩; rfl) ?_;rintro _ _ ⟨c,T,R,C,m,rfl,hT,hm,rfl⟩ cdv A outer s H E b;have nd:=lQ.nd;have hp:=Ee c m;have hl:(dnP c m).length=2:=fZ ..;refine aA 5 nd (x_call b c_l_numbers (ab (aa 0) (ab (a7 (bY (ab ae (ab (aB ae (aa 4) bp) af)))) af)) ⟨c,[8,1+(m:Int)],rfl,by simp,λb hb=>rj (by simp at hb; omega) (by simp at hb; omega),rfl⟩) (jE 5 ?_);refine aA 6 nd (aB (aa 0) (aB ae (aB ae (aa 4) (bf (mkL (by decide)))) bp) (bg (mkD (by omega) (by omega)))) ?_;refine hJ (aX (av (aa 5) ae (aV (bB (ns:=dnP c m) (i:=0) (by decide) (by rw[hl]; decide)))) ae gN) (λh=>?_) λh=>?_
 . have h:(dnP c m).getD 0 0=1:=of_decide_eq_true h;have e1:dnN c m=min 4 ((dnP c m).getD 1 0).toNat:=if_pos h;have e2:dnG c m=20:=if_pos h;refine aL (x_call b c_l_ladder (ab (aa 6) (ab (aa 1) (ab (aa 2) (ab (aa 3) (ab (bq b (ab ae (ab (av (aa 5) ae (aV (bB (ns:=dnP c m) (i:=1) (by decide) (by rw[hl]; decide)))) af)) (yy b.calm)) (ab ae af)))))) ⟨dnR c m,T,R,C,dnN c m,20,?_,hT,by omega,by decide,rfl⟩) (by unfold dnS; rw[e2]; rfl);have:(if (dnP c m).getD 1 0<4 then (dnP c m).getD 1 0 else 4)=(dnN c m:Nat):=by rw[e1]; split <;> omega
   rw[<- this];rfl
 . have h:¬(dnP c m).getD 0 0=1:=of_decide_eq_false h;have e1:dnN c m=((dnP c m).getD 1 0).toNat:=if_neg h;have e2:dnG c m=0:=if_neg h;refine aL (x_call b c_l_ladder (ab (aa 6) (ab (aa 1) (ab (aa 2) (ab (aa 3) (ab (av (aa 5) ae (aV (bB (ns:=dnP c m) (i:=1) (by decide) (by rw[hl]; decide)))) (ab ae af)))))) ⟨dnR c m,T,R,C,dnN c m,0,?_,hT,by omega,by decide,rfl⟩) (by unfold dnS; rw[e2]; rfl);have:(dnP c m).getD 1 0=(dnN c m:Nat):=by rw[e1]; omega
   rw[<- this];rfl
theorem xN (F:Fun K "_law_one" qual (top 79) f fd)(hb:∀x∈ah,mg x=none)(c_l_numbers:Cal P w K mg base k "_law_numbers" bL)(c_l_cell:Cal P w K mg base k "_law_cell" iW)(c_l_drawn:Cal P w K mg base k "_law_drawn" jg):aH P w K mg base CX0 (k+1) f fd ["_law_script"] (spD K n9):=by
 refine fnD F rX hb (by rintro _ _ ⟨_,rfl,_⟩; rfl) ?_;rintro _ _ ⟨ns,rfl,rfl⟩ cdv A outer s H E b;have nd:=rX.nd;have hl:(oeP ns).length=4:=fZ ..;obtain⟨h1,h2,h3,h4,h5,h6⟩:=uw ns;have eT:=Ei ns;have eR:=E9 ns;have eC:=EB ns;have a0:atI ((oeP ns).map D.int) 0=some (.int ((oeP ns).getD 0 0)):=bB (by decide) (by rw[hl]; decide);have a1:atI ((oeP ns).map D.int) 1=some (.int ((oeP ns).getD 1 0)):=bB (by decide) (by rw[hl]; decide);have a2:atI ((oeP ns).map D.int) 2=some (.int ((oeP ns).getD 2 0)):=bB (by decide) (by rw[hl]; decide);have a3:atI ((oeP ns).map D.int) 3=some (.int ((oeP ns).getD 3 0)):=bB (by decide) (by rw[hl]; decide)
 have a47:atI [D.int 4,.int 7] (if decide ((oeP ns).getD 0 0=1) then 1 else 0)=some (.int (if (oeP ns).getD 0 0=1 then 7 else 4)):=by
   by_cases z:(oeP ns).getD 0 0=1
   . rw[if_pos z,decide_eq_true z]; rfl
   . rw[if_neg z,decide_eq_false z]; rfl
 refine aA 1 nd (x_call b c_l_numbers (ab (x_call b c_l_cell (ab (aa 0) (ab ae af)) ⟨ns,0,rfl,rfl⟩) (ab (a7 (bY (ab ae (ab ae (ab ae (ab ae af)))))) af)) ⟨_,[8,7,7,7],rfl,by decide,λb hb=>rj (by simp at hb; omega) (by simp at hb; omega),rfl⟩) (jE 1 ?_);refine aA 2 nd (aB ae (aB (av (aa 1) ae (aV a1)) (av (a7 (bY (ab ae (ab ae af)))) (kR b (ab (cc (av (aa 1) ae (aV a0)) ae gN) af) qh) (aV a47)) (bP (by split <;> decide))) bp) ?_;show PSs _ _ (dS _ [.d (.lst (ns.map .int)),.d (.lst ((oeP ns).map .int)),.d (.int (1+((oeP ns).getD 1 0).fmod (if (oeP ns).getD 0 0=1 then 7 else 4)))] _);rw[eT];refine aL (x_call b c_l_drawn (ab (x_call b c_l_cell (ab (aa 0) (ab ae af)) ⟨ns,1,rfl,rfl⟩) (ab (aa 2) (ab (aB ae (aB (av (aa 1) ae (aV a2)) (aa 2) (bP (by omega))) bp) (ab (aB ae (aB (av (aa 1) ae (aV a3)) (aa 2) (bP (by omega))) bp) (ab ae af))))) ⟨_,oeT ns,oeR ns,oeC ns,8,by rw[eR,eC]; rfl,h1,by decide,rfl⟩) rfl
end
end K67
namespace Hy
open PySem PySem.Spec PyProof.Rows L2
open Ev (D Den ay)
def dNE (K:gV)(τ τ':List Sl)(d:D):TE:=λσ H Q=>∃A H₀ B,Sta K A H₀ τ B σ H/\∀v H',Sta K A H₀ τ' B σ H'->Den K (hd H' (own A B)) v d->Q v H'
def vO (K:gV)(Φ:Wx->List D->Wx->D->Prop):Sp:=λvs H Q _=>∃(M:Addr->Prop) (bs:List Addr) (u:V) (us:List V) (W:Wx) (ds:List D) (W':Wx) (d:D),vs=u::us/\tK M H bs/\bs.Nodup/\W.p K (hd H M) H u bs/\ay K (hd H M) us ds/\Φ W ds W' d /\
 ∀v H',qt bs H H'->W'.p K (hd H' M) H' u bs->Den K (hd H' M) v d->Q v H'
section
variable {X:Cx}{τ τ' τ'':List Sl}{e:Expr}{es:List Expr}{pos p q:Pos}{k:Nat}{N:Po}{rest:List Stmt}{ds:List D}{W W':Wx}{d:D}{R:V->List Addr->Prop}
theorem Cc (h:PE X e (dN X.K τ τ')):PE X e (dNE X.K τ τ' .non):=peW h λσ H Q ⟨A,H₀,B,S,kk⟩=>⟨A,H₀,B,S,λH' S'=>kk _ H' S' .non⟩
theorem AY (i:Nat){nk f':Str}{Φ:Wx->List D->Wx->D->Prop}(Bb:Bk X k)(cl:kG X.prog X.w X.K X.mg X.base k f' (vO X.K Φ))(hΦ:Φ W ds W' d)(hi:τ[i]?=some (.w (dQ R W)))(ha:PA X es (dA X.K true τ ds))(hNi:X.N[i]?=some nk:=by rfl)
   (hv:Vis X.env.scope nk:=by first | exact Hh rfl | exact G0 (Hh rfl) | exact G0 (G0 rfl)) (hd1:(nk==("__debug__" : Str))=false:=by decide) (hcd:(nk==("__classdict__" : Str))=false:=by decide)
   (hg:Gl X f':=by rfl) (hdb:(f'==("__debug__" : Str))=false:=by decide) (he:starEach (.Name nk q::es) X.env=(false,eval (.Name nk q) X.env)::starEach es X.env:=by rfl) (hpl:(backTo pos (starEach es X.env)).any (·.1)=false:=by rfl) :
   PE X (.Call (.Name f' p) (.Name nk q::es) [] pos) (dNE X.K τ (τ.set i (.w (dQ R W'))) d):=by
 obtain⟨f,fd,ps,F,hm,hk,hb⟩:=cl;refine peW (ky F Bb.room hg hm hk hb .nil jX (bw (a4 (i:=i) hNi hv hd1 hcd) ha he) hdb he hpl) λσ H Q ⟨A,H₀,B,S,kk⟩=>?_;obtain⟨nd,u,h2,wp⟩:=S.sl i _ hi;refine⟨_,slot_of h2,c9 S λvs H1 e1 d1=>?_⟩;have S1:=S.mono e1;obtain⟨nd1,u',g2,r1,wp1⟩:=S1.sl i _ hi;rw[h2]at g2;cases g2;show vO X.K Φ (_++[]) _ _ _;rw[G3];exact⟨own A B,B i,_,vs,W,ds,W',d,rfl,S1.sE i,nd1,wp1,d1,hΦ,λv H' b1 w1 z=>kk v H' (S1.AR hi h2 b1 ⟨r1,w1⟩) z⟩
theorem pU (i:Nat){n:Str}{p:Pos}(hN:X.N.Nodup)(he:PE X e (dNE X.K τ τ' d))(hr:PSs X rest (dS X.K (τ'.set i (.d d)) N))(hi:X.N[i]?=some n:=by rfl)(hx:Loc X.env.scope n:=by first | exact .inl rfl | exact .inr rfl)(hs:swapsWith e (some (.Name n p)) pos.line X.env=pure false:=by rfl)
   (hf:X.fn n=true\/X.env.scope.names.lookup n=some .local:=by first | exact .inl rfl | exact .inr rfl | assumption):PSs X (.Assign [.Name n p] e pos::rest) (dS X.K τ N):=
 bh (M:=(·=τ'.set i (.d d))) (psW (w6 hN hi hx he hs hf) λD σ H ⟨A,H₀,B,S,Me⟩=>⟨A,H₀,B,S,λv H' S' dv=>Me.nx _ _ _ _ rfl (S'.set (ak.refl _) (bs:=[]) (λ_ z=>nomatch z) (i7 dv))⟩) λ_ e=>e▸hr
theorem Ap {m:Nat}(he:PE X e (dNE X.K τ τ' d))(hg:PG X (.Tuple es m p) (dG X.K τ' d τ''))(hr:PSs X rest (dS X.K τ'' N))(hs:swapsWithSole [.Tuple es m p] e pos.line X.env=pure false:=by rfl)(hw:swappedStores [.Tuple es m p] e X.env=pure none:=by rfl)
   (h1:(assignEach [.Tuple es m p] X.env).map (·.2)=[assign (.Tuple es m p) X.env]:=by rfl):PSs X (.Assign [.Tuple es m p] e pos::rest) (dS X.K τ N):=
 bh (M:=(·=τ'')) (psW (sA he hg hs hw h1) λD σ H ⟨A,H₀,B,S,Me⟩=>⟨A,H₀,B,S,λv H' S' dv=>⟨A,H₀,B,S',dv,λσ' B' S''=>Me.nx _ _ _ _ rfl S''⟩⟩) λ_ e=>e▸hr
end
section
variable {P:Program}{w:World}{K:gV}{mg:Str->Option Value}{base:Heap}
theorem Gd {x qual:Str}{st:Stmt}{f:Addr}{fd:FuncData}{N ps:List Str}{k:Nat}{Φ:Wx->List D->Wx->D->Prop}{e:Expr}{p2:Pos}{M':(V->List Addr->Prop)->Wx->List D->Wx->D->List Sl->Prop}(F:Fun K x qual st f fd)(S:aj N ps (ag st))(hb:∀x∈ah,mg x=none)(len:∀W ds W' d,Φ W ds W' d->ds.length+1=ps.length)
   (hbody:aY st=(aY st).dropLast++[.Return (some e) p2])
   (hM:∀R W ds W' d τ,M' R W ds W' d τ->τ[0]?=some (.w (dQ R W')))
   (hret:∀R W ds W' d,Φ W ds W' d->∀τ,M' R W ds W' d τ->∀cdv A outer s H E0,Bk (Xc P w K mg base N qual st f cdv A outer s H E0) k->PE (Xc P w K mg base N qual st f cdv A outer s H E0) e (dE K true τ (.d d)))
   (body:∀W ds W' d,Φ W ds W' d->∀R cdv A outer s H E0,Bk (Xc P w K mg base N qual st f cdv A outer s H E0) k->PSs (Xc P w K mg base N qual st f cdv A outer s H E0) (aY st).dropLast (dS K (.w (dQ R W)::(ds.map .d++GA (N.length-(ds.length+1)) .un)) { nx:=M' R W ds W' d,rt:=λ_=>False })) :
   aH P w K mg base CX0 (k+1) f fd ps (vO K Φ):=by
 refine F.ok S (λvs H Q E ⟨M,bs,u,us,W,ds,W',d,hvs,_,_,_,dd,h,_⟩=>by rw[hvs,GK,dd.length]; exact len _ ds _ d h) λcdv A outer s H vs Q E hr' ⟨M,bs,u,us,W,ds,W',d,hvs,hH,nd,hp,dd,h,q⟩=>?_;subst hvs;have Bb:Bk (Xc P w K mg base N qual st f cdv A outer s H E) k:=⟨hr',rfl,hb,IH⟩
 let R:V->List Addr->Prop:=λv cs=>v=u/\cs=bs
 have last:PSs (Xc P w K mg base N qual st f cdv A outer s H E) [.Return (some e) p2] λD σ H'=>∃τ,M' R W ds W' d τ/\∃A H₀ B,Sta K A H₀ τ B σ H'/\∀v H2 cs,ak H' H2->Fr H' H2 cs->bO K (Hy.hd H2 λb=>own A B b\/b∈cs) H2 (some v) cs (.d d)->D.rt v H2:=λpins s' σ H' D I ⟨τ,hm,A1,H₀,B,S,q⟩=>kq (k9 (pos:=p2) (hret R W ds W' d h τ hm cdv A outer s H E Bb)) pins s' σ H' D I ⟨A1,H₀,B,S,q⟩;have key:=u3 (body W ds W' d h R cdv A outer s H E Bb) last;rw[<- hbody]at key
 let B0:Nat->List Addr:=λi=>if i=0 then bs else []
 have hB:∀i b,b∈B0 i->i=0/\b∈bs:=λi b z=>by
   by_cases e:i=0
   . simp only[B0,if_pos e]at z; exact⟨e,z⟩
   . simp only[B0,if_neg e]at z; cases z
 have ow:∀b,own (λb=>M b/\b∉bs) B0 b↔M b:=λb=>by
   refine⟨λz=>z.elim (·.1) λ⟨i,z⟩=>hH.1 b (hB i b z).2,λz=>?_⟩;by_cases e:b∈bs
   . exact .inr ⟨0,by simp[B0,e]⟩
   . exact .inl ⟨z,e⟩
 have vw:ak (Hy.hd H M) (Hy.hd H (own (λb=>M b/\b∉bs) B0)):=aw (ak.refl _) λb z=>(ow b).mp z;refine⟨_,key,λb=>M b/\b∉bs,Hy.hd H (·∈bs),B0,⟨aG,?_,λi s hi=>?_,λi b z=>?_,λi j b z1 z2=>((hB i b z1).1).trans ((hB j b z2).1).symm,λb z=>?_,λi b z=>let ⟨o,y,_⟩:=W.al hp b (hB i b z).2; ⟨o,y⟩⟩,λτ B σ H' h S=>?_,λ_ _ _ _ h=>h.elim,λ_ _ _ _ h=>h.elim,λ_ _ _ _ h=>h.elim,λ_ _=>trivial⟩
 . unfold L2.start;simp[dd.length]
 . have hl:=dd.length;unfold L2.start
   match i,hi with
   | 0,hi=>cases hi;exact⟨nd,u,rfl,⟨rfl,rfl⟩,W.fr vw (λ_ _=>rfl) hp⟩
   | i+1,hi=>
     rw[IS]at hi;show bO K _ H ((((us.map some)++_)[i]?).join) _ s;by_cases hlt:i<ds.length
     . rw[Gw (by simpa using hlt),GL,ph hlt]at hi;cases hi;obtain⟨v,e,dv⟩:=dd.get (ph hlt);refine⟨rfl,v,?_,dv.mono vw⟩;rw[Gw (by simpa[hl]using hlt),GL,e];rfl
     . rw[GU (by simpa using hlt),HI]at hi;split at hi
       . cases hi; rfl
       . cases hi
 . unfold Hy.hd;rw[if_pos (hB i b z).2]
 . obtain⟨o,y⟩:=hH.2 b z.1;exact⟨o,ax.mpr ⟨λe=>z.2 e,y⟩⟩
 . obtain⟨_,u',_,⟨h1,h2⟩,h3⟩:=S.sl 0 _ (hM _ _ _ _ _ _ h);subst h1
   have sub:∀b,M b->own (λb=>M b/\b∉bs) B b:=λb z=>by
     by_cases e:b∈bs
     . exact .inr ⟨0,by rw[h2]; exact e⟩
     . exact .inl ⟨z,e⟩
   rw[h2]at h3;refine⟨τ,h,_,_,_,S,λv H2 cs e2 fr ⟨hc,v',ev,z⟩=>?_⟩;cases ev;have hcs:∀b,M b->(own (λb=>M b/\b∉bs) B b\/b∈cs):=λb y=>.inl (sub b y);refine q v H2 (λb o ne y=>e2 b o (S.same b o (ax.mpr ⟨ne,y⟩))) (W'.fr (aw e2 sub) (λb hb'=>?_) h3) (z.mono (aw (ak.refl _) hcs));obtain⟨o,y,_⟩:=W'.al h3 b hb';rw[y,e2 b o y]
end
end Hy
namespace Hy
open PySem PySem.Spec PyProof.Rows L2
open Ev (D Den ay ao)
section
variable {X:Cx}{τ:List Sl}{b:Expr}{pos p:Pos}{N:Po}{rest:List Stmt}
theorem DQ (i:Nat){n:Str}{xs:List D}{ap cp:Pos}{j:Nat}(hb:PE X b (dE X.K false τ (.d (.int (j:Nat)))))(hj:j<xs.length)(hl:xs.length<1000000)(hr:PSs X rest (dS X.K (τ.set i (.o (xs.eraseIdx j))) N))(hi:τ[i]?=some (.o xs):=by rfl)(hN:X.N[i]?=some n:=by rfl)
   (hv:Vis X.env.scope n:=by first | exact Hh rfl | exact G0 (Hh rfl) | exact G0 (G0 rfl)) (hd:(n==("__debug__" : Str))=false:=by decide) (hcd:(n==("__classdict__" : Str))=false:=by decide)
   (hfew:((backTo cp (starEach [b] X.env)).all (λx=>!x.1)&&(backToKw cp (keywordEach [] X.env)).all (λx=>x.1.isSome)&&decide (([b]:List Expr).length+([]:List Keyword).length+(if ([]:List Keyword).isEmpty then 0 else 1)<30))=true:=by rfl) (hline:(ap.endLine==cp.line)=true:=by rfl)
   (hst:starEach [b] X.env=(false,eval b X.env)::starEach [] X.env:=by rfl) (hpl:(backTo cp (starEach [] X.env)).any (·.1)=false:=by rfl)
   (hs:swapsWith (.Call (.Attribute (.Name n p) "pop" ap) [b] [] cp) none pos.line X.env=pure false:=by rfl) (hbase:attributeBase (.Name n p) "pop" X.env (eval (.Name n p) X.env)=eval (.Name n p) X.env:=by rfl) :
   PSs X (.Expr (.Call (.Attribute (.Name n p) "pop" ap) [b] [] cp) pos::rest) (dS X.K τ N):=
 bh (M:=(·=τ.set i (.o (xs.eraseIdx j)))) (psW (fF (vC Ih PySem.F.slot_list_pop PySem.F.type_list_pop yw (a4 hN hv hd hcd) (bw hb c8 hst) hbase hfew hline hst hpl) hs) λDn σ H ⟨A,H₀,B,S,Me⟩=>by
   obtain⟨l,vs,hbb,e1,e2,d⟩:=S.sl i _ hi;refine⟨_,slot_of e1,.inl ⟨rfl,_,SqL.of e2⟩,aF S λw1 H1 f1 g1=>?_⟩;cases g1;have S1:=S.mono f1;obtain⟨l',vs',hb',e1',e2',d'⟩:=S1.sl i _ hi;rw[e1]at e1';cases e1';have hln:=d'.length;obtain⟨v,hv1,dv⟩:=d'.get (GD.mpr ⟨hj,rfl⟩);exact⟨l,vs',(j:Int),j,v,rfl,rfl,e2',by omega,by omega,PySem.StrLaws.seqIndex_nonneg (by omega) (by omega),hv1,Me.nx _ _ _ _ rfl (S1.put hi hb' (mY j d'))⟩) λ_ e=>e▸hr
end
end Hy
namespace K67
open PySem PySem.Spec PyProof.Rows L2 Hy
open Ev (D Den ay aJ aE)
def eo (ds:List D)(r:Sl):Prop:=∃q:Rat,ds=[frD q]/\0<=q.num/\r=.d (.bl true)
def gy (ds:List D)(r:Sl):Prop:=∃(T:Nat) (s:Stp),ds=[stD s,.int T]/\okS T s/\r=.d (.bl true)
def dW (ds:List D)(r:Sl):Prop:=∃(T R C:Nat) (ss:List Stp),ds=[aI T R C ss,.int R,.int C]/\okL T R C ss/\r=.d (.bl true)
section
variable {P:Program}{w:World}{K:gV}{mg:Str->Option Value}{base:Heap}{k:Nat}{f:Addr}{fd:FuncData}{qual:Str}
theorem lU (F:Fun K "_law_is_weight" qual (top 74) f fd)(hb:∀x∈ah,mg x=none)(c_l_whole:Cal P w K mg base k "_law_whole" eK)(c_l_divisor:Cal P w K mg base k "_law_divisor" cF):aH P w K mg base CX0 (k+1) f fd ["_law_thing"] (spD K eo):=by
 refine fnD F lP hb (by rintro _ _ ⟨_,rfl,_⟩; rfl) ?_;rintro _ _ ⟨q,rfl,h0,rfl⟩ cdv A outer s H E b;have dp:=den_pos q;have g1:GG q.num (q.den:Nat)=1:=by have:=q.reduced; rwa [GG,JH]
 refine bE (PW.pt (cn (a5 (a6 (cE .tuple b (aa 0)))) λh=>(cn (aX (bq b (ab (aa 0) af) fA) ae oR) λh=>(cn (a5 (a6 (x_call b c_l_whole (ab (av (aa 0) ae (aq (ai (i:=0) rfl))) af) ⟨_,rfl,rfl⟩))) λh=>(cg (a5 (a6 (x_call b c_l_whole (ab (av (aa 0) ae (aq (ai (i:=1) rfl))) af) ⟨_,rfl,rfl⟩)))))))) rfl ?_;refine aL (fQ (cc (av (aa 0) ae (aq (ai (i:=0) rfl))) ae yq) λh=>(fQ (cc (av (aa 0) ae (aq (ai (i:=1) rfl))) ae yq) λh=>(gC (cc (x_call b c_l_divisor (ab (av (aa 0) ae (aq (ai (i:=0) rfl))) (ab (av (aa 0) ae (aq (ai (i:=1) rfl))) af)) ⟨_,_,rfl,rfl⟩) ae gN)))) ?_;rw[g1,decide_eq_true h0,decide_eq_true (show (1:Int)<=(q.den:Nat) by omega)];rfl
theorem oU (F:Fun K "_law_is_step" qual (top 75) f fd)(hb:∀x∈ah,mg x=none)(c_l_whole:Cal P w K mg base k "_law_whole" eK)(c_l_is_weight:Cal P w K mg base k "_law_is_weight" eo):aH P w K mg base CX0 (k+1) f fd ["_law_thing","_law_tracks"] (spD K gy):=by
 refine fnD F jf hb (by rintro _ _ ⟨_,_,rfl,_⟩; rfl) ?_;rintro _ _ ⟨T,⟨u,n,q⟩,rfl,⟨h0,h1⟩,rfl⟩ cdv A outer s H E b;have nd:=jf.nd;refine bE (PW.pt (cn (a5 (a6 (cE .tuple b (aa 0)))) λh=>(cn (aX (bq b (ab (aa 0) af) fA) ae oR) λh=>(cn (a5 (a6 (cE .str b (av (aa 0) ae (aq (ai (i:=0) rfl)))))) λh=>(cg (a5 (a6 (x_call b c_l_whole (ab (av (aa 0) ae (aq (ai (i:=1) rfl))) af) ⟨_,rfl,rfl⟩)))))))) rfl ?_;refine aA 2 nd (D2 (by have:=b.room.units; omega) b5 (aa 1) b5 (aB (aa 1) ae hU) b5 (aB (aa 1) ae hU) (av (aa 0) ae (aq (ai (i:=0) rfl))) ae) ?_;refine aL (fQ (jd ae (av (aa 0) ae (aq (ai (i:=1) rfl))) (aa 2) oH wj).1 λh=>(gC (x_call b c_l_is_weight (ab (av (aa 0) ae (aq (ai (i:=2) rfl))) af) ⟨q,rfl,h0,rfl⟩))) ?_
 have el:(decide ((0:Int)<=(n:Nat))&&decide (((n:Nat):Int)<(if u = "up" then (T:Int)-1 else if u = "down" then (T:Int)-1 else if u = "weigh" then (T:Int) else 0)))=true:=by
   rw[decide_eq_true (by omega),Bool.true_and];refine decide_eq_true ?_;have h1:(u = "weigh" /\ n<T)\/((u = "down" \/ u = "up")/\n+1<T):=h1;rcases h1 with ⟨rfl,h⟩ | ⟨rfl | rfl,h⟩
   . rw[if_neg (by decide),if_neg (by decide),if_pos rfl]; omega
   . rw[if_neg (by decide),if_pos rfl]; omega
   . rw[if_pos rfl]; omega
 rw[el];rfl
set_option maxHeartbeats 1000000 in
theorem mf (F:Fun K "_law_is_ladder" qual (top 76) f fd)(hb:∀x∈ah,mg x=none)(c_l_is_step:Cal P w K mg base k "_law_is_step" gy)(c_l_whole:Cal P w K mg base k "_law_whole" eK):aH P w K mg base CX0 (k+1) f fd ["_law_found","_law_rows_here","_law_columns"] (spD K dW):=by
 refine fnD F gz hb (by rintro _ _ ⟨_,_,_,_,rfl,_⟩; rfl) ?_;rintro _ _ ⟨T,R,C,ss,rfl,ok,rfl⟩ cdv A' outer s H E b;have nd:=gz.nd;have hl:=ok.len;have t7:=ok.t7;have rT:=ok.rT;have cT:=ok.cT;have e3:cutD [D.int T,.int R,.int C,.lst (ss.map stD)] none (some 3)=[.int T,.int R,.int C]:=rfl;have sl3:∀{X:Cx} {τ:List Sl} {e:Expr} {l2:Expr} {C':Bool} {p2 pos:Pos},PE X e (dE X.K C' τ (.d (aI T R C ss)))->PO X (some l2) (dO X.K τ (some 3))->PE X (.Subscript e (.Slice none (some l2) none p2) pos) (dE X.K C' τ (.d (.tup [.int T,.int R,.int C]))):=λ{X τ e l2 C' p2 pos} h u=>by have:=rg (pos:=pos) (p2:=p2) h dH u (λz=>by have:=z.2; simp[HT.sIx]at this);rw[e3]at this;exact this
 refine bE (PW.pt (cn (a5 (a6 (cE .tuple b (aa 0)))) λh=>(cn (aX (bq b (ab (aa 0) af) fA) ae oR) λh=>(cg (a5 (a6 (bq b (ab (a7 (cR (cmp 0 (g:=λi=>.int ((([(T:Int),(R:Int),(C:Int)]).getD i 0))) (f:=λi=>.bl true) b (EW (sl3 (aa 0) (cL ae))) (λi h=>by match i,h with | 0,_=>rfl | 1,_=>rfl | 2,_=>rfl) (by simp) λi hi s0 H0 fp=>(x_call (b.comp s0 H0 _ fp) c_l_whole (ab (aa 0) af) ⟨_,rfl,rfl⟩)))) af) (lD b.calm [true,true,true] rfl)))))))) rfl ?_;refine bE (PW.pt (cn (a5 ((jd (bq b (ab (aa 1) (ab (aa 2) af)) (BH b.calm)) (av (aa 0) ae (aq (ai (i:=0) rfl))) ae oH oH).2 rfl)) λh=>(cn (aX (av (aa 0) ae (aq (ai (i:=1) rfl))) (aa 1) oR) λh=>(cg (aX (av (aa 0) ae (aq (ai (i:=2) rfl))) (aa 2) oR))))) ?_ ?_
 . rw[decide_eq_true (show (if (C:Int)>(R:Int) then (C:Int) else (R:Int))<=(T:Int) by split <;> omega),decide_eq_true (show (T:Int)<=7 by omega)];simp
 refine bE (PW.pt (cn (a5 (a6 (cE .list b (av (aa 0) ae (aq (ai (i:=3) rfl)))))) λh=>(cg (aX (bq b (ab (av (aa 0) ae (aq (ai (i:=3) rfl))) af) (wM (n:=ss.length) (by rw[fw]))) ae qQ)))) (by rw[decide_eq_false (by omega)]; rfl) ?_;refine aL (bq b (ab (a7 (cR (cmp 0 (g:=λi=>stD (ss.getD i ("weigh",0,0))) (f:=λi=>.bl true) b (a9 (av (aa 0) ae (aq (ai (i:=3) rfl)))) Cg (by rw[fw]; omega) λi hi s0 H0 fp=>(x_call (b.comp s0 H0 _ fp) c_l_is_step (ab (aa 0) (ab (av (aa 1) ae (aq (ai (i:=0) rfl))) af)) ⟨T,_,rfl,ok.st i (by simpa using hi),rfl⟩)))) af) (lD b.calm (GA ss.length true) (by rw[List.map_replicate,fw]; exact(List.map_const' ..).trans (by rw[Hd])))) ?_;simp
end
noncomputable def dpP (c:Int):List Int:=nums c [3,400,2800000000000000000000,8]
noncomputable def dpQ (c:Int):Rat:=wgt ((dpP c).getD 2 0) (if (dpP c).getD 3 0=1 then 10 else 0)
noncomputable def dpA (c:Int)(ss:List Stp):Nat:=(((dpP c).getD 1 0).fmod (ss.length:Int)).toNat
noncomputable def dp0 (c:Int)(T:Nat):Stp:=(ldS (c.fdiv 3) T 1 0).getD 0 ("weigh",0,0)
noncomputable def dnF (T:Nat)(c:Int)(ss:List Stp):List Stp:=
 if (dpP c).getD 0 0=0/\ss≠[] then nxt ss (dpA c ss) [((ss.getD (dpA c ss) ("weigh",0,0)).1,(ss.getD (dpA c ss) ("weigh",0,0)).2.1,dpQ c)]
 else if (dpP c).getD 0 0=1/\ss≠[] then nxt ss (dpA c ss) []
 else nxt ss 400 [((dp0 c T).1,(dp0 c T).2.1,dpQ c)]
theorem Aa (p:Int):Wq 34 (wgt p 10):=by
 have f1:=fm (a:=p) (b:=10^10) (by decide);have f2:=fm (a:=p.fdiv (10^10)) (b:=10^10-1) (by decide);have eT:wgT p 10=p.fmod (10^10):=if_pos (by omega);have eB:wgB p 10=1+(p.fdiv (10^10)).fmod (10^10-1):=if_pos (by omega);have h:=gM p (g:=10) (by decide);have z:(10:Int)^10<2^34:=by decide
 have z2:((2^34:Nat):Int)=(2:Int)^34:=by decide
 generalize (10:Int)^10=t at *
 exact⟨(oS p (by decide)).1,Sq.cq (by rw[eB]; omega) h (by rw[eT]; unfold Bd; omega) (by rw[eB]; unfold Bd; omega)⟩
theorem qY (c:Int):Wq 34 (dpQ c):=by
 unfold dpQ;split
 . exact Aa _
 . exact(zt _).mono (by decide)
theorem sV (c:Int){ss:List Stp}(h:ss≠[]):dpA c ss<ss.length/\((dpP c).getD 1 0).fmod (ss.length:Int)=(dpA c ss:Nat):=by have hl:0<ss.length:=Jw.mpr h;have:=fm (a:=(dpP c).getD 1 0) (b:=ss.length) (by omega);unfold dpA;omega
theorem xF {T:Nat}{s:Stp}{q:Rat}(h:okS T s)(hq:0<=q.num):okS T (s.1,s.2.1,q):=⟨hq,h.2⟩
theorem xt (c:Int){T:Nat}(hT:1<=T):okS T (dp0 c T):=rZ (c.fdiv 3) (n:=1) (g:=0) hT (by decide) 0 (by rw[fE]; decide)
def LJ (T i:Nat)(ss:List Stp):Prop:=LI T 4 (4+i) ss\/LI T 0 (8+i) ss
theorem LI.dn {T c l:Nat}{ss:List Stp}(h:LI T c l ss)(hT:1<=T)(x:Int):LI T c (l+1) (dnF T x ss):=by
 unfold dnF;split
 . rename_i z;have ha:=(sV x z.2).1;refine h.nxt (λs hs=>?_) (ia 1);obtain rfl:=ib.mp hs;exact⟨xF (h.st _ (by simp[ha])).1 (qY x).n0,qY x⟩
 . split
   . exact h.nxt (λs hs=>nomatch hs) (by decide)
   . refine h.nxt (λs hs=>?_) (ia 1);obtain rfl:=ib.mp hs;exact⟨xF (xt x hT) (qY x).n0,qY x⟩
theorem LJ.dn {T i:Nat}{ss:List Stp}(h:LJ T i ss)(hT:1<=T)(x:Int):LJ T (i+1) (dnF T x ss):=h.imp (λz=>z.dn hT x) λz=>z.dn hT x
theorem LJ.ok {T i:Nat}{ss:List Stp}(h:LJ T i ss)(hi:i<=17):Lok T ss:=h.elim (λz=>.inr (z.mono (by omega))) λz=>.inl (z.mono (by omega))
theorem LJ.start (c:Int){T:Nat}(hT:1<=T):LJ T 0 (dnS c T 8):=by
 have hp:=Ee c 8;unfold dnS dnG;by_cases z:(dnP c 8).getD 0 0=1
 . rw[if_pos z];refine .inl ⟨λs hs=>?_,?_,?_⟩
   . obtain⟨i,hi,rfl⟩:=Jx hs;have h1:=rZ (dnR c 8) (T:=T) (n:=dnN c 8) (g:=20) hT (by decide) i hi;have h2:=zO (dnR c 8) (T:=T) (n:=dnN c 8) i hi;have e:(ldS (dnR c 8) T (dnN c 8) 20).getD i ("weigh",0,0)=(ldS (dnR c 8) T (dnN c 8) 20)[i]:=by simp[hi]
     rw[e]at h1 h2;exact⟨h1,h2⟩
   . refine GB (List.countP_le_length ..) ?_;rw[fE];unfold dnN;rw[if_pos z];omega
   . rw[fE];unfold dnN;rw[if_pos z];omega
 . rw[if_neg z]
   have all:∀s∈ldS (dnR c 8) T (dnN c 8) 0,okS T s/\Wq 3 s.2.2:=λs hs=>by
     obtain⟨i,hi,rfl⟩:=Jx hs;have h1:=rZ (dnR c 8) (T:=T) (n:=dnN c 8) (g:=0) hT (by decide) i hi;have h2:=Dc (dnR c 8) (T:=T) (n:=dnN c 8) i hi;have e:(ldS (dnR c 8) T (dnN c 8) 0).getD i ("weigh",0,0)=(ldS (dnR c 8) T (dnN c 8) 0)[i]:=by simp[hi]
     rw[e]at h1 h2;exact⟨h1,h2⟩
   refine .inr ⟨λs hs=>⟨(all s hs).1,(all s hs).2.mono (by decide)⟩,?_,?_⟩
   . refine Nat.le_of_eq (Kq.mpr λs hs=>?_);rw[ye ((all s hs).2.mono (by decide))];decide
   . rw[fE];unfold dnN;rw[if_neg z];omega
theorem Ba {ss:List Stp}{a:Nat}{s:Stp}(h:a<ss.length):nxt ss a [s]=ss.set a s:=by unfold nxt;rw[List.set_eq_take_append_cons_drop,if_pos h,Ht];rfl
theorem Ao (ss:List Stp)(a:Nat):nxt ss a []=ss.eraseIdx a:=by unfold nxt;rw[G3,HB]
theorem Bh {ss:List Stp}{s:Stp}(h:ss.length<=400):nxt ss 400 [s]=ss++[s]:=by unfold nxt;rw[Gx h,Io (by omega),G3]
theorem map_set {ss:List Stp}{a:Nat}{s:Stp}(h:a<ss.length):(nxt ss a [s]).map stD=(ss.map stD).set a (stD s):=by rw[Ba h,List.map_set]
theorem Ay (ss:List Stp)(a:Nat):(nxt ss a []).map stD=(ss.map stD).eraseIdx a:=by rw[Ao,HB,HB,GN,Ik,JS]
theorem Bf {ss:List Stp}{s:Stp}(h:ss.length<=400):(nxt ss 400 [s]).map stD=ss.map stD++[stD s]:=by rw[Bh h,GN]; rfl
theorem rK {T:Nat}{ss:List Stp}(h:∀s∈ss,okS T s):Ev.eX (.lst (ss.map stD)):=by obtain⟨h1,h2⟩:=pG ss h;exact⟨by rw[Ev.cln]; exact h1,by rw[Ev.dep]; omega⟩
theorem ne_nil (ss:List Stp):(!Ev.eqD (.lst (ss.map stD)) (.lst []))=decide (ss≠[]):=by
 cases ss with
 | nil=>simp[Ev.eqD,Ev.jI]
 | cons s ss=>simp[Ev.eqD,Ev.jI]
noncomputable def tV (Cl:Addr):Wx->List D->Wx->D->Prop:=λW a W' d=>∃m ds n c T R C ss,W=wkW Cl m ds/\a=[.str n,aI T R C ss,.int c]/\oY n/\aU m n=some (aI T R C ss)/\1<=T/\(∀s∈ss,okS T s)/\ss.length<400/\m.length<sizeLine/\ds.length<1000000/\W'=wkW Cl (fh m n (aI T R C (dnF T c ss))) (ds++[mS m n])/\d=.tup [.non,aI T R C (dnF T c ss)]
section
variable {P:Program}{w:World}{K:gV}{mg:Str->Option Value}{base:Heap}{qual:Str}{f:Addr}{fd:FuncData}{k:Nat}{Cl:Addr}
set_option maxHeartbeats 2000000 in
theorem vX (hc:Cls K Cl)(F:Fun K "_law_done" qual (top 80) f fd)(hb:∀x∈ah,mg x=none)(c_weigh:bA P w K mg base k Cl "weigh" (spW K (pj Cl)))(c_out:bA P w K mg base k Cl "take_out" (spW K (yu Cl)))(c_add:bA P w K mg base k Cl "add" (spW K (xS Cl)))(c_l_numbers:Cal P w K mg base k "_law_numbers" bL)(c_l_weight:Cal P w K mg base k "_law_weight" fB)(c_l_ladder:Cal P w K mg base k "_law_ladder" eU):
   aH P w K mg base CX0 (k+1) f fd ["_law_works","_law_name","_law_mine","_law_cell_here"] (vO K (tV Cl)):=by
 refine Gd (M':=λR _ a W' d τ=>∃n c T R' C ss xs s4 s6 s7 s9,a=[.str n,aI T R' C ss,.int c]/\d=.tup [.non,aI T R' C xs]/\τ=[.w (dQ R W'),.d (.str n),.d (aI T R' C ss),.d (.int c),s4,.d (.lst (xs.map stD)),s6,s7,.d .non,s9]) F nC hb (by rintro _ _ _ _ ⟨_,_,_,_,_,_,_,_,_,rfl,_⟩; rfl) rfl (by rintro _ _ _ _ _ _ ⟨_,_,_,_,_,_,_,_,_,_,_,_,_,rfl⟩; rfl) ?_ ?_
 . rintro R _ _ _ _ _ _ ⟨n,c,T,R',C,ss,xs,s4,s6,s7,s9,rfl,rfl,rfl⟩ cdv A outer s H E b;exact bz (ab (aa 8) (ab (bz (ab (av (aa 2) ae (aq (ai (i:=0) rfl))) (ab (av (aa 2) ae (aq (ai (i:=1) rfl))) (ab (av (aa 2) ae (aq (ai (i:=2) rfl))) (ab (aa 5) af))))) af))
 . rintro _ _ _ _ ⟨m,ds,n,c,T,R,C,ss,rfl,rfl,hn,hl,hT,hs,h4,h5,h6,rfl,rfl⟩ Rr cdv A outer s H E b;have nd:=nC.nd;have hlp:(dpP c).length=4:=fZ ..;have a0:atI ((dpP c).map D.int) 0=some (.int ((dpP c).getD 0 0)):=bB (by decide) (by rw[hlp]; decide);have a1:atI ((dpP c).map D.int) 1=some (.int ((dpP c).getD 1 0)):=bB (by decide) (by rw[hlp]; decide);have a2:atI ((dpP c).map D.int) 2=some (.int ((dpP c).getD 2 0)):=bB (by decide) (by rw[hlp]; decide);have a3:atI ((dpP c).map D.int) 3=some (.int ((dpP c).getD 3 0)):=bB (by decide) (by rw[hlp]; decide)
   have a10:atI [D.int 0,.int 10] (if decide ((dpP c).getD 3 0=1) then 1 else 0)=some (.int ((if (dpP c).getD 3 0=1 then 10 else 0:Nat):Nat)):=by
     by_cases z:(dpP c).getD 3 0=1
     . rw[if_pos z,decide_eq_true z]; rfl
     . rw[if_neg z,decide_eq_false z]; rfl
   have wq:=qY c;refine aA 4 nd (x_call b c_l_numbers (ab (aa 3) (ab (a7 (bY (ab ae (ab ae (ab (aB ae (aB ae ae (xu (by unfold L2.wo; decide))) (bf (mkL (by decide)))) (ab ae af)))))) af)) ⟨c,[3,400,2800000000000000000000,8],rfl,by decide,λb hb=>?_,rfl⟩) (jE 4 ?_)
   . simp only[xb,Hl,or_false]at hb;rcases hb with rfl | rfl | rfl | rfl
     . exact rj (by decide) (by decide)
     . exact rj (by decide) (by decide)
     . exact⟨by decide,(show Bd 80 2800000000000000000000 by unfold Bd; decide).aE (by decide) (by decide)⟩
     . exact rj (by decide) (by decide)
   refine aA 5 nd (kR b (ab (av (aa 2) ae (aq (ai (i:=3) rfl))) af) pP) ?_;refine aA 6 nd (x_call b c_l_weight (ab (av (aa 4) ae (aV a2)) (ab (av (a7 (bY (ab ae (ab ae af)))) (kR b (ab (cc (av (aa 4) ae (aV a3)) ae gN) af) qh) (aV a10)) af)) ⟨_,_,rfl,by split <;> decide,rfl⟩) ?_
   refine jJ (M:=λτ=>∃s7 s9,τ=[.w (dQ Rr (wkW Cl (fh m n (aI T R C (dnF T c ss))) (ds++[mS m n]))),.d (.str n),.d (aI T R C ss),.d (.int c),.d (.lst ((dpP c).map .int)),.o ((dnF T c ss).map stD),.d (frD (dpQ c)),s7,.d .non,s9])
     (PW.pt (ze (aX (av (aa 4) ae (aV a0)) ae gN) λh=>(tD (aX (gu 5) (a7 (bY af)) (uJ b (rK hs) (by decide +kernel)))))) (λh=>?_) (λh=>?_) ?_
   . rw[ne_nil]at h;have h:(dpP c).getD 0 0=0/\ss≠[]:=by simpa using h
     have e:dnF T c ss=nxt ss (dpA c ss) [((ss.getD (dpA c ss) ("weigh",0,0)).1,(ss.getD (dpA c ss) ("weigh",0,0)).2.1,dpQ c)]:=if_pos h;obtain⟨ha,ea⟩:=sV c h.2;have eb:atI (ss.map stD) ((dpA c ss:Nat):Int)=some (stD (ss.getD (dpA c ss) ("weigh",0,0))):=ai (by simp[ha]);rw[e];generalize dpA c ss=a at *
     refine aA 7 nd (s:=.d (.int (a:Nat))) (by rw[<- ea]; exact aB (av (aa 4) ae (aV a1)) (j4 (C':=false) (bq b (ab (gu 5) af) (wM (n:=ss.length) (by rw[fw])))) (bP (by have:=Jw.mpr h.2; omega))) ?_;refine nA 5 (xs:=ss.map stD) (j:=a) (aa 7) (bz (ab (av (gZ 5 (aa 7) eb) ae (aq (ai (i:=0) rfl))) (ab (av (gZ 5 (aa 7) eb) ae (aq (ai (i:=1) rfl))) (ab (aa 6) af)))) (by rw[fw]; exact jx ha) ?_;refine pU 8 nd (Cc (dR 0 b hc c_weigh (wkW.ins ⟨by decide,by decide⟩) ⟨m,ds,n,T,R,C,ss,dpQ c,a,rfl,rfl,hn,hl,ha,by omega,wq.n0,h5,h6,rfl⟩ rfl (ab (aa 1) (ab (aa 7) (ab (aa 6) af))))) (aK ⟨.d (.int (a:Nat)),.un,?_⟩);rw[map_set ha];rfl
   . rw[ne_nil]at h
     refine jJ (M:=λτ=>∃s7 s9,τ=[.w (dQ Rr (wkW Cl (fh m n (aI T R C (dnF T c ss))) (ds++[mS m n]))),.d (.str n),.d (aI T R C ss),.d (.int c),.d (.lst ((dpP c).map .int)),.o ((dnF T c ss).map stD),.d (frD (dpQ c)),s7,.d .non,s9])
       (PW.pt (ze (aX (av (aa 4) ae (aV a0)) ae gN) λh=>(tD (aX (gu 5) (a7 (bY af)) (uJ b (rK hs) (by decide +kernel)))))) (λh'=>?_) (λh'=>?_) λτ h=>aK h
     . rw[ne_nil]at h';have hh:¬((dpP c).getD 0 0=0/\ss≠[]):=by simpa using h
       have h':(dpP c).getD 0 0=1/\ss≠[]:=by simpa using h'
       have e:dnF T c ss=nxt ss (dpA c ss) []:=by unfold dnF; rw[if_neg hh,if_pos h']
       obtain⟨ha,ea⟩:=sV c h'.2;rw[e];generalize dpA c ss=a at *
       refine aA 7 nd (s:=.d (.int (a:Nat))) (by rw[<- ea]; exact aB (av (aa 4) ae (aV a1)) (j4 (C':=false) (bq b (ab (gu 5) af) (wM (n:=ss.length) (by rw[fw])))) (bP (by have:=Jw.mpr h'.2; omega))) ?_;refine DQ 5 (xs:=ss.map stD) (j:=a) (aa 7) (by rw[fw]; exact ha) (by rw[fw]; omega) ?_;refine pU 8 nd (Cc (dR 0 b hc c_out (wkW.ins ⟨by decide,by decide⟩) ⟨m,ds,n,T,R,C,ss,a,rfl,rfl,hn,hl,ha,by omega,h5,h6,rfl⟩ rfl (ab (aa 1) (ab (aa 7) af)))) (aK ⟨.d (.int (a:Nat)),.un,?_⟩);rw[Ay];rfl
     . rw[ne_nil]at h';have hh:¬((dpP c).getD 0 0=0/\ss≠[]):=by simpa using h
       have h':¬((dpP c).getD 0 0=1/\ss≠[]):=by simpa using h'
       have e:dnF T c ss=nxt ss 400 [((dp0 c T).1,(dp0 c T).2.1,dpQ c)]:=by unfold dnF; rw[if_neg hh,if_neg h']
       rw[e];have o0:=xt c hT;have e0:atI (((ox 1).map (adS (adP (c.fdiv 3) 1 0) T 0)).map stD) 0=some (stD (dp0 c T)):=rfl;have ec:Hy.cutD [.str (dp0 c T).1,.int ((dp0 c T).2.1:Nat),frD (dp0 c T).2.2] none (some 2)=[.str (dp0 c T).1,.int ((dp0 c T).2.1:Nat)]:=rfl;refine aA 9 nd (s:=.d (stD ((dp0 c T).1,(dp0 c T).2.1,dpQ c))) (aB (z:=stD ((dp0 c T).1,(dp0 c T).2.1,dpQ c)) (rg (av (av (x_call b c_l_ladder (ab (aB (aa 3) ae (bg (mkD (by decide) (by decide)))) (ab (av (aa 2) ae (aq (ai (i:=0) rfl))) (ab ae (ab ae (ab ae (ab ae af)))))) ⟨c.fdiv 3,T,1,1,1,0,rfl,hT,by decide,by decide,rfl⟩) ae (aq (ai (i:=3) rfl))) ae (aV e0)) dH (cL ae) (λz=>by have:=z.2; simp[HT.sIx]at this)) (bz (ab (aa 6) af)) ?_) ?_
       . rw[ec];exact om (show 2+1<1000000 by decide)
       refine qx 5 (xs:=ss.map stD) (aa 9) (by rw[fw]; omega) ?_;refine pU 8 nd (Cc (dR 0 b hc c_add (wkW.ins ⟨by decide,by decide⟩) ⟨m,ds,n,T,R,C,ss,((dp0 c T).1,(dp0 c T).2.1,dpQ c),rfl,rfl,hn,hl,xF o0 wq.n0,h4,h5,h6,rfl⟩ rfl (ab (aa 1) (ab (aa 9) af)))) (aK ⟨.un,.d (stD ((dp0 c T).1,(dp0 c T).2.1,dpQ c)),?_⟩);rw[Bf (by omega)];rfl
   . rintro _ ⟨s7,s9,rfl⟩;exact jE 5 (aK ⟨n,c,T,R,C,ss,dnF T c ss,_,_,s7,s9,rfl,rfl,rfl⟩)
end
noncomputable def pB (C:Addr):Wx->List D->Sl->Prop:=λW a s=>∃m ds,W=wkW C m ds/\a=[]/\m.length<64/\s=.o ((fR (m.map (·.1))).map .str)
section
variable {P:Program}{w:World}{K:gV}{mg:Str->Option Value}{base:Heap}{qual:Str}{f:Addr}{fd:FuncData}{k:Nat}{Cl:Addr}
theorem kF (hc:Cls K Cl)(n1:a8 K Cl "kept")(F:Fun K "names" qual (mth 54 15) f fd)(hb:∀x∈ah,mg x=none):aH P w K mg base CX0 (k+1) f fd ["self"] (spV K (pB Cl)):=by
 refine fnV (M':=λW' _ a τ=>τ=.w W'::a.map .d) F lJ hb (by rintro _ _ _ ⟨_,_,_,rfl,_⟩; rfl) rfl (by rintro _ _ _ _ rfl; rfl) ?_ ?_
 . rintro _ _ _ ⟨m,ds,rfl,rfl,h,rfl⟩ W' hle _ rfl cdv A outer s H E b;exact zI b (cI 0 hc n1 rfl hle) h
 . rintro _ _ _ ⟨m,ds,rfl,rfl,h,rfl⟩ W' hle cdv A outer s H E b;exact aK rfl
end
end K67
namespace Hy
open PySem PySem.Spec PyProof.Rows L2
open Ev (D Den ay ao)
end Hy
namespace Hy
open PySem PySem.Spec PyProof.Rows L2
open Ev (D Den ay cC eJ)
end Hy
namespace Hy
open PySem PySem.Spec PyProof.Rows L2
open Ev (D Den ay ao)
section
variable {X:Cx}{τ:List Sl}{e o:Expr}{i:Nat}{N:Po}{rest:List Stmt}{n:Str}{S:Addr}{pos:Pos}{t:Nd}{pt:List Nat}{xs:List Nd}
theorem Dl {ap cp:Pos}(ho:PE X o (dP X.K τ i pt))(hi:τ[i]?=some (.n t))(hp:mE pt t=some (.l xs))(hr:PSs X rest (dS X.K (τ.set i (.n (i5 pt t (.l [])))) N))
   (hline:(ap.endLine==cp.line)=true:=by rfl) (hs:swapsWith (.Call (.Attribute o "clear" ap) [] [] cp) none pos.line X.env=pure false:=by rfl) (hbase:attributeBase o "clear" X.env (eval o X.env)=eval o X.env:=by rfl) :
   PSs X (.Expr (.Call (.Attribute o "clear" ap) [] [] cp) pos::rest) (dS X.K τ N):=
 bh (M:=(·=τ.set i (.n (i5 pt t (.l []))))) (psW (fF (Dt Ih PySem.F.slot_list_clear PySem.F.type_list_clear w4 ho hbase hline) hs) λD σ H ⟨A,H₀,B,S,Me⟩=>by
   refine⟨A,H₀,B,S,λu v H1 eu e1 pv=>?_⟩;have S1:=S.mono e1;obtain⟨u',l,vs,bs0,eu',pv',hH,r0,nd0,hal,hown,put⟩:=S1.putN hi hp;rw[eu]at eu';cases eu';obtain rfl:=pv.det pv';obtain⟨B',S'⟩:=put (H1:=H1) (vs':=[]) (bs1:=[]) (xs':=[]) (ak.refl _) JG (λ_ z=>nomatch z) .nil;exact⟨.inl ⟨rfl,_,SqL.of hH⟩,l,vs,rfl,rfl,hH,Me.nx _ B' _ _ rfl S'⟩) λ_ e=>e▸hr
end
end Hy
namespace K67
open PySem PySem.Spec PyProof.Rows L2 Hy
open Ev (D Den ay aJ aE)
noncomputable def rwV (R C:Nat)(ss:List Stp):List (List Int):=whM (cO C R (fwd ss)) ((cO C R (fwd ss)).map scL)
noncomputable def lp (Cl:Addr):Wx->List D->Sl->Prop:=λW a s=>∃m ds n T R C ss,W=wkW Cl m ds/\a=[.str n]/\oY n/\aU m n=some (aI T R C ss)/\okL T R C ss/\Lok T ss/\s=.d (.bl (fuO (rwV R C ss) R C 1).isNone)
noncomputable def CT (Cl:Addr):Wx->List D->Sl->Prop:=λW a s=>∃m ds n T R C ss,W=wkW Cl m ds/\a=[.str n,aI T R C ss]/\oY n/\aU m n=some (aI T R C ss)/\okL T R C ss/\Lok T ss/\s=.d (.bl true)
theorem BB (b:Bool):Ev.eX (.bl b):=⟨by simp[Ev.cln],by simp[Ev.dep]⟩
section
variable {P:Program}{w:World}{K:gV}{mg:Str->Option Value}{base:Heap}{qual:Str}{f:Addr}{fd:FuncData}{k:Nat}{Cl:Addr}
theorem j5 (hc:Cls K Cl)(F:Fun K "strict" qual (mth 54 18) f fd)(hb:∀x∈ah,mg x=none)(c_table:bA P w K mg base k Cl "table" (spV K (qO Cl ba cY)))(c_is_strict:Cal P w K mg base k "is_strict" gw):aH P w K mg base CX0 (k+1) f fd ["self","name"] (spV K (lp Cl)):=by
 refine fnV (M':=λW' _ a τ=>τ=.w W'::a.map .d) F ki hb (by rintro _ _ _ ⟨_,_,_,_,_,_,_,_,rfl,_⟩; rfl) rfl (by rintro _ _ _ _ rfl; rfl) ?_ ?_
 . rintro _ _ _ ⟨m,ds,n,T,R,C,ss,rfl,rfl,hn,hl,ok,lo,rfl⟩ W' hle _ rfl cdv A outer s H E b;obtain⟨e,he,hw1,hw⟩:=lo.wq;obtain⟨d,v,t1,t2,t3,_,_,t4⟩:=lo.strict ok;exact x_call b c_is_strict (ab (a7 (cH 0 b hc c_table (wkW.ins ⟨by decide,by decide⟩) ⟨m,ds,n,_,rfl,rfl,⟨n,rfl,hn,rfl⟩,hl,⟨e,T,R,C,ss,rfl,ok,hw,hw1,he,rfl⟩⟩ rfl hle (ab (aa 1) af)) (congrArg some (yp _))) af) ⟨R,C,d,v,_,rfl,t1,t2,t3,t4,rfl⟩
 . rintro _ _ _ ⟨m,ds,n,T,R,C,ss,rfl,rfl,hn,hl,ok,lo,rfl⟩ W' hle cdv A outer s H E b;exact aK rfl
set_option maxHeartbeats 1000000 in
theorem se (hc:Cls K Cl)(F:Fun K "_law_is_so" qual (top 81) f fd)(hb:∀x∈ah,mg x=none)(c_ladder:bA P w K mg base k Cl "ladder" (spV K (qO Cl ba lG)))(c_table:bA P w K mg base k Cl "table" (spV K (qO Cl ba cY)))(c_strict:bA P w K mg base k Cl "strict" (spV K (lp Cl)))
   (c_l_is_ladder:Cal P w K mg base k "_law_is_ladder" dW) (c_l_ladders_table:Cal P w K mg base k "_law_ladders_table" cb) (c_l_rows:Cal P w K mg base k "_law_rows" kY) (c_l_least_sign:Cal P w K mg base k "_law_least_sign" dg) :
   aH P w K mg base CX0 (k+1) f fd ["_law_works","_law_name","_law_mine"] (spV K (CT Cl)):=by
 refine fnV (M':=λW' _ a τ=>∃T R C ss n s3,a=[.str n,aI T R C ss]/\okL T R C ss/\Lok T ss/\τ=[.w W',.d (.str n),.d (aI T R C ss),s3,.d (kh (cO C R (fwd ss))),.d (.bl (fuO (rwV R C ss) R C 1).isNone)]) F kQ hb (by rintro _ _ _ ⟨_,_,_,_,_,_,_,_,rfl,_⟩; rfl) rfl (by rintro _ _ _ _ ⟨_,_,_,_,_,_,_,_,_,rfl⟩; rfl) ?_ ?_
 . rintro _ _ _ ⟨m,ds,n',T',R',C',ss',rfl,rfl,hn,hl,ok',lo',rfl⟩ W' hle _ ⟨T,R,C,ss,n,s3,ea,ok,lo,rfl⟩ cdv A outer s H E b;obtain⟨d,v,t1,t2,t3,t5,t6,b0,t4⟩:=lo.strict ok;have fl:=y0 t4 (t:=1) (.inr rfl);have e2:decide ((1:Int)<=lsA (rwV R C ss) C 1 ((mkM (vMn (rwV R C ss) C) (lks (rwV R C ss) C R)).map (·.1)))=decide (lsA (rwV R C ss) C 1 ((mkM (vMn (rwV R C ss) C) (lks (rwV R C ss) C R)).map (·.1))>0):=by congr 1
   have e3:(fuO (rwV R C ss) R C 1).isNone=decide (lsA (rwV R C ss) C 1 ((mkM (vMn (rwV R C ss) C) (lks (rwV R C ss) C R)).map (·.1))>0):=fl.trans e2;rw[show D.bl true=.bl (Ev.eqD (.bl (fuO (rwV R C ss) R C 1).isNone) (.bl (fuO (rwV R C ss) R C 1).isNone)) by rw[eD]];refine cc (aa 5) ?_ (wY b (BB _) (BB _));rw[e3];exact cc (x_call b c_l_least_sign (ab (av (x_call b c_l_rows (ab (aa 4) af) ⟨R,C,d,v,_,rfl,t1,t2,t5,t6,rfl⟩) ae (aq (ai (i:=0) rfl))) af) ⟨rwV R C ss,R,C,b0,rfl,t4,rfl⟩) ae qQ
 . rintro _ _ _ ⟨m,ds,n,T,R,C,ss,rfl,rfl,hn,hl,ok,lo,rfl⟩ W' hle cdv A outer s H E b;have nd:=kQ.nd;obtain⟨e,he,hw1,hw⟩:=lo.wq;have fzc:fzD (.n (cpN T R C ss))=some (aI T R C ss):=congrArg some (Bv T R C ss);refine aA 3 nd (cH 0 b hc c_ladder (wkW.ins ⟨by decide,by decide⟩) ⟨m,ds,n,_,rfl,rfl,⟨n,rfl,hn,rfl⟩,hl,⟨T,R,C,ss,rfl,rfl⟩⟩ rfl hle (ab (aa 1) af)) ?_;refine bE (PW.pt (cn (a5 (a6 (x_call b c_l_is_ladder (ab (gu 3 rfl fzc) (ab (av (aa 2) ae (aq (ai (i:=1) rfl))) (ab (av (aa 2) ae (aq (ai (i:=2) rfl))) af))) ⟨T,R,C,ss,rfl,ok,rfl⟩))) λh=>(cg (aX (gu 3 rfl fzc) (aa 2) (uJ b (pe ok) (pe ok)))))) (by rw[eD]; rfl) ?_;refine aA 4 nd (x_call b c_l_ladders_table (ab (aa 2) af) ⟨e,T,R,C,ss,rfl,ok,hw,hw1,he,rfl⟩) (jE 4 (x:=kh (cO C R (fwd ss))) ?_ rfl (congrArg some (zV ok)));refine Dl (xs:=(ss.map stD).map .d) (CN (D0 3) ae rfl rfl rfl) rfl rfl ?_;refine aA 5 nd (cH 0 b hc c_strict (wkW.ins ⟨by decide,by decide⟩) ⟨m,ds,n,T,R,C,ss,rfl,rfl,hn,hl,ok,lo,rfl⟩ rfl hle (ab (aa 1) af)) ?_;refine bE (PW.pt (cn (Dq (C:=true) (a7 (cH 0 b hc c_table (wkW.ins ⟨by decide,by decide⟩) ⟨m,ds,n,_,rfl,rfl,⟨n,rfl,hn,rfl⟩,hl,⟨e,T,R,C,ss,rfl,ok,hw,hw1,he,rfl⟩⟩ rfl hle (ab (aa 1) af)) (congrArg some (yp _))) (aa 4) (uJ b (yr _) (yr _))) λh=>(cg (a5 (a6 (cE .bool b (aa 5))))))) (by rw[eD]; rfl) ?_;exact aK ⟨T,R,C,ss,n,_,rfl,ok,lo,rfl⟩
end
end K67
namespace Hy
open PySem PySem.Spec PyProof.Rows L2
open Ev (D Den ay)
theorem Cm {es:List Expr}{m:Nat}{p:Pos}{r:List Expr}{env:Env}:starEach (.Tuple es m p::r) env=(false,eval (.Tuple es m p) env)::starEach r env:=rfl
theorem Co {es:List Expr}{p:Pos}{r:List Expr}{env:Env}:starEach (.List es p::r) env=(false,eval (.List es p) env)::starEach r env:=rfl
theorem yY {c:Const}{m:Nat}{p:Pos}{r:List Expr}{env:Env}:starEach (.Constant c m p::r) env=(false,eval (.Constant c m p) env)::starEach r env:=rfl
section
variable {X:Cx}{C:Bool}{τ:List Sl}{ds:List D}{es r:List Expr}{m:Nat}{p pos:Pos}
structure QE (X:Cx)(e:Expr)(t:TE):Prop where
 out:PE X e t
structure QA (X:Cx)(es:List Expr)(t:TA):Prop where
 out:PA X es t
variable {xs:List D}
theorem jV:QA X [] (dA X.K C τ []):=⟨af⟩
theorem nc (h:QA X es (dA X.K C τ ds))(hr:QA X r (dA X.K C τ xs))(hl:Nat.ble ds.length 1000=true:=by rfl):QA X (.Tuple es m pos::r) (dA X.K C τ (.tup ds::xs)):=⟨ab (bz h.out hl) hr.out Cm⟩
theorem Ec (h:QA X es (dA X.K C τ ds))(hr:QA X r (dA X.K C τ xs))(hl:Nat.ble ds.length 1000=true:=by rfl):QA X (.List es pos::r) (dA X.K C τ (.lst ds::xs)):=⟨ab (a7 (bY h.out hl)) hr.out Co⟩
theorem fH {n:Int}(hr:QA X r (dA X.K C τ xs)):QA X (.Constant (.int n) m pos::r) (dA X.K C τ (.int n::xs)):=⟨ab ae hr.out yY⟩
theorem xv {n:Str}(hr:QA X r (dA X.K C τ xs)):QA X (.Constant (.str n) m pos::r) (dA X.K C τ (.str n::xs)):=⟨ab b5 hr.out yY⟩
theorem E5 (h:QA X es (dA X.K C τ ds))(hl:Nat.ble ds.length 1000=true:=by rfl):QE X (.Tuple es m pos) (dE X.K C τ (.d (.tup ds))):=⟨bz h.out hl⟩
structure PQ (X:Cx)(body:List Stmt)(t:TS):Prop where
 out:PSs X body t
variable {s:Sl}{N:Po}{rest:List Stmt}{e:Expr}
theorem EE (i:Nat){n:Str}{p:Pos}(hN:X.N.Nodup)(he:QE X e (dE X.K true τ s))(hr:PQ X rest (dS X.K (τ.set i s) N))(hi:X.N[i]?=some n:=by rfl)(hx:Loc X.env.scope n:=by first | exact .inl rfl | exact .inr rfl)(hs:swapsWith e (some (.Name n p)) pos.line X.env=pure false:=by rfl)
   (hf:X.fn n=true\/X.env.scope.names.lookup n=some .local:=by first | exact .inl rfl | exact .inr rfl | assumption):PQ X (.Assign [.Name n p] e pos::rest) (dS X.K τ N):=⟨aA i hN he.out hr.out hi hx hs hf⟩
end
end Hy
namespace K67
open PySem PySem.Spec PyProof.Rows L2 Hy
open Ev (D Den ay aJ aE)
def uz (ds:List D)(r:Sl):Prop:=∃ns:List Int,ns.length<=63/\ds=[.lst (ns.map .int)]/\r=.d (.bl true)
theorem qw {m:List (Str×D)}{n:Str}{d:D}(h:aU m n=none):fh m n d=m++[(n,d)]:=by
 unfold fh aU at *
 have h:(m.find? λp=>decide (p.1=n))=none:=by
   cases e:m.find? λp=>decide (p.1=n) with
   | none=>rfl
   | some x=>rw[e]at h; cases h
 rw[if_neg];intro z;obtain⟨p,h1,h2⟩:=K3.mp z;have:=List.find?_eq_none.mp h p h1;exact this h2
theorem xy {n0 n1:Str}{a b x:D}(h:n0≠n1):fh [(n0,a),(n1,b)] n0 x=[(n0,x),(n1,b)]:=by unfold fh;simp[Hi h]
theorem jD {m:List (Str×D)}{a n:Str}{d:D}(h:a=n):aU ((a,d)::m) n=some d:=by simp[aU,h]
theorem m9 {m:List (Str×D)}{a n:Str}{d:D}(h:a≠n):aU ((a,d)::m) n=aU m n:=by simp[aU,h]
theorem xp (c:Int)(k:Nat):J2 (nm c k)=true:=by unfold PyData.strOk;rw[Array.all_eq_true'];intro x hx;have:=(yK c k).az x (by simpa using hx);exact decide_eq_true (by omega)
noncomputable def oth:List Stp:=[("down",0,⟨1,2,by decide,by decide⟩),("up",1,⟨3,1,by decide,by decide⟩),("weigh",2,⟨0,1,by decide,by decide⟩)]
theorem tQ:okL 3 2 3 oth:=⟨by decide,by decide,by decide,by decide,by decide,by decide,by decide,λi hi=>by
 match i,hi with
 | 0,_=>exact⟨by decide,.inr ⟨.inl rfl,by decide⟩⟩
 | 1,_=>exact⟨by decide,.inr ⟨.inr rfl,by decide⟩⟩
 | 2,_=>exact⟨by decide,.inl ⟨rfl,by decide⟩⟩⟩
noncomputable def qi (T:Nat)(cs:List Int)(ss:List Stp):List Stp:=cs.foldl (λss c=>dnF T c ss) ss
section
variable {P:Program}{w:World}{K:gV}{mg:Str->Option Value}{base:Heap}{qual:Str}{f fi:Addr}{fd fdi:FuncData}{k:Nat}{Cl:Addr}{psi:List Str}
theorem iJ (hc:Cls K Cl)(n1:a8 K Cl "kept")(n2:a8 K Cl "deeds")(F:Fun K "__init__" "Works.__init__" (mth 54 0) f fd)(hb:∀x∈ah,mg x=none):aH P w K mg base CX0 (k+1) f fd ["self"] (spI Cl):=fnI F iI rfl hc n1 n2 rfl rfl (by decide) (by decide) (λ_ _ _ _ _ _=>Hh rfl) (λ_ _ _ _ _ _=>rfl) (λ_ _ _ _ _ _=>rfl)
set_option maxHeartbeats 2000000 in
theorem DF (hc:Cls K Cl)(hmk:Mk K Cl fi)(hfi:aH P w K mg base CX0 k fi fdi psi (spI Cl))(hbi:Binds K fdi psi [])(hcm:mg "Works" = some (.ref Cl))(F:Fun K "law" qual (top 82) f fd)(hb:∀x∈ah,mg x=none)
   (c_l_one:Cal P w K mg base (k+1) "_law_one" n9) (c_l_names:Cal P w K mg base (k+1) "_law_names" jm) (c_l_cell:Cal P w K mg base (k+1) "_law_cell" iW) (c_l_copy:Cal P w K mg base (k+1) "_law_copy" l4)
   (c_put:bA P w K mg base (k+1) Cl "put" (spW K (zj Cl ba bQ uZ))) (c_ladder:bA P w K mg base (k+1) Cl "ladder" (spV K (qO Cl ba lG))) (c_names:bA P w K mg base (k+1) Cl "names" (spV K (pB Cl)))
   (c_l_done:kG P w K mg base (k+1) "_law_done" (vO K (tV Cl))) (c_l_is_so:kG P w K mg base (k+1) "_law_is_so" (spV K (CT Cl))):aH P w K mg base CX0 (k+1+1) f fd ["_law_script"] (spD K uz):=by
 refine fnD F xr hb (by rintro _ _ ⟨_,_,rfl,_⟩; rfl) ?_;rintro _ _ ⟨ns,hn,rfl,rfl⟩ cdv A outer s H E b;have nd:=xr.nd;obtain⟨h1,h2,h3,h4,h5,h6⟩:=uw ns;have l0:LJ (oeT ns) 0 (oeS ns):=LJ.start _ h1;refine aA 1 nd (x_call b c_l_one (ab (aa 0) af) ⟨ns,rfl,rfl⟩) ?_;generalize oeS ns=ss at *
 generalize oeT ns=T at *
 generalize oeR ns=R at *
 generalize oeC ns=C at *
 have okLs:∀{i:Nat} {xs:List Stp},LJ T i xs->i<=17->okL T R C xs:=λ{i xs} l hi=>by have lo:=l.ok hi;have:=lo.len;exact⟨h1,h2,h3,h4,h5,h6,by omega,λj hj=>lo.st _ (by simp[hj])⟩
 have ok0:=okLs l0 (by decide);refine aA 2 nd (x_call b c_l_names (ab (x_call b c_l_cell (ab (aa 0) (ab ae af)) ⟨ns,2,rfl,rfl⟩) (ab ae af)) ⟨_,2,rfl,by decide,rfl⟩) (jE 2 ?_);have o0:=yK (ns.getD 2 0) 0;have o1:=yK (ns.getD 2 0) 1;have s0:=xp (ns.getD 2 0) 0;have s1:=xp (ns.getD 2 0) 1;have d01:=FD (ns.getD 2 0) (i:=0) (j:=1) (by decide) (by decide);show PSs _ _ (dS _ [_,_,.d (.lst [.str (nm (ns.getD 2 0) 0),.str (nm (ns.getD 2 0) 1)]),_,_,_,_,_] _);generalize nm (ns.getD 2 0) 0=n0 at *
 generalize nm (ns.getD 2 0) 1=n1 at *
 have a0:atI [D.str n0,.str n1] 0=some (.str n0):=rfl;have a1:atI [D.str n0,.str n1] 1=some (.str n1):=rfl;have sl:(1000:Nat)<=sizeLine:=by decide
 have p1:fh [] n0 (aI T R C ss)=[(n0,aI T R C ss)]:=qw rfl;have l11:aU [(n0,aI T R C ss)] n1=none:=(m9 d01).trans rfl;have p2:fh [(n0,aI T R C ss)] n1 (aI 3 2 3 oth)=[(n0,aI T R C ss),(n1,aI 3 2 3 oth)]:=qw l11
 let m1:List (Str×D):=[(n0,aI T R C ss)]
 let m2:List (Str×D):=[(n0,aI T R C ss),(n1,aI 3 2 3 oth)]
 let d1:List D:=[]++[.tup [.str n0,(aU [] n0).getD .non]]
 let d2:List D:=d1++[.tup [.str n1,(aU m1 n1).getD .non]]
 refine aA 3 nd (AJ b hmk hfi hbi rfl hcm) ?_;refine e7 (dR 3 b hc c_put (W':=wkW Cl m1 d1) (wkW.ins ⟨by decide,by decide⟩) ⟨[],[],n0,aI T R C ss,aI T R C ss,rfl,rfl,⟨n0,rfl,o0,rfl⟩,rfl,⟨T,R,C,ss,rfl,ok0,rfl⟩,⟨T,R,C,ss,rfl,rfl⟩,by show 0<sizeLine; omega,by decide,by rw[p1]⟩ rfl (ab (av (aa 2) ae (aV a0)) (ab (x_call b c_l_copy (ab (aa 1) af) ⟨T,R,C,ss,rfl,rfl⟩) af))) ?_;refine PQ.out ?_;refine EE 4 nd (s:=.d (aI 3 2 3 oth)) (E5 (fH (fH (fH (Ec (nc (xv (fH (nc (fH (fH jV)) jV))) (nc (xv (fH (nc (fH (fH jV)) jV))) (nc (xv (fH (nc (fH (fH jV)) jV))) jV))) jV))))) ?_;refine⟨?_⟩;refine e7 (dR 3 b hc c_put (W':=wkW Cl m2 d2) (wkW.ins ⟨by decide,by decide⟩) ⟨m1,d1,n1,aI 3 2 3 oth,aI 3 2 3 oth,rfl,rfl,⟨n1,rfl,o1,rfl⟩,l11,⟨3,2,3,oth,rfl,tQ,rfl⟩,⟨3,2,3,oth,rfl,rfl⟩,by show 1<sizeLine; omega,by show 1<1000000; decide,by rw[p2]⟩ rfl (ab (av (aa 2) ae (aV a1)) (ab (x_call b c_l_copy (ab (aa 4) af) ⟨3,2,3,oth,rfl,rfl⟩) af))) ?_;have ex:∃ms:List Int,ms.length<=17/\[D.int (ns.getD 3 0)]++Hy.cutD (ns.map D.int) (some 4) (some 20)=ms.map D.int:=by refine⟨ns.getD 3 0::((ns.take 20).drop 4),by simp; omega,?_⟩;rw[show (4:Int)=((4:Nat):Int) from rfl,show (20:Int)=((20:Nat):Int) from rfl,uA,<- Ik,<- JS];rfl
 obtain⟨ms,hms,ems⟩:=ex;refine aA 5 nd (zd (a7 (bY (ab (x_call b c_l_cell (ab (aa 0) (ab ae af)) ⟨ns,3,rfl,rfl⟩) af))) (a7 (vP (aa 0) (cL ae) (cL ae))) ?_) (jE 5 (x:=.lst (ms.map .int)) ?_ rfl (congrArg (λz=>some (D.lst z)) ems))
 . have:=congrArg List.length ems;rw[vp,fw]at this;show [D.int (ns.getD 3 0)].length+_<_;omega
 refine jJ (M:=λτ=>∃ms:List Int,ms.length<=17/\τ=[.d (.lst (ns.map .int)),.d (aI T R C ss),.d (.lst [.str n0,.str n1]),.w (dQ (λ_ _=>True) (wkW Cl m2 d2)),.d (aI 3 2 3 oth),.d (.lst (ms.map .int)),.un,.un])
   (aX (av (aa 1) ae (aq (ai (i:=0) rfl))) ae qQ) (λh=>?_) (λh=>?_) ?_
 . refine aA 5 nd (vP (aa 5) dH (cL ae)) (jE 5 (x:=.lst ((ms.take 4).map .int)) (aK ⟨ms.take 4,by simp; omega,rfl⟩) rfl ?_);exact congrArg (λz=>some (D.lst z)) ((ig 4).trans (by rw[Ik]))
 . exact aK ⟨ms,hms,rfl⟩
 rintro _ ⟨ms,hms,rfl⟩
 have rI:∀i (h:i<(ms.map D.int).length),(ms.map D.int)[i]=.int (ms.getD i 0):=λi h=>by
   have:i<ms.length:=by simpa using h
   simp[this]
 refine bK 6 (g:=λi=>.int (ms.getD i 0)) (λi τ=>∃dd:List D,dd.length<=2+i/\LJ T i (qi T (ms.take i) ss)/\∃s6 s7,τ=[.d (.lst (ns.map .int)),.d (aI T R C (qi T (ms.take i) ss)),.d (.lst [.str n0,.str n1]),.w (dQ (λ_ _=>True) (wkW Cl [(n0,aI T R C (qi T (ms.take i) ss)),(n1,aI 3 2 3 oth)] dd)),.d (aI 3 2 3 oth),.d (.lst (ms.map .int)),s6,s7]) b nd (a9 (aa 5)) rI ⟨d2,by show 2<=2; decide,l0,_,_,rfl⟩ (λi hi τ h=>?_) λτ h=>?_
 . obtain⟨dd,hdd,lj,s6,s7,rfl⟩:=h;have hi:i<ms.length:=by simpa using hi
   have es:qi T (ms.take (i+1)) ss=dnF T (ms.getD i 0) (qi T (ms.take i) ss):=by unfold qi;rw[take_snoc (0:Int) hi,Hm];rfl
   have lj':=lj.dn h1 (ms.getD i 0);rw[es];generalize qi T (ms.take i) ss=xs at *
   generalize ms.getD i 0=c at *
   have lo:=lj.ok (by omega);have lo':=lj'.ok (by omega);have hl:=lo.len;have lk:aU [(n0,aI T R C xs),(n1,aI 3 2 3 oth)] n0=some (aI T R C xs):=jD rfl;have lk':aU [(n0,aI T R C (dnF T c xs)),(n1,aI 3 2 3 oth)] n0=some (aI T R C (dnF T c xs)):=jD rfl;refine Ap (AY (W':=wkW Cl [(n0,aI T R C (dnF T c xs)),(n1,aI 3 2 3 oth)] (dd++[mS [(n0,aI T R C xs),(n1,aI 3 2 3 oth)] n0])) 3 b c_l_done ⟨[(n0,aI T R C xs),(n1,aI 3 2 3 oth)],dd,n0,c,T,R,C,xs,rfl,rfl,o0,lk,h1,lo.st,by omega,by show 2<sizeLine; omega,by omega,by rw[xy d01],rfl⟩ rfl (ab (av (aa 2) ae (aV a0)) (ab (aa 1) (ab (aa 6) af)))) (yA b.calm (cP 7 nd (cP 1 nd sC))) ?_;refine bE (PW.pt (cn (xR (C:=true) (aa 7)) λh=>(cg (a5 (a6 (j4 (C':=true) (B6 (W:=wkW Cl [(n0,aI T R C (dnF T c xs)),(n1,aI 3 2 3 oth)] (dd++[mS [(n0,aI T R C xs),(n1,aI 3 2 3 oth)] n0])) 3 b c_l_is_so ⟨_,_,n0,T,R,C,dnF T c xs,rfl,rfl,o0,lk',okLs lj' (by omega),lo',rfl⟩ rfl (LeW.res _ _) (ab (av (aa 2) ae (aV a0)) (ab (aa 1) af))))))))) rfl ?_;exact aK ⟨dd++[mS [(n0,aI T R C xs),(n1,aI 3 2 3 oth)] n0],by rw[vp]; show dd.length+1<=_; omega,lj',_,_,rfl⟩
 . obtain⟨dd,hdd,lj,s6,s7,rfl⟩:=h;generalize qi T _ ss=xs at *
   have lk:aU [(n0,aI T R C xs),(n1,aI 3 2 3 oth)] n1=some (aI 3 2 3 oth):=(m9 d01).trans (jD rfl);have es:Ev.eX (.lst ((fR [n0,n1]).map .str)):=zQ λx hx=>by have:=(ni [n0,n1]).mem_iff.mp hx;simp only[xb,Hl,or_false]at this;rcases this with rfl | rfl <;> assumption
   refine aL (s:=.d (.bl (Ev.eqD (aI 3 2 3 oth) (aI 3 2 3 oth)&&Ev.eqD (.lst ((fR [n0,n1]).map .str)) (.lst ((fR [n0,n1]).map .str))))) (fQ ?_ λh=>(gC ?_)) ?_
   . refine j4 (C':=true) ?_;exact cc (a7 (cH 3 b hc c_ladder (wkW.ins ⟨by decide,by decide⟩) ⟨_,dd,n1,aI 3 2 3 oth,rfl,rfl,⟨n1,rfl,o1,rfl⟩,lk,⟨3,2,3,oth,rfl,rfl⟩⟩ rfl (LeW.res _ _) (ab (av (aa 2) ae (aV a1)) af)) (congrArg some (Bv 3 2 3 oth))) (aa 4) (wY b (pe tQ) (pe tQ))
   . refine j4 (C':=true) ?_;exact cc (a7 (AE 3 b hc c_names (wkW.ins ⟨by decide,by decide⟩) ⟨_,dd,rfl,rfl,by show 2<64; decide,rfl⟩ rfl (LeW.res _ _))) (a7 (bq b (ab (aa 2) af) (Dr (ss:=[n0,n1]) (show 2<64 by decide)))) (wY b es es)
   rw[eD,eD];rfl
end
end K67
namespace Hy
open PySem PySem.Spec PyProof.Rows L2
open Ev (D Den ay)
def Dfn (K:gV)(x:Str)(st:Stmt)(f:Addr):Prop:=Ig K mainGlobals x=some (some (.ref f))/\(∃oc od kV dc pm an cd ct sl,K.lookup f=some ⟨oc,od,.func (Hr x x (bN st) (aY st) (ag st) .none kV dc pm an cd ct),sl⟩/\HX K cd x=true)/\G9 K (.ref f)=true
def BdA (x:Str)(st:Stmt)(ps:List Str):Prop:=∀(kV dc pm:Value) (an:Option Addr) (cd ct:Value) (us:List Value),us.length=ps.length->bindArgs (Hr x x (bN st) (aY st) (ag st) .none kV dc pm an cd ct) ⟨us,[]⟩=pure (ps.zip us)
noncomputable def nsL (K:gV):List Str->Prop
 | []=>True
 | x::r=>Ig K mainGlobals x=some none/\nsL K r
section
variable {P:Program}{w:World}{K:gV}{h:Heap}{mg:Str->Option Value}{base:Heap}{x:Str}{st:Stmt}{f:Addr}{ps:List Str}{k:Nat}{Φ:List D->Sl->Prop}
theorem Dfn.of {oc:Value}{od an:Option Addr}{kV dc pm cd ct:Value}{sl:Array (Option Value)}(a:Ig K mainGlobals x=some (some (.ref f)))(l:K.lookup f=some ⟨oc,od,.func (Hr x x (bN st) (aY st) (ag st) .none kV dc pm an cd ct),sl⟩)(c:HX K cd x=true)(k:G9 K (.ref f)=true):Dfn K x st f:=⟨a,⟨_,_,_,_,_,_,_,_,_,l,c⟩,k⟩
theorem nsL.none (X:K.In h)(G:h.Ns mainGlobals mg):∀{l:List Str},nsL K l->∀x∈l,mg x=none
 | _::_,z,x,m=>by
   rcases xb.mp m with rfl | m
   . exact PySem.W.mg_none_of X G z.1
   . exact nsL.none X G z.2 x m
theorem Dfn.fn (d:Dfn K x st f)(X:K.In h)(G:h.Ns mainGlobals mg)(b:BdA x st ps):∃fd,Fun K x x st f fd/\mg x=some (.ref f)/\G9 K (.ref f)=true/\Binds K fd ps []:=by obtain⟨a,⟨oc,od,kV,dc,pm,an,cd,ct,sl,l,c'⟩,q⟩:=d;have F:=pw l c' q;exact⟨_,F,Iu X G a,q,F.binds (b kV dc pm an cd ct)⟩
theorem Dfn.cal (d:Dfn K x st f)(X:K.In h)(G:h.Ns mainGlobals mg)(b:BdA x st ps)(o:∀fd,Fun K x x st f fd->aH P w K mg base CX0 k f fd ps (spD K Φ)):Cal P w K mg base k x Φ:=by obtain⟨fd,F,h1,h2,h3⟩:=d.fn X G b;exact⟨f,fd,ps,o fd F,h1,h2,h3⟩
end
theorem bd1 {Q:List Value->Prop}(h:∀a,Q [a]):∀us:List Value,us.length=1->Q us:=λus e=>match us,e with | [a],_=>h a
theorem bd2 {Q:List Value->Prop}(h:∀a b,Q [a,b]):∀us:List Value,us.length=2->Q us:=λus e=>match us,e with | [a,b],_=>h a b
theorem bd3 {Q:List Value->Prop}(h:∀a b c,Q [a,b,c]):∀us:List Value,us.length=3->Q us:=λus e=>match us,e with | [a,b,c],_=>h a b c
theorem bd4 {Q:List Value->Prop}(h:∀a b c d,Q [a,b,c,d]):∀us:List Value,us.length=4->Q us:=λus e=>match us,e with | [a,b,c,d],_=>h a b c d
theorem bd5 {Q:List Value->Prop}(h:∀a b c d e,Q [a,b,c,d,e]):∀us:List Value,us.length=5->Q us:=λus e=>match us,e with | [a,b,c,d,f],_=>h a b c d f
theorem bd6 {Q:List Value->Prop}(h:∀a b c d e f,Q [a,b,c,d,e,f]):∀us:List Value,us.length=6->Q us:=λus e=>match us,e with | [a,b,c,d,f,g],_=>h a b c d f g
def eN (K:gV)(C:Addr)(x qual:Str)(st:Stmt)(f:Addr):Prop:=Hj K (.ref C) x=some (some (.ref f))/\JW K (.ref f)=true/\(∃oc od kV dc pm an cd ct sl,K.lookup f=some ⟨oc,od,.func (Hr x qual (bN st) (aY st) (ag st) .none kV dc pm an cd ct),sl⟩/\HX K cd qual=true)/\G9 K (.ref f)=true
def BdM (x qual:Str)(st:Stmt)(ps:List Str):Prop:=∀(kV dc pm:Value) (an:Option Addr) (cd ct:Value) (us:List Value),us.length=ps.length->bindArgs (Hr x qual (bN st) (aY st) (ag st) .none kV dc pm an cd ct) ⟨us,[]⟩=pure (ps.zip us)
section
variable {P:Program}{w:World}{K:gV}{mg:Str->Option Value}{base:Heap}{x qual:Str}{st:Stmt}{f C:Addr}{ps:List Str}{j k:Nat}{sp:Sp}
theorem eN.of {oc:Value}{od an:Option Addr}{kV dc pm cd ct:Value}{sl:Array (Option Value)}(a:Hj K (.ref C) x=some (some (.ref f)))(i:JW K (.ref f)=true)(l:K.lookup f=some ⟨oc,od,.func (Hr x qual (bN st) (aY st) (ag st) .none kV dc pm an cd ct),sl⟩)(c:HX K cd qual=true)(k:G9 K (.ref f)=true):eN K C x qual st f:=⟨a,i,⟨_,_,_,_,_,_,_,_,_,l,c⟩,k⟩
theorem eN.fn (d:eN K C x qual st f)(b:BdM x qual st ps):∃fd,Fun K x qual st f fd/\Binds K fd ps []:=by obtain⟨a,i,⟨oc,od,kV,dc,pm,an,cd,ct,sl,l,c'⟩,q⟩:=d;have F:=pw l c' q;exact⟨_,F,F.binds (b kV dc pm an cd ct)⟩
theorem eN.cal (d:eN K C x qual st f)(b:BdM x qual st ps)(o:∀fd,Fun K x qual st f fd->aH P w K mg base CX0 k f fd ps sp):bA P w K mg base k C x sp:=by obtain⟨fd,F,h⟩:=d.fn b;exact⟨f,fd,ps,o fd F,⟨d.1,d.2.1,d.2.2.2⟩,h⟩
theorem bA.mono (c:bA P w K mg base j C x sp)(h:j<=k):bA P w K mg base k C x sp:=let ⟨f,fd,ps,F,r⟩:=c; ⟨f,fd,ps,F.mono h,r⟩
end
theorem _root_.L2.Fun.Ce {K:gV}{x qual:Str}{st:Stmt}{f T:Addr}{fd:FuncData}{ps:List Str}{c:Value}{d:Option Addr}{items:Array Value}{n:Nat}{sl:Array (Option Value)}(_:L2.Fun K x qual st f fd)(hd:fd.defaults=.ref T)(lT:K.lookup T=some ⟨c,d,.seq items n,sl⟩)
   (h:∀us:List Value,us.length=ps.length->∃k,bindArgs fd ⟨us,[]⟩=seqItems? fd.defaults >>= k/\k (some items)=pure (ps.zip us)):L2.Binds K fd ps []:=λs us X hl=>by
 rw[G3]at hl ⊢;obtain⟨k,h1,h2⟩:=h us hl;exact .of_defaults hd (X _ _ lT) rfl h1 h2
def zg (K:gV)(x:Str)(st:Stmt)(f:Addr)(i:Int):Prop:=Ig K mainGlobals x=some (some (.ref f))/\(∃oc od kV dc pm an cd ct sl T td tl tc tt tn,K.lookup f=some ⟨oc,od,.func (Hr x x (bN st) (aY st) (ag st) (.ref T) kV dc pm an cd ct),sl⟩/\HX K cd x=true/\K.lookup T=some ⟨tc,td,.seq #[.int i tt] tn,tl⟩)/\G9 K (.ref f)=true
section
variable {P:Program}{w:World}{K:gV}{h:Heap}{mg:Str->Option Value}{base:Heap}{x:Str}{st:Stmt}{f:Addr}{ps:List Str}{k:Nat}{Φ:List D->Sl->Prop}{i:Int}
theorem zg.of {oc tc:Value}{od an td:Option Addr}{kV dc pm cd ct:Value}{sl tl:Array (Option Value)}{T:Addr}{tt:Tok}{tn:Nat}(a:Ig K mainGlobals x=some (some (.ref f)))(l:K.lookup f=some ⟨oc,od,.func (Hr x x (bN st) (aY st) (ag st) (.ref T) kV dc pm an cd ct),sl⟩)(c:HX K cd x=true)(d:K.lookup T=some ⟨tc,td,.seq #[.int i tt] tn,tl⟩)(k:G9 K (.ref f)=true):zg K x st f i:=⟨a,⟨_,_,_,_,_,_,_,_,_,_,_,_,_,_,_,l,c,d⟩,k⟩
theorem zg.cal (d:zg K x st f i)(X:K.In h)(G:h.Ns mainGlobals mg)(b:∀(T:Addr) (tt:Tok) (kV dc pm:Value) (an:Option Addr) (cd ct:Value) (us:List Value),us.length=ps.length->∃k,bindArgs (Hr x x (bN st) (aY st) (ag st) (.ref T) kV dc pm an cd ct) ⟨us,[]⟩=seqItems? (.ref T) >>= k/\k (some #[.int i tt])=pure (ps.zip us))
   (o:∀fd,Fun K x x st f fd->aH P w K mg base CX0 k f fd ps (spD K Φ)):Cal P w K mg base k x Φ:=by
 obtain⟨a,⟨oc,od,kV,dc,pm,an,cd,ct,sl,T,td,tl,tc,tt,tn,l,c',dt⟩,q⟩:=d;have F:=pw l c' q;exact⟨f,_,ps,o _ F,Iu X G a,q,F.Ce rfl dt (b T tt kV dc pm an cd ct)⟩
end
end Hy
namespace K67
open PySem PySem.Spec PyProof.Rows L2 Hy
set_option maxHeartbeats 0 in
theorem all_mk {l:KR}{w:World}{K:gV}{h:Heap}{mg:Str->Option Value}{fa f0 f1 f2 f3 f4 f5 f6 f7 f8 f9 f10 f11 f12 f13 f14 f15 f16 f17 f18 f19 f20 f21 f22 f23 f24 f25 f26 f27 f28 f29 f30 f31 f32 f33 f34 f35 f36 f37 f38 f39 f40 f41 f42 f43 f44 f45 f46 f47 f48 f49 f50 f51 f52 f53 f54 f55 f56 f57 f58 f59 f60 f61 f62 f63 f64 f65 f66 f67 f68 f69 f70 f71 f72 f73:Addr}{t0 t1 t2:Tok}{CW:Addr}{tb4:Tok}(X:K.In h)(G:h.Ns mainGlobals mg)(hfa:mg "law" = some (.ref fa))
   (h0:Dfn K "_law_numbers" (top 61) f0) (h1:Dfn K "_law_divisor" (top 62) f1) (h2:Dfn K "_law_made" (top 63) f2) (h3:Dfn K "_law_ten" (top 59) f3) (h4:Dfn K "_law_weight" (top 68) f4) (h5:Dfn K "_law_ladder" (top 69) f5) (h6:Dfn K "_law_drawn" (top 78) f6) (h7:Dfn K "_law_cell" (top 60) f7) (h8:Dfn K "_law_one" (top 79) f8) (h9:Dfn K "_law_names" (top 73) f9) (h10:eN K CW "__init__" "Works.__init__" (mth 54 0) f10) (h11:Dfn K "is_name" (top 53) f11) (h12:eN K CW "look_new" "Works.look_new" (mth 54 1) f12) (h13:Dfn K "is_whole" (top 11) f13) (h14:Dfn K "is_between" (top 12) f14) (h15:Dfn K "common_divisor" (top 14) f15) (h16:Dfn K "is_fraction" (top 13) f16) (h17:Dfn K "is_weight" (top 38) f17) (h18:Dfn K "is_step" (top 39) f18) (h19:Dfn K "is_ladder" (top 40) f19) (h20:Dfn K "look_ladder" (top 41) f20) (h21:eN K CW "keep" "Works.keep" (mth 54 3) f21) (h22:Dfn K "with_steps" (top 55) f22) (h23:Dfn K "own" (top 56) f23) (h24:eN K CW "put" "Works.put" (mth 54 4) f24) (h25:Dfn K "_law_copy" (top 77) f25) (h26:eN K CW "look_kept" "Works.look_kept" (mth 54 2) f26) (h27:eN K CW "look_place" "Works.look_place" (mth 54 9) f27) (h28:eN K CW "change" "Works.change" (mth 54 13) f28) (h29:eN K CW "weigh" "Works.weigh" (mth 54 10) f29) (h30:eN K CW "take_out" "Works.take_out" (mth 54 12) f30) (h31:eN K CW "add" "Works.add" (mth 54 11) f31) (h32:Dfn K "_law_done" (top 80) f32) (h33:eN K CW "ladder" "Works.ladder" (mth 54 16) f33) (h34:eN K CW "names" "Works.names" (mth 54 15) f34) (h35:Dfn K "_law_times" (top 71) f35) (h36:Dfn K "_law_plus" (top 70) f36) (h37:Dfn K "_law_ladders_table" (top 72) f37) (h38:Dfn K "is_short_list" (top 20) f38) (h39:Dfn K "is_row" (top 21) f39) (h40:Dfn K "is_table" (top 22) f40) (h41:Dfn K "look_table" (top 23) f41) (h42:Dfn K "choices_of" (top 24) f42) (h43:Dfn K "along_last_row" (top 35) f43) (h44:Dfn K "one_row_more" (top 34) f44) (h45:Dfn K "all_determinants" (top 33) f45) (h46:Dfn K "whole_row" (top 29) f46) (h47:Dfn K "whole_rows" (top 30) f47) (h48:Dfn K "scale_of" (top 28) f48) (h49:Dfn K "first_under" (top 32) f49) (h50:Dfn K "is_strict" (top 31) f50) (h51:Dfn K "column_of" (top 26) f51) (h52:Dfn K "columns_of" (top 25) f52) (h53:Dfn K "first_sums" (top 46) f53) (h54:Dfn K "shared_divisor" (top 15) f54) (h55:Dfn K "weighed_sums" (top 48) f55) (h56:Dfn K "added_sums" (top 49) f56) (h57:Dfn K "in_lowest_terms" (top 16) f57) (h58:zg K "fraction" (top 17) f58 (1)) (h59:Dfn K "told_sums" (top 47) f59) (h60:Dfn K "rung_end" (top 43) f60) (h61:Dfn K "rung_start" (top 42) f61) (h62:Dfn K "table_of" (top 45) f62) (h63:eN K CW "table" "Works.table" (mth 54 17) f63) (h64:eN K CW "strict" "Works.strict" (mth 54 18) f64) (h65:Dfn K "_law_whole" (top 64) f65) (h66:Dfn K "_law_is_weight" (top 74) f66) (h67:Dfn K "_law_is_step" (top 75) f67) (h68:Dfn K "_law_is_ladder" (top 76) f68) (h69:Dfn K "_law_minors" (top 66) f69) (h70:Dfn K "_law_least_sign" (top 67) f70) (h71:Dfn K "_law_rows" (top 65) f71) (h72:Dfn K "_law_is_so" (top 81) f72) (h73:Dfn K "law" (top 82) f73) (hz:nsL K ah) (z0:Ig K mainGlobals "MOST" = some (some (.int 7 t0))) (z1:Ig K mainGlobals "MOST_STEPS" = some (some (.int 400 t1))) (z2:Ig K mainGlobals "MOST_LETTERS" = some (some (.int 8 t2))) (zf:Ig K mainGlobals "LETTERS" = some (some (.str jM tb4))) (aC:Ig K mainGlobals "Works" = some (some (.ref CW))) (pg:Jd K CW Str.empty=true) (hd:JD K CW=true) (po:Ks K CW=true) (sa:Hj K (.ref CW) "__setattr__" = some (some (.builtin "object.__setattr__"))) (mk:KQ K CW=true) (kc:G9 K (.ref CW)=true) (nK:Hj K (.ref CW) "kept" = some none) (nD:Hj K (.ref CW) "deeds" = some none) :
   ∃fd:FuncData,(∀(s:Shared) (v:Value),BindsTo s fd ⟨[v],[]⟩ [("_law_script",v)])/\∀base:Heap,K.In base->base.Ns mainGlobals mg->aH l.prog w K mg base CX0 11 fa fd ["_law_script"] (spD K uz):=by
 have hb:=hz.none X G;have y_MOST:∃t,mg "MOST" = some (.int 7 t):=⟨_,Iu X G z0⟩;have y_MOST_STEPS:∃t,mg "MOST_STEPS" = some (.int 400 t):=⟨_,Iu X G z1⟩;have y_MOST_LETTERS:∃t,mg "MOST_LETTERS" = some (.int 8 t):=⟨_,Iu X G z2⟩;have y_LETTERS:∃t,mg "LETTERS" = some (.str jM t):=⟨_,Iu X G zf⟩;have hc:Cls K CW:=⟨pg,hd,po,sa⟩;have n1:a8 K CW "kept":=nK;have n2:a8 K CW "deeds":=nD;obtain⟨a,⟨oc,od,kV,dc,pm,an,cd,ct,sl,l0,c⟩,r⟩:=h73;cases hfa.symm.trans (Iu X G a);refine⟨Hr "law" "law" (bN (top 82)) (aY (top 82)) (ag (top 82)) .none kV dc pm an cd ct,λs v=>.of_eq rfl,λbase _ _=>?_⟩;have c_l_numbers:Cal l.prog w K mg base 1 "_law_numbers" bL:=h0.cal (ps:=["_law_cell_here","_law_bases"]) X G (λ_ _ _ _ _ _=>Hy.bd2 λ_ _=>rfl) λ_ F=>pf (k:=0) F hb;have c_l_divisor:Cal l.prog w K mg base 1 "_law_divisor" cF:=h1.cal (ps:=["_law_one_here","_law_other"]) X G (λ_ _ _ _ _ _=>Hy.bd2 λ_ _=>rfl) λ_ F=>oI (k:=0) F hb;have c_l_made:Cal l.prog w K mg base 2 "_law_made" gq:=h2.cal (ps:=["_law_top","_law_bottom"]) X G (λ_ _ _ _ _ _=>Hy.bd2 λ_ _=>rfl) λ_ F=>vU (k:=1) F hb c_l_divisor;have c_l_ten:Cal l.prog w K mg base 1 "_law_ten" ko:=h3.cal (ps:=["_law_many"]) X G (λ_ _ _ _ _ _=>Hy.bd1 λ_=>rfl) λ_ F=>xw (k:=0) F hb;have c_l_weight:Cal l.prog w K mg base 3 "_law_weight" fB:=h4.cal (ps:=["_law_part","_law_figures"]) X G (λ_ _ _ _ _ _=>Hy.bd2 λ_ _=>rfl) λ_ F=>qM (k:=2) F hb c_l_made (c_l_ten.mono (by decide));have c_l_ladder:Cal l.prog w K mg base 4 "_law_ladder" eU:=h5.cal (ps:=["_law_cell_here","_law_tracks","_law_rows_here","_law_columns","_law_many","_law_figures"]) X G (λ_ _ _ _ _ _=>Hy.bd6 λ_ _ _ _ _ _=>rfl) λ_ F=>rL (k:=3) F hb (c_l_numbers.mono (by decide)) c_l_weight (c_l_ten.mono (by decide));have c_l_drawn:Cal l.prog w K mg base 5 "_law_drawn" jg:=h6.cal (ps:=["_law_cell_here","_law_tracks","_law_rows_here","_law_columns","_law_most"]) X G (λ_ _ _ _ _ _=>Hy.bd5 λ_ _ _ _ _=>rfl) λ_ F=>tS (k:=4) F hb (c_l_numbers.mono (by decide)) c_l_ladder;have c_l_cell:Cal l.prog w K mg base 1 "_law_cell" iW:=h7.cal (ps:=["_law_script","_law_k"]) X G (λ_ _ _ _ _ _=>Hy.bd2 λ_ _=>rfl) λ_ F=>wa (k:=0) F hb;have c_l_one:Cal l.prog w K mg base 6 "_law_one" n9:=h8.cal (ps:=["_law_script"]) X G (λ_ _ _ _ _ _=>Hy.bd1 λ_=>rfl) λ_ F=>xN (k:=5) F hb (c_l_numbers.mono (by decide)) (c_l_cell.mono (by decide)) c_l_drawn;have c_l_names:Cal l.prog w K mg base 2 "_law_names" jm:=h9.cal (ps:=["_law_cell_here","_law_many"]) X G (λ_ _ _ _ _ _=>Hy.bd2 λ_ _=>rfl) λ_ F=>sZ (k:=1) F hb c_l_numbers;have c_is_name:Cal l.prog w K mg base 1 "is_name" ba:=h11.cal (ps:=["thing"]) X G (λ_ _ _ _ _ _=>Hy.bd1 λ_=>rfl) λ_ F=>sF (k:=0) F hb y_LETTERS y_MOST_LETTERS;have c_Works_look_new:bA l.prog w K mg base 2 CW "look_new" (spV K λW a s=>yn CW ba W a/\s=.d .non):=h12.cal (ps:=["self","name"]) (λ_ _ _ _ _ _=>Hy.bd2 λ_ _=>rfl) λ_ F=>i8 (k:=1) hc n1 F hb c_is_name;have c_is_whole:Cal l.prog w K mg base 1 "is_whole" cS:=h13.cal (ps:=["thing"]) X G (λ_ _ _ _ _ _=>Hy.bd1 λ_=>rfl) λ_ F=>qv (k:=0) F hb;have c_is_between:Cal l.prog w K mg base 2 "is_between" cj:=h14.cal (ps:=["thing","least","most"]) X G (λ_ _ _ _ _ _=>Hy.bd3 λ_ _ _=>rfl) λ_ F=>mJ (k:=1) F hb c_is_whole;have c_common_divisor:Cal l.prog w K mg base 1 "common_divisor" aW:=h15.cal (ps:=["one","other"]) X G (λ_ _ _ _ _ _=>Hy.bd2 λ_ _=>rfl) λ_ F=>iO (k:=0) F hb;have c_is_fraction:Cal l.prog w K mg base 2 "is_fraction" cD:=h16.cal (ps:=["thing"]) X G (λ_ _ _ _ _ _=>Hy.bd1 λ_=>rfl) λ_ F=>lB (k:=1) F hb c_is_whole c_common_divisor;have c_is_weight:Cal l.prog w K mg base 3 "is_weight" dk:=h17.cal (ps:=["thing"]) X G (λ_ _ _ _ _ _=>Hy.bd1 λ_=>rfl) λ_ F=>nZ (k:=2) F hb c_is_fraction;have c_is_step:Cal l.prog w K mg base 4 "is_step" gD:=h18.cal (ps:=["thing","tracks"]) X G (λ_ _ _ _ _ _=>Hy.bd2 λ_ _=>rfl) λ_ F=>tm (k:=3) F hb (c_is_between.mono (by decide)) c_is_weight;have c_is_ladder:Cal l.prog w K mg base 5 "is_ladder" gm:=h19.cal (ps:=["thing"]) X G (λ_ _ _ _ _ _=>Hy.bd1 λ_=>rfl) λ_ F=>nX (k:=4) F hb y_MOST y_MOST_STEPS (c_is_between.mono (by decide)) c_is_step;have c_look_ladder:Cal l.prog w K mg base 6 "look_ladder" bQ:=h20.cal (ps:=["thing"]) X G (λ_ _ _ _ _ _=>Hy.bd1 λ_=>rfl) λ_ F=>lO (k:=5) F hb c_is_ladder;have c_Works_keep:bA l.prog w K mg base 1 CW "keep" (spW K (o9 CW)):=h21.cal (ps:=["self","name","ladder"]) (λ_ _ _ _ _ _=>Hy.bd3 λ_ _ _=>rfl) λ_ F=>mR (k:=0) hc n1 n2 F hb;have c_with_steps:Cal l.prog w K mg base 1 "with_steps" cQ:=h22.cal (ps:=["ladder","steps"]) X G (λ_ _ _ _ _ _=>Hy.bd2 λ_ _=>rfl) λ_ F=>mC (k:=0) F hb;obtain⟨fd_w,F_w,m_w,k_w,b_w⟩:=h22.fn (ps:=["ladder","steps"]) X G (λ_ _ _ _ _ _=>Hy.bd2 λ_ _=>rfl);have c_ws:kG l.prog w K mg base 1 "with_steps" (Cj K):=⟨_,_,_,l7 (k:=0) F_w hb,m_w,k_w,b_w⟩;have c_own:Cal l.prog w K mg base 2 "own" uZ:=h23.cal (ps:=["ladder"]) X G (λ_ _ _ _ _ _=>Hy.bd1 λ_=>rfl) λ_ F=>Ds (k:=1) F hb c_with_steps;have c_ownN:Cal l.prog w K mg base 2 "own" lG:=h23.cal (ps:=["ladder"]) X G (λ_ _ _ _ _ _=>Hy.bd1 λ_=>rfl) λ_ F=>zS (k:=1) F hb c_ws;have c_Works_put:bA l.prog w K mg base 7 CW "put" (spW K (zj CW ba bQ uZ)):=h24.cal (ps:=["self","name","ladder"]) (λ_ _ _ _ _ _=>Hy.bd3 λ_ _ _=>rfl) λ_ F=>pE (k:=6) hc F hb (c_Works_look_new.mono (by decide)) c_look_ladder (c_own.mono (by decide)) (c_Works_keep.mono (by decide));have c_l_copy:Cal l.prog w K mg base 1 "_law_copy" l4:=h25.cal (ps:=["_law_ladder_here"]) X G (λ_ _ _ _ _ _=>Hy.bd1 λ_=>rfl) λ_ F=>wQ (k:=0) F hb;have c_Works_look_kept:bA l.prog w K mg base 2 CW "look_kept" (spV K λW a s=>mV CW ba W a/\s=.d .non):=h26.cal (ps:=["self","name"]) (λ_ _ _ _ _ _=>Hy.bd2 λ_ _=>rfl) λ_ F=>ij (k:=1) hc n1 F hb c_is_name;have c_Works_look_place:bA l.prog w K mg base 3 CW "look_place" (spV K λW a s=>kx CW W a/\s=.d .non):=h27.cal (ps:=["self","name","at"]) (λ_ _ _ _ _ _=>Hy.bd3 λ_ _ _=>rfl) λ_ F=>gU (k:=2) hc n1 F hb c_Works_look_kept c_is_between;have c_Works_change:bA l.prog w K mg base 2 CW "change" (spW K (gi CW)):=h28.cal (ps:=["self","name","at","fresh"]) (λ_ _ _ _ _ _=>Hy.bd4 λ_ _ _ _=>rfl) λ_ F=>ka (k:=1) hc n1 F hb c_Works_keep c_with_steps;have c_Works_weigh:bA l.prog w K mg base 4 CW "weigh" (spW K (pj CW)):=h29.cal (ps:=["self","name","at","weight"]) (λ_ _ _ _ _ _=>Hy.bd4 λ_ _ _ _=>rfl) λ_ F=>kX (k:=3) hc n1 F hb c_Works_look_place (c_Works_change.mono (by decide)) c_is_weight;have c_Works_take_out:bA l.prog w K mg base 4 CW "take_out" (spW K (yu CW)):=h30.cal (ps:=["self","name","at"]) (λ_ _ _ _ _ _=>Hy.bd3 λ_ _ _=>rfl) λ_ F=>iK (k:=3) hc F hb c_Works_look_place (c_Works_change.mono (by decide));have c_Works_add:bA l.prog w K mg base 5 CW "add" (spW K (xS CW)):=h31.cal (ps:=["self","name","step"]) (λ_ _ _ _ _ _=>Hy.bd3 λ_ _ _=>rfl) λ_ F=>oo (k:=4) hc n1 F hb y_MOST_STEPS (c_Works_look_kept.mono (by decide)) c_is_step (c_Works_change.mono (by decide));obtain⟨fd_l_done,F_l_done',m_l_done,k_l_done,b_l_done⟩:=h32.fn (ps:=["_law_works","_law_name","_law_mine","_law_cell_here"]) X G (λ_ _ _ _ _ _=>Hy.bd4 λ_ _ _ _=>rfl);have c_l_done:kG l.prog w K mg base 6 "_law_done" (vO K (tV CW)):=⟨_,_,_,vX (k:=5) hc F_l_done' hb (c_Works_weigh.mono (by decide)) (c_Works_take_out.mono (by decide)) c_Works_add (c_l_numbers.mono (by decide)) (c_l_weight.mono (by decide)) (c_l_ladder.mono (by decide)),m_l_done,k_l_done,b_l_done⟩;have c_Works_ladder:bA l.prog w K mg base 3 CW "ladder" (spV K (qO CW ba lG)):=h33.cal (ps:=["self","name"]) (λ_ _ _ _ _ _=>Hy.bd2 λ_ _=>rfl) λ_ F=>ke (k:=2) hc n1 F hb c_Works_look_kept c_ownN;have c_Works_names:bA l.prog w K mg base 1 CW "names" (spV K (pB CW)):=h34.cal (ps:=["self"]) (λ_ _ _ _ _ _=>Hy.bd1 λ_=>rfl) λ_ F=>kF (k:=0) hc n1 F hb;have c_l_times:Cal l.prog w K mg base 3 "_law_times" jK:=h35.cal (ps:=["_law_one_here","_law_other"]) X G (λ_ _ _ _ _ _=>Hy.bd2 λ_ _=>rfl) λ_ F=>sP (k:=2) F hb c_l_made;have c_l_plus:Cal l.prog w K mg base 3 "_law_plus" ly:=h36.cal (ps:=["_law_one_here","_law_other"]) X G (λ_ _ _ _ _ _=>Hy.bd2 λ_ _=>rfl) λ_ F=>wI (k:=2) F hb c_l_made;have c_l_ladders_table:Cal l.prog w K mg base 4 "_law_ladders_table" cb:=h37.cal (ps:=["_law_ladder_here"]) X G (λ_ _ _ _ _ _=>Hy.bd1 λ_=>rfl) λ_ F=>iw (k:=3) F hb c_l_times c_l_plus;have c_is_short_list:Cal l.prog w K mg base 1 "is_short_list" bT:=h38.cal (ps:=["thing"]) X G (λ_ _ _ _ _ _=>Hy.bd1 λ_=>rfl) λ_ F=>jA (k:=0) F hb y_MOST;have c_is_row:Cal l.prog w K mg base 3 "is_row" kL:=h39.cal (ps:=["thing"]) X G (λ_ _ _ _ _ _=>Hy.bd1 λ_=>rfl) λ_ F=>wz (k:=2) F hb (c_is_short_list.mono (by decide)) c_is_fraction;have c_is_table:Cal l.prog w K mg base 4 "is_table" ie:=h40.cal (ps:=["thing"]) X G (λ_ _ _ _ _ _=>Hy.bd1 λ_=>rfl) λ_ F=>qR (k:=3) F hb (c_is_short_list.mono (by decide)) c_is_row;have c_look_table:Cal l.prog w K mg base 5 "look_table" eZ:=h41.cal (ps:=["thing"]) X G (λ_ _ _ _ _ _=>Hy.bd1 λ_=>rfl) λ_ F=>mD (k:=4) F hb c_is_table;have c_choices_of:Cal l.prog w K mg base 1 "choices_of" fg:=h42.cal (ps:=["many","size"]) X G (λ_ _ _ _ _ _=>Hy.bd2 λ_ _=>rfl) λ_ F=>mI (k:=0) F hb;have c_along_last_row:Cal l.prog w K mg base 1 "along_last_row" (cv l.prog w):=h43.cal (ps:=["known","row","columns"]) X G (λ_ _ _ _ _ _=>Hy.bd3 λ_ _ _=>rfl) λ_ F=>iS (k:=0) F hb;have c_one_row_more:Cal l.prog w K mg base 2 "one_row_more" (cZ l.prog w):=h44.cal (ps:=["known","row","column_choices"]) X G (λ_ _ _ _ _ _=>Hy.bd3 λ_ _ _=>rfl) λ_ F=>kb (k:=1) F hb c_along_last_row;have c_all_determinants:Cal l.prog w K mg base 3 "all_determinants" (bV l.prog w):=h45.cal (ps:=["rows"]) X G (λ_ _ _ _ _ _=>Hy.bd1 λ_=>rfl) λ_ F=>gP (k:=2) F hb (c_choices_of.mono (by decide)) c_one_row_more;have c_whole_row:Cal l.prog w K mg base 1 "whole_row" gk:=h46.cal (ps:=["row","scale"]) X G (λ_ _ _ _ _ _=>Hy.bd2 λ_ _=>rfl) λ_ F=>pL (k:=0) F hb;have c_whole_rows:Cal l.prog w K mg base 2 "whole_rows" fb:=h47.cal (ps:=["table","scales"]) X G (λ_ _ _ _ _ _=>Hy.bd2 λ_ _=>rfl) λ_ F=>mx (k:=1) F hb c_whole_row;have c_scale_of:Cal l.prog w K mg base 2 "scale_of" iq:=h48.cal (ps:=["row"]) X G (λ_ _ _ _ _ _=>Hy.bd1 λ_=>rfl) λ_ F=>rV (k:=1) F hb c_common_divisor;have c_first_under:Cal l.prog w K mg base 4 "first_under" dZ:=h49.cal (ps:=["table","bound"]) X G (λ_ _ _ _ _ _=>Hy.bd2 λ_ _=>rfl) λ_ F=>kD (k:=3) F hb c_all_determinants (c_whole_rows.mono (by decide)) (c_scale_of.mono (by decide));have c_is_strict:Cal l.prog w K mg base 6 "is_strict" gw:=h50.cal (ps:=["table"]) X G (λ_ _ _ _ _ _=>Hy.bd1 λ_=>rfl) λ_ F=>oW (k:=5) F hb c_look_table (c_first_under.mono (by decide));have c_column_of:Cal l.prog w K mg base 1 "column_of" gd:=h51.cal (ps:=["table","j"]) X G (λ_ _ _ _ _ _=>Hy.bd2 λ_ _=>rfl) λ_ F=>oT (k:=0) F hb;have c_columns_of:Cal l.prog w K mg base 2 "columns_of" fG:=h52.cal (ps:=["table"]) X G (λ_ _ _ _ _ _=>Hy.bd1 λ_=>rfl) λ_ F=>mv (k:=1) F hb c_column_of;have c_first_sums:Cal l.prog w K mg base 1 "first_sums" ff:=h53.cal (ps:=["track","rows"]) X G (λ_ _ _ _ _ _=>Hy.bd2 λ_ _=>rfl) λ_ F=>mq (k:=0) F hb;have c_shared_divisor:Cal l.prog w K mg base 2 "shared_divisor" bM:=h54.cal (ps:=["number","others"]) X G (λ_ _ _ _ _ _=>Hy.bd2 λ_ _=>rfl) λ_ F=>i6 (k:=1) F hb c_common_divisor;have c_weighed_sums:Cal l.prog w K mg base 3 "weighed_sums" df:=h55.cal (ps:=["sums","weight"]) X G (λ_ _ _ _ _ _=>Hy.bd2 λ_ _=>rfl) λ_ F=>j9 (k:=2) F hb (c_common_divisor.mono (by decide)) c_shared_divisor;have c_added_sums:Cal l.prog w K mg base 3 "added_sums" eQ:=h56.cal (ps:=["one","other"]) X G (λ_ _ _ _ _ _=>Hy.bd2 λ_ _=>rfl) λ_ F=>mF (k:=2) F hb (c_common_divisor.mono (by decide)) c_shared_divisor;have c_in_lowest_terms:Cal l.prog w K mg base 2 "in_lowest_terms" b9:=h57.cal (ps:=["top","bottom"]) X G (λ_ _ _ _ _ _=>Hy.bd2 λ_ _=>rfl) λ_ F=>iA (k:=1) F hb c_common_divisor;have c_fraction:Cal l.prog w K mg base 3 "fraction" iz:=h58.cal (ps:=["top","bottom"]) X G (λ_ _ _ _ _ _ _ _=>Hy.bd2 λ_ _=>⟨_,rfl,rfl⟩) λ_ F=>qB (k:=2) F hb c_in_lowest_terms (c_is_whole.mono (by decide));have c_told_sums:Cal l.prog w K mg base 4 "told_sums" gx:=h59.cal (ps:=["sums"]) X G (λ_ _ _ _ _ _=>Hy.bd1 λ_=>rfl) λ_ F=>pJ (k:=3) F hb c_fraction;have c_rung_end:Cal l.prog w K mg base 1 "rung_end" il:=h60.cal (ps:=["step"]) X G (λ_ _ _ _ _ _=>Hy.bd1 λ_=>rfl) λ_ F=>qN (k:=0) F hb;have c_rung_start:Cal l.prog w K mg base 1 "rung_start" ft:=h61.cal (ps:=["step"]) X G (λ_ _ _ _ _ _=>Hy.bd1 λ_=>rfl) λ_ F=>mO (k:=0) F hb;have c_table_of:Cal l.prog w K mg base 7 "table_of" cY:=h62.cal (ps:=["ladder"]) X G (λ_ _ _ _ _ _=>Hy.bd1 λ_=>rfl) λ_ F=>rb (k:=6) F hb c_look_ladder (c_columns_of.mono (by decide)) (c_first_sums.mono (by decide)) (c_weighed_sums.mono (by decide)) (c_added_sums.mono (by decide)) (c_told_sums.mono (by decide)) (c_rung_end.mono (by decide)) (c_rung_start.mono (by decide));have c_Works_table:bA l.prog w K mg base 8 CW "table" (spV K (qO CW ba cY)):=h63.cal (ps:=["self","name"]) (λ_ _ _ _ _ _=>Hy.bd2 λ_ _=>rfl) λ_ F=>lb (k:=7) hc n1 F hb (c_Works_look_kept.mono (by decide)) c_table_of;have c_Works_strict:bA l.prog w K mg base 9 CW "strict" (spV K (lp CW)):=h64.cal (ps:=["self","name"]) (λ_ _ _ _ _ _=>Hy.bd2 λ_ _=>rfl) λ_ F=>j5 (k:=8) hc F hb c_Works_table (c_is_strict.mono (by decide));have c_l_whole:Cal l.prog w K mg base 1 "_law_whole" eK:=h65.cal (ps:=["_law_thing"]) X G (λ_ _ _ _ _ _=>Hy.bd1 λ_=>rfl) λ_ F=>tF (k:=0) F hb;have c_l_is_weight:Cal l.prog w K mg base 2 "_law_is_weight" eo:=h66.cal (ps:=["_law_thing"]) X G (λ_ _ _ _ _ _=>Hy.bd1 λ_=>rfl) λ_ F=>lU (k:=1) F hb c_l_whole c_l_divisor;have c_l_is_step:Cal l.prog w K mg base 3 "_law_is_step" gy:=h67.cal (ps:=["_law_thing","_law_tracks"]) X G (λ_ _ _ _ _ _=>Hy.bd2 λ_ _=>rfl) λ_ F=>oU (k:=2) F hb (c_l_whole.mono (by decide)) c_l_is_weight;have c_l_is_ladder:Cal l.prog w K mg base 4 "_law_is_ladder" dW:=h68.cal (ps:=["_law_found","_law_rows_here","_law_columns"]) X G (λ_ _ _ _ _ _=>Hy.bd3 λ_ _ _=>rfl) λ_ F=>mf (k:=3) F hb c_l_is_step (c_l_whole.mono (by decide));have c_l_minors:Cal l.prog w K mg base 1 "_law_minors" (iC l.prog w):=h69.cal (ps:=["_law_rows_here"]) X G (λ_ _ _ _ _ _=>Hy.bd1 λ_=>rfl) λ_ F=>rH (k:=0) F hb;have c_l_least_sign:Cal l.prog w K mg base 2 "_law_least_sign" dg:=h70.cal (ps:=["_law_rows_here"]) X G (λ_ _ _ _ _ _=>Hy.bd1 λ_=>rfl) λ_ F=>kj (k:=1) F hb c_l_minors;have c_l_rows:Cal l.prog w K mg base 2 "_law_rows" kY:=h71.cal (ps:=["_law_table"]) X G (λ_ _ _ _ _ _=>Hy.bd1 λ_=>rfl) λ_ F=>vR (k:=1) F hb c_l_divisor;obtain⟨fd_l_is_so,F_l_is_so',m_l_is_so,k_l_is_so,b_l_is_so⟩:=h72.fn (ps:=["_law_works","_law_name","_law_mine"]) X G (λ_ _ _ _ _ _=>Hy.bd3 λ_ _ _=>rfl);have c_l_is_so:kG l.prog w K mg base 10 "_law_is_so" (spV K (CT CW)):=⟨_,_,_,se (k:=9) hc F_l_is_so' hb (c_Works_ladder.mono (by decide)) (c_Works_table.mono (by decide)) c_Works_strict (c_l_is_ladder.mono (by decide)) (c_l_ladders_table.mono (by decide)) (c_l_rows.mono (by decide)) (c_l_least_sign.mono (by decide)),m_l_is_so,k_l_is_so,b_l_is_so⟩;obtain⟨fdi,Fi,bi⟩:=h10.fn (ps:=["self"]) (λ_ _ _ _ _ _=>Hy.bd1 λ_=>rfl);exact DF (k:=9) hc ⟨mk,h10.1,h10.2.1,kc⟩ (iJ (k:=8) hc n1 n2 Fi hb) bi (Iu X G aC) (pw l0 c r) hb (c_l_one.mono (by decide)) (c_l_names.mono (by decide)) (c_l_cell.mono (by decide)) (c_l_copy.mono (by decide)) (c_Works_put.mono (by decide)) (c_Works_ladder.mono (by decide)) (c_Works_names.mono (by decide)) (c_l_done.mono (by decide)) c_l_is_so
theorem walk {l:KR}{q:Program}{loose:List Str}{XP:(Str->Option Value)->Heap->Prop}{YP:World->Heap->Prop}{d:DefRec}{K:Params->gV}(hn:l.most=some 63)(hdf:d.params.defaults=[])
   (hY:∀(w:World) (h:Heap),YP w h->(K w.params).In h)
   (F:∀(w:World) (mg:Str->Option Value) (fa:Addr) (h:Heap),(K w.params).In h->h.Ns mainGlobals mg->mg d.name=some (.ref fa) ->
     ∃fd:FuncData,(∀(s:Shared) (u:Value),BindsTo s fd ⟨[u],[]⟩ [("_law_script",u)])/\∀base:Heap,(K w.params).In base->base.Ns mainGlobals mg->aH l.prog w (K w.params) mg base CX0 11 fa fd ["_law_script"] (spD (K w.params) uz)) :
   PySem.W.WalkO q loose XP YP l.row.toRowW d [] (λf vs=>PySem.call f vs):=
 L2.AG (n:=63) (k:=11) (x:="_law_script") (CX:=λ_=>CX0) (sp:=λw=>spD (K w.params) uz) hn (by decide) hdf ⟨rfl,by decide,by decide⟩ hY F
   (λw H a ns hl _ hS=>AB (λns h=>⟨ns,h,rfl,rfl⟩) H a ns hl hS) λ_ _ _ _ _ z=>z
end K67
open PySem PySem.W PyProof.Rows
namespace PySem.W.Fast
theorem tw6698005322975608695:True:=⟨⟩
theorem tw5219295465152108518:True:=⟨⟩
theorem tw15591944383504254279:True:=⟨⟩
theorem tw13432030991436680090:True:=⟨⟩
theorem tw9735385897492336845:True:=⟨⟩
theorem tw10531168762731122331:True:=⟨⟩
theorem tw3322033926480084141:True:=⟨⟩
theorem tw33491891865614062:True:=⟨⟩
theorem tw11747706880130624425:True:=⟨⟩
theorem tw11319697459538036343:True:=⟨⟩
theorem tw6621915367778632023:True:=⟨⟩
theorem tw5558307260644097540:True:=⟨⟩
theorem tw7885282507767445068:True:=⟨⟩
theorem tw9839123661340473891:True:=⟨⟩
theorem tw12913284735333492515:True:=⟨⟩
theorem tw3393618298592425253:True:=⟨⟩
theorem tw5058808557825694259:True:=⟨⟩
theorem tw7507560857436801976:True:=⟨⟩
theorem tw17508969553557592334:True:=⟨⟩
theorem tw2314619524677637204:True:=⟨⟩
theorem tw1890448916426537123:True:=⟨⟩
theorem tw15120108622474084211:True:=⟨⟩
theorem tw3529037435755842761:True:=⟨⟩
theorem tw4365051463517043529:True:=⟨⟩
theorem tw15724122478721872881:True:=⟨⟩
theorem tw8439150110941211069:True:=⟨⟩
theorem tw1054521045469738357:True:=⟨⟩
theorem tw4330190008209912398:True:=⟨⟩
theorem tw2129370884211878969:True:=⟨⟩
theorem tw8396528673002454239:True:=⟨⟩
theorem tw14297500546652152474:True:=⟨⟩
theorem tw14710276787128072393:True:=⟨⟩
theorem tw13300174089803140087:True:=⟨⟩
theorem tw5672772927155315678:True:=⟨⟩
theorem tw16895482774617904983:True:=⟨⟩
theorem tw18013229086646227918:True:=⟨⟩
theorem tw11832897584879817841:True:=⟨⟩
theorem tw7666551434356499805:True:=⟨⟩
theorem tw2533187397201242677:True:=⟨⟩
theorem tw4573333156651789479:True:=⟨⟩
theorem tw7281520174767590219:True:=⟨⟩
theorem tw15916248381528853980:True:=⟨⟩
theorem tw16972572629119961708:True:=⟨⟩
theorem tw3549443141902945397:True:=⟨⟩
theorem tw9743125082623501113:True:=⟨⟩
theorem tw15305633360259866616:True:=⟨⟩
theorem tw9210823821015012670:True:=⟨⟩
theorem tw6522660930788313574:True:=⟨⟩
theorem tw16099451882167304375:True:=⟨⟩
theorem tw7439881519666739306:True:=⟨⟩
theorem tw133178267659378075:True:=⟨⟩
theorem tw5323828279728819772:True:=⟨⟩
theorem tw3860541528708990440:True:=⟨⟩
theorem tw4276232976805785989:True:=⟨⟩
theorem tw4428521136410779207:True:=⟨⟩
theorem tw3582391811225597535:True:=⟨⟩
theorem tw8866118472540498529:True:=⟨⟩
theorem tw10638689240051698211:True:=⟨⟩
theorem tw15703558778330512274:True:=⟨⟩
theorem tw16423733017611968079:True:=⟨⟩
theorem tw3697726243992661887:True:=⟨⟩
theorem tw17993919549164709673:True:=⟨⟩
theorem tw16701770664085734206:True:=⟨⟩
theorem tw6889854733004488439:True:=⟨⟩
theorem tw2322320829083304977:True:=⟨⟩
theorem tw3892702647781964908:True:=⟨⟩
theorem tw13983938490778959994:True:=⟨⟩
theorem tw9525435487827822817:True:=⟨⟩
theorem tw4491277489397292174:True:=⟨⟩
theorem tw2914758029784873671:True:=⟨⟩
theorem tw17646382826024393414:True:=⟨⟩
theorem tw3250651432624637661:True:=⟨⟩
theorem tw7803870110795670212:True:=⟨⟩
theorem tw1822933525208777424:True:=⟨⟩
theorem tw14369118448682305247:True:=⟨⟩
theorem tw14391853249260376484:True:=⟨⟩
theorem tw6854338938582602915:True:=⟨⟩
theorem tw8033180969800415343:True:=⟨⟩
theorem tw4704762356492731674:True:=⟨⟩
theorem tw17135049859097023646:True:=⟨⟩
theorem tw5570075414933181569:True:=⟨⟩
theorem tw8980879545657949633:True:=⟨⟩
theorem tw7294136889685207548:True:=⟨⟩
theorem tw2527838113847193875:True:=⟨⟩
theorem tw3944631105536598245:True:=⟨⟩
theorem tw2886162757926867271:True:=⟨⟩
theorem tw6734968957843482749:True:=⟨⟩
theorem tw3938189089157042576:True:=⟨⟩
theorem tw2107416744922638016:True:=⟨⟩
theorem tw15130902466218151493:True:=⟨⟩
theorem tw14490566271779371890:True:=⟨⟩
theorem tw15011821403078426954:True:=⟨⟩
theorem tw2891032972910638658:True:=⟨⟩
theorem tw790516796624571747:True:=⟨⟩
theorem tw593998602004391056:True:=⟨⟩
theorem tw8483002417793895662:True:=⟨⟩
theorem tw11577294005394159121:True:=⟨⟩
theorem tw16097138189562287360:True:=⟨⟩
theorem tw8177858580111852410:True:=⟨⟩
theorem tw11104885744793825730:True:=⟨⟩
theorem tw16374530119952799761:True:=⟨⟩
theorem tw6886818937715183948:True:=⟨⟩
theorem tw4372706244445421109:True:=⟨⟩
theorem tw12703120122304881965:True:=⟨⟩
theorem tw12585769644560405233:True:=⟨⟩
theorem tw11783876796085856151:True:=⟨⟩
theorem tw9488088450131197640:True:=⟨⟩
theorem tw4327652766071064617:True:=⟨⟩
theorem tw13247928174827375347:True:=⟨⟩
theorem tw2033694191712831258:True:=⟨⟩
theorem tw11979464407277350837:True:=⟨⟩
theorem tw828403676428933028:True:=⟨⟩
theorem tw7631322997002519386:True:=⟨⟩
theorem tw16549556811254463047:True:=⟨⟩
theorem tw17057963796752500488:True:=⟨⟩
theorem tw9521480778679838121:True:=⟨⟩
theorem tw3458479586015600961:True:=⟨⟩
theorem tw11294703691819587433:True:=⟨⟩
theorem tw15423398101654482162:True:=⟨⟩
theorem tw16000532130878272213:True:=⟨⟩
theorem tw4009430011978877789:True:=⟨⟩
theorem tw2375046873956820703:True:=⟨⟩
theorem tw16792286143460608083:True:=⟨⟩
theorem tw15572113636636259177:True:=⟨⟩
theorem tw13180690510349283370:True:=⟨⟩
theorem tw209785465038173891:True:=⟨⟩
theorem tw13539993761498061751:True:=⟨⟩
theorem tw16117785256859469886:True:=⟨⟩
theorem tw8255106931261648160:True:=⟨⟩
theorem tw13741155844874286983:True:=⟨⟩
theorem tw12739057509001448576:True:=⟨⟩
theorem tw15254410455758887135:True:=⟨⟩
theorem tw3718011688505600592:True:=⟨⟩
theorem tw17912628356349116664:True:=⟨⟩
theorem tw17921444075425829533:True:=⟨⟩
theorem tw8720786252831680543:True:=⟨⟩
theorem tw9213578911741007790:True:=⟨⟩
theorem tw15089210604773202501:True:=⟨⟩
theorem tw12550146141933585053:True:=⟨⟩
theorem tw13497781931528275362:True:=⟨⟩
theorem tw2335685404842607748:True:=⟨⟩
theorem tw5306049492469919374:True:=⟨⟩
theorem tw630042874170655157:True:=⟨⟩
theorem tw3039630156232220787:True:=⟨⟩
theorem tw13110348875964406762:True:=⟨⟩
theorem tw1073697247229397228:True:=⟨⟩
theorem tw13353728726456248685:True:=⟨⟩
theorem tw14077737105509777525:True:=⟨⟩
theorem tw3778460857457500504:True:=⟨⟩
theorem tw12342673172836930088:True:=⟨⟩
theorem tw15761551731887569035:True:=⟨⟩
theorem tw16171077326536021172:True:=⟨⟩
theorem tw658980558766226835:True:=⟨⟩
theorem tw7320980608387892570:True:=⟨⟩
theorem tw12274226039641828378:True:=⟨⟩
theorem tw18058289702002536524:True:=⟨⟩
theorem tw15860175437676089354:True:=⟨⟩
theorem tw17734131938884333167:True:=⟨⟩
theorem tw10721400831595210091:True:=⟨⟩
theorem tw14460564378587019660:True:=⟨⟩
theorem tw12410178058824910205:True:=⟨⟩
theorem tw13618604555764317841:True:=⟨⟩
theorem tw7207913904579306180:True:=⟨⟩
theorem tw12565299298191474855:True:=⟨⟩
theorem tw15470337702936626002:True:=⟨⟩
theorem tw5969574250234832609:True:=⟨⟩
theorem tw15914370180764787710:True:=⟨⟩
theorem tw12771401670721911372:True:=⟨⟩
theorem tw16835346493998532099:True:=⟨⟩
theorem tw14166527979300882386:True:=⟨⟩
theorem tw17093940489648463868:True:=⟨⟩
theorem tw17267896159393107280:True:=⟨⟩
theorem tw13166116061338187001:True:=⟨⟩
theorem tw13611119660847964851:True:=⟨⟩
theorem tw6421235387809241717:True:=⟨⟩
theorem tw1429740016279270629:True:=⟨⟩
theorem tw4644265498368817811:True:=⟨⟩
theorem tw9293131286171351382:True:=⟨⟩
theorem tw4427996363370313299:True:=⟨⟩
theorem tw10897519336917254684:True:=⟨⟩
theorem tw15885745270250565355:True:=⟨⟩
theorem tw1420297039105139959:True:=⟨⟩
theorem tw1060523007341544303:True:=⟨⟩
theorem tw16061913382789572100:True:=⟨⟩
theorem tw12775269448413273157:True:=⟨⟩
theorem tw3684857384083717437:True:=⟨⟩
theorem tw13779374941163022509:True:=⟨⟩
theorem tw9331071760627852929:True:=⟨⟩
theorem tw8969620810751411879:True:=⟨⟩
theorem tw2947048649115501916:True:=⟨⟩
theorem tw7245392418073898326:True:=⟨⟩
theorem tw5130171578008244076:True:=⟨⟩
theorem tw9613278544088031900:True:=⟨⟩
theorem tw3823413115957062361:True:=⟨⟩
theorem tw12505235298823988170:True:=⟨⟩
theorem tw16880111175740312520:True:=⟨⟩
theorem tw8333318469180318090:True:=⟨⟩
theorem tw12851424140155285355:True:=⟨⟩
theorem tw13316154935414485884:True:=⟨⟩
theorem tw12528936822793058956:True:=⟨⟩
theorem tw17116035967376551723:True:=⟨⟩
theorem tw1250060309691737774:True:=⟨⟩
theorem tw14748833840924571251:True:=⟨⟩
theorem tw8424960719541927652:True:=⟨⟩
theorem tw13015409987052735174:True:=⟨⟩
theorem tw903948042527659031:True:=⟨⟩
theorem tw10172813771603205822:True:=⟨⟩
theorem tw15704015153173681416:True:=⟨⟩
theorem tw671184370808214524:True:=⟨⟩
theorem tw10644564399251767376:True:=⟨⟩
theorem tw5252283085843238459:True:=⟨⟩
theorem tw14896129887501640290:True:=⟨⟩
theorem tw3460334145867750277:True:=⟨⟩
theorem tw14056946397835788180:True:=⟨⟩
theorem tw2542761764307307132:True:=⟨⟩
theorem tw15959703413878457147:True:=⟨⟩
theorem tw17237503743415059250:True:=⟨⟩
theorem tw3281160827154256272:True:=⟨⟩
theorem tw8847856420241154209:True:=⟨⟩
theorem tw1915015063472613721:True:=⟨⟩
theorem tw5715807109611335363:True:=⟨⟩
theorem tw9104074912596970352:True:=⟨⟩
theorem tw4118584111424805781:True:=⟨⟩
theorem tw5472866351176413348:True:=⟨⟩
theorem tw4711381449546442581:True:=⟨⟩
theorem tw10593810822841181405:True:=⟨⟩
theorem tw16864718566293456445:True:=⟨⟩
end PySem.W.Fast
set_option maxRecDepth 100000 in
set_option maxHeartbeats 0 in
theorem PySem.Challenge.cw_signsmooth_k67_steps_changed_holds : PySem.Challenge.rw_signsmooth_k67_steps_changed.Holds := by
 w_on; o_law; k_head; (case hw=>w_witness2)
 k_fill
 refine K67.walk (l:=PySem.Challenge.rw_signsmooth_k67_steps_changed) rfl rfl (λw h Y=>PySem.W.kIn_of Y) ?F
 case F=>
   intro w mg fa h KX G hmg;refine' K67.all_mk KX G hmg (.of ?_ ?_ ?_ ?_) (.of ?_ ?_ ?_ ?_) (.of ?_ ?_ ?_ ?_) (.of ?_ ?_ ?_ ?_) (.of ?_ ?_ ?_ ?_) (.of ?_ ?_ ?_ ?_) (.of ?_ ?_ ?_ ?_) (.of ?_ ?_ ?_ ?_) (.of ?_ ?_ ?_ ?_) (.of ?_ ?_ ?_ ?_) (.of ?_ ?_ ?_ ?_ ?_) (.of ?_ ?_ ?_ ?_) (.of ?_ ?_ ?_ ?_ ?_) (.of ?_ ?_ ?_ ?_) (.of ?_ ?_ ?_ ?_) (.of ?_ ?_ ?_ ?_) (.of ?_ ?_ ?_ ?_) (.of ?_ ?_ ?_ ?_) (.of ?_ ?_ ?_ ?_) (.of ?_ ?_ ?_ ?_) (.of ?_ ?_ ?_ ?_) (.of ?_ ?_ ?_ ?_ ?_) (.of ?_ ?_ ?_ ?_) (.of ?_ ?_ ?_ ?_) (.of ?_ ?_ ?_ ?_ ?_) (.of ?_ ?_ ?_ ?_) (.of ?_ ?_ ?_ ?_ ?_) (.of ?_ ?_ ?_ ?_ ?_) (.of ?_ ?_ ?_ ?_ ?_) (.of ?_ ?_ ?_ ?_ ?_) (.of ?_ ?_ ?_ ?_ ?_) (.of ?_ ?_ ?_ ?_ ?_) (.of ?_ ?_ ?_ ?_) (.of ?_ ?_ ?_ ?_ ?_) (.of ?_ ?_ ?_ ?_ ?_) (.of ?_ ?_ ?_ ?_) (.of ?_ ?_ ?_ ?_) (.of ?_ ?_ ?_ ?_) (.of ?_ ?_ ?_ ?_) (.of ?_ ?_ ?_ ?_) (.of ?_ ?_ ?_ ?_) (.of ?_ ?_ ?_ ?_) (.of ?_ ?_ ?_ ?_) (.of ?_ ?_ ?_ ?_) (.of ?_ ?_ ?_ ?_) (.of ?_ ?_ ?_ ?_) (.of ?_ ?_ ?_ ?_) (.of ?_ ?_ ?_ ?_) (.of ?_ ?_ ?_ ?_) (.of ?_ ?_ ?_ ?_) (.of ?_ ?_ ?_ ?_) (.of ?_ ?_ ?_ ?_) (.of ?_ ?_ ?_ ?_) (.of ?_ ?_ ?_ ?_) (.of ?_ ?_ ?_ ?_) (.of ?_ ?_ ?_ ?_) (.of ?_ ?_ ?_ ?_) (.of ?_ ?_ ?_ ?_) (.of ?_ ?_ ?_ ?_ ?_) (.of ?_ ?_ ?_ ?_) (.of ?_ ?_ ?_ ?_) (.of ?_ ?_ ?_ ?_) (.of ?_ ?_ ?_ ?_) (.of ?_ ?_ ?_ ?_ ?_) (.of ?_ ?_ ?_ ?_ ?_) (.of ?_ ?_ ?_ ?_) (.of ?_ ?_ ?_ ?_) (.of ?_ ?_ ?_ ?_) (.of ?_ ?_ ?_ ?_) (.of ?_ ?_ ?_ ?_) (.of ?_ ?_ ?_ ?_) (.of ?_ ?_ ?_ ?_) (.of ?_ ?_ ?_ ?_) (.of ?_ ?_ ?_ ?_) ⟨?_,?_,?_,?_,?_,?_,?_,?_,?_,?_,?_,?_,?_,?_,?_,?_,?_,?_,trivial⟩ ?_ ?_ ?_ ?_ ?_ ?_ ?_ ?_ ?_ ?_ ?_ ?_ ?_
   all_goals try k_is
   all_goals try k_is
#print axioms PySem.Challenge.cw_signsmooth_k67_steps_changed_holds