import PyProof.Rows.All
import Wide.All
import OpenK.AllK
import Wide.FinOn
import Lean
import PyProof.EqAt
import PyProof.EqKinds
import PyProof.TupleCall
import PyProof.DictKeyH
import PyProof.DictFindH
import PyProof.StrCalls2
import PyProof.StrCalls3
import PyProof.StrCalls
import PyProof.StrWalks
import PyProof.FString
import KE.KIntText
import PyProof.FitsReplace
import PyProof.StrLawsTight
import PyProof.StrLawsOcc
import PyProof.StrBlockI
import PyProof.SliceStr2
import PyProof.StrLawsChain
import PyProof.StrLaws
import PyProof.Rows.StrJoinMade
import PyProof.StrLawsIdx
import PyProof.StrLawsJoin
import KE.KDictList
import PyProof.DictWalks
import PySem.Challenge.RW_signsmooth_k49_whole_staircase_just_good
set_option genSizeOf false
set_option bootstrap.genMatcherCode false
set_option Elab.async false
set_option linter.all false
set_option maxRecDepth 100000
set_option exponentiation.threshold 4000
namespace Hx
open PySem PySem.Spec PyProof.Rows
theorem kA:entryFor table "proto.unchain" = some Builtin.«proto.unchain»:=entryFor_of_tree (by kernel_rfl)
section
variable {prog:Program}{w:World}{A:Around}{E:Value->Shared->Prop}{s:Shared}
theorem nF {α:Type}{a h:Addr}{oa oh:Obj}{us vs:Array Value}{Q:α->Shared->Prop}(hh:A.handled=some (.ref h))(hne:h≠a)(ha:s.heap.get? a=some oa)(hda:oa.data=.fields us)(hsz:2<us.size)
   (ho:s.heap.get? h=some oh) (hd:oh.data=.fields vs) (h2:vs[2]?=some .none)
   (q:E (.ref a) { s with heap:=s.heap.update a (Obj.mapFields (·.setIfInBounds 2 (.ref h))) }):wpAny (model prog w) A (raiseNew (.ref a):Sem α) Q E s:=by
 unfold raiseNew; refine wpAny_bind (wpAny_handled ?_); rw[hh];dsimp only;rw[if_pos (show (Value.ref h != Value.ref a)=true by simp[hne])];refine wpAny_bind (wpAny_holding (wpAny_runValue (codeAny_builtin kA ?_)));unfold Builtin.«proto.unchain»;dsimp only;refine wpAny_bind (wpAny_field ho hd h2 ?_);rw[if_pos (show (Value.none==Value.none)=true by decide)];refine wpAny_pure ?_;show wpAny _ A (do let _ <- updateField a 2 (.ref h); throw (Value.ref a)) _ _ _;unfold updateField;refine wpAny_bind (wpAny_bind (wpAny_load ha ?_));rw[hda];dsimp only;rw[if_pos hsz];exact wpAny_update ha (wpAny_throw q)
theorem pX {r h:Addr}{v left step:Int}{oh:Obj}{vs:Array Value}{Q:Option Value->Shared->Prop}(hh:A.handled=some (.ref h))(ho:s.heap.get? h=some oh)(hd:oh.data=.fields vs)(h2:vs[2]?=some .none)
   (hr:IsRangeIter s.heap r v left step) (hl:left<=0) (k:∀h',Heap.ExtBut r s.heap h'->Q none { s with heap:=h' }):wpAny (model prog w) A (pyNext (.ref r)) Q E s:=by
 have ty:s.TypeIs (.ref r) "range_iterator":=⟨_,hr,rfl⟩;have hlt:=Heap.lt_size ho;have fl:∀{α:Type} {B:Around} {F:Value->Shared->Prop} {R:α->Shared->Prop} (i:Nat) (y:Int) {f:Value->Sem α},(#[rawInt v,rawInt left,rawInt step]:Array Value)[i]?=some (rawInt y)->wpAny (model prog w) B (f (rawInt y)) R F s->wpAny (model prog w) B (field (.ref r) i >>= f) R F s:=by intro α B F R i y f e q;exact wpAny_bind (wpAny_field hr rfl e q)
 unfold pyNext;refine wpAny_bind (wpAny_attempt (wpAny_callSpecial?_slot (name:=Str.ofString "__next__") ty F.slot_range_iterator_next (wpAny_call_entry F.slot_range_iterator_next ty F.entry_range_iterator_next (fl 0 v rfl (fl 1 left rfl (fl 2 step rfl ?_))) (F.args_range_iterator_next_1 _))));show wpAny (model prog w) A.in1 (if left<=0 then _ else _) _ _ s;rw[if_pos hl];refine wpAny_bind (wpAny_rule (wpAny_bind ?_));show wpAny _ _ (do let e <- newExc (.type "StopIteration") []; _) _ _ _;refine wpAny_bind ?_;simp only[newExc,newTuple];refine wpAny_bind (wpAny_newObj_type (wpAny_bind (m:=firstArgMember _ _) (wpAny_of_eq (a:=.none) (by first | rfl | (simp only[firstArgMember]; rfl)) (wpAny_newObj_type ?_ (by size_fits)))) (by size_fits))
 have hg:((s.heap.push { cls:=.type "tuple",data:=.seq ([]:List Value).toArray }).push { cls:=.type "StopIteration",data:=.fields (#[Value.ref s.heap.objs.size,.none,.none,.none,.bool false,.none]++ownMembersOf (.type "StopIteration") []) }).get? (s.heap.push { cls:=.type "tuple",data:=.seq ([]:List Value).toArray }).objs.size
     = some { cls:=.type "StopIteration",data:=.fields (#[Value.ref s.heap.objs.size,.none,.none,.none,.bool false,.none]++ownMembersOf (.type "StopIteration") []) }:=Heap.get?_push_size _ rfl
 refine nF (h:=h) (A:=A.in1) hh ?_ hg rfl (by rw[Array.size_append]; exact Nat.lt_of_lt_of_le (by decide:2<6) (Nat.le_add_right _ _)) (Heap.get?_push_of_some _ (Heap.get?_push_of_some _ ho)) hd h2 ?_
 . intro z;rw[Heap.size_push]at z;exact absurd hlt (by rw[z]; exact Nat.not_lt.mpr (Nat.le_succ _))
 have hu:=Heap.get?_update_self (Obj.mapFields (·.setIfInBounds 2 (.ref h))) hg rfl;refine wpAny_bind (wpAny_isInstance (T:="StopIteration") (b:=true) ⟨_,hu,rfl⟩ isSubtype_stop ?_);refine wpAny_pure (k _ λb o hb e=>?_);have bl:=Heap.lt_size e;rw[Heap.get?_update_other _ _ (by intro z; rw[Heap.size_push]at z; exact absurd bl (by rw[<- z]; exact Nat.not_lt.mpr (Nat.le_succ _)))];exact Heap.get?_push_of_some _ (Heap.get?_push_of_some _ e)
end
end Hx
set_option linter.all false
set_option maxRecDepth 100000
namespace L2
open PySem PySem.Spec PyProof.Rows
noncomputable abbrev Key:=Sum Int Str
noncomputable def k6:Key->Value->Bool
 | .inl k,v=>Value.isInt k v
 | .inr x,v=>Value.isStrOf x v
noncomputable def CP (w:World):Key->Int
 | .inl k=>hashInt k
 | .inr x=>hashStr w x
theorem bo:∀{k:Key} {v:Value},k6 k v=true->(∃i t,k=Sum.inl i/\v=Value.int i t)\/(∃x t,k=Sum.inr x/\v=Value.str x t)
 | .inl i,v,h=>by obtain⟨t,e⟩:=Value.isInt_shape (k:=i) (v:=v) h;exact .inl ⟨i,t,rfl,e⟩
 | .inr x,v,h=>by obtain⟨t,e⟩:=Value.isStrOf_shape (x:=x) (v:=v) h;exact .inr ⟨x,t,rfl,e⟩
theorem sj (i:Int)(t:Tok):k6 (.inl i) (.int i t)=true:=by simp[k6,Value.isInt]
theorem sU (x:Str)(t:Tok):k6 (.inr x) (.str x t)=true:=by simp[k6,Value.isStrOf]
theorem AQ (a b:Int):decide ((Sum.inl a:Key)=Sum.inl b)=(a==b):=by
 by_cases e:a=b
 . subst e; simp
 . have h:¬(Sum.inl a:Key)=Sum.inl b:=λq=>e (Sum.inl.inj q);rw[decide_eq_false h];exact(beq_eq_false_iff_ne.mpr e).symm
theorem zt (a b:Str):decide ((Sum.inr a:Key)=Sum.inr b)=decide (a=b):=by
 by_cases e:a=b
 . subst e; simp
 . have h:¬(Sum.inr a:Key)=Sum.inr b:=λq=>e (Sum.inr.inj q);rw[decide_eq_false h,decide_eq_false e]
theorem zC (a:Int)(b:Str):decide ((Sum.inl a:Key)=Sum.inr b)=false:=decide_eq_false (λq=>nomatch q)
theorem zh (a:Str)(b:Int):decide ((Sum.inr a:Key)=Sum.inl b)=false:=decide_eq_false (λq=>nomatch q)
noncomputable def bq (prog:Program)(w:World):PySem.KeyKind prog w Key where
 is:=k6
 hash:=CP w
 inj:=λv a b ha hb=>by
   rcases bo ha with ⟨i,t,rfl,rfl⟩ | ⟨x,t,rfl,rfl⟩
   . rcases bo hb with ⟨j,u,rfl,e⟩ | ⟨y,u,rfl,e⟩
     . injection e with e1 _; rw[e1]
     . exact nomatch e
   . rcases bo hb with ⟨j,u,rfl,e⟩ | ⟨y,u,rfl,e⟩
     . exact nomatch e
     . injection e with e1 _; rw[e1]
 byValue:=λk v h=>by rcases bo h with ⟨i,t,rfl,rfl⟩ | ⟨x,t,rfl,rfl⟩ <;> rfl
 pyHash:=λhv h=>by
   rcases bo hv with ⟨i,t,rfl,rfl⟩ | ⟨x,t,rfl,rfl⟩
   . exact wpAny_pyHash_int h
   . exact wpAny_pyHash_str h
 eqBool:=λhu hv h=>by
   rcases bo hu with ⟨i,t,rfl,rfl⟩ | ⟨x,t,rfl,rfl⟩
   . rcases bo hv with ⟨j,u,rfl,rfl⟩ | ⟨y,u,rfl,rfl⟩
     . rw[AQ]at h; exact wpAny_eqBool_int h
     . rw[zC]at h; exact SeqAt.EqAt.int_str i t y u _ _ _ _ h
   . rcases bo hv with ⟨j,u,rfl,rfl⟩ | ⟨y,u,rfl,rfl⟩
     . rw[zh]at h; exact SeqAt.EqAt.str_int x t j u _ _ _ _ h
     . rw[zt]at h; exact wpAny_eqBool_str h
 «strs»:=λk x t v h=>by
   rcases bo h with ⟨i,u,rfl,e⟩ | ⟨y,u,rfl,e⟩
   . exact nomatch e
   . injection e with e1 _;subst e1;cases v <;> rfl
theorem mW (prog:Program)(w:World)(i:Int)(t:Tok):(bq prog w).is (.inl i) (.int i t)=true:=sj i t
theorem oF (prog:Program)(w:World)(x:Str)(t:Tok):(bq prog w).is (.inr x) (.str x t)=true:=sU x t
inductive V where
 | non | bl (b:Bool) | int (i:Int) | str (x:Str) | byt (b:Array UInt8) | flt (b:UInt64) | ref (a:Addr) | ty (n:String)
 deriving DecidableEq
noncomputable def RelV:V->Value->Prop
 | .non,u=>u=Value.none
 | .bl b,u=>u=Value.bool b
 | .int i,u=>∃t,u=Value.int i t
 | .str x,u=>∃t,u=Value.str x t
 | .byt b,u=>∃t,u=Value.bytes b t
 | .flt b,u=>∃t,u=Value.float b t
 | .ref a,u=>u=Value.ref a
 | .ty n,u=>u=Value.type n
noncomputable abbrev Vals:List V->List Value->Prop:=Paired RelV
theorem Vals.length {xs:List V}{us:List Value}(r:Vals xs us):xs.length=us.length:=Paired.length r
theorem Vals.get:∀{xs:List V} {us:List Value} {i:Nat} {x:V},Vals xs us->xs[i]?=some x->∃u,us[i]?=some u/\RelV x u
 | _,_,_,_,.nil,e=>by simp at e
 | _,_,0,_,.cons r _,e=>by simp at e; subst e; exact⟨_,rfl,r⟩
 | _,_,i+1,x,.cons _ t,e=>by obtain⟨u,h1,h2⟩:=Vals.get (i:=i) (x:=x) t (by simpa using e);exact⟨u,by simpa using h1,h2⟩
theorem Vals.set {x:V}{u:Value}(r:RelV x u):∀{xs:List V} {us:List Value} (i:Nat),Vals xs us->Vals (xs.set i x) (us.set i u)
 | _,_,_,.nil=>.nil
 | _,_,0,.cons _ t=>.cons r t
 | _,_,i+1,.cons q t=>.cons q (Vals.set r i t)
theorem Vals.append:∀{xs ys:List V} {us ws:List Value},Vals xs us->Vals ys ws->Vals (xs++ys) (us++ws)
 | _,_,_,_,.nil,s=>s
 | _,_,_,_,.cons r t,s=>.cons r (Vals.append t s)
theorem Vals.take:∀{xs:List V} {us:List Value} (n:Nat),Vals xs us->Vals (xs.take n) (us.take n)
 | _,_,0,_=>.nil
 | _,_,_+1,.nil=>.nil
 | _,_,n+1,.cons r t=>.cons r (Vals.take n t)
theorem Vals.drop:∀{xs:List V} {us:List Value} (n:Nat),Vals xs us->Vals (xs.drop n) (us.drop n)
 | _,_,0,r=>r
 | _,_,_+1,.nil=>.nil
 | _,_,n+1,.cons _ t=>Vals.drop n t
noncomputable def oN:Option V->Option Value->Prop
 | some v,some u=>RelV v u
 | none,none=>True
 | _,_=>False
noncomputable def KV {κ:Type}:List (κ×V)->List (κ×Value)->Prop:=Paired λ(p:κ×V) (q:κ×Value)=>p.1=q.1/\RelV p.2 q.2
noncomputable def kV:Key->V
 | .inl i=>.int i
 | .inr x=>.str x
inductive HO where
 | lst (xs:List V)
 | tup (xs:List V)
 | dK (kvs:List (Key×V)) | dT (kvs:List (List Key×V))
 | set (S:Int->Bool) (n:Nat)
 | ins (C dx:Addr) (fs:List (Str×V))
 | own (x:Addr)
 | xd (fs:List (Str×V))
 | met (f x:Addr)
 | rng (lo hi:Int)
 | frz (o:Obj) (u:HO)
 | tbl (ps:Array Value)
 | ext (φ:Heap->Prop)
noncomputable abbrev Hp:=Addr->Option HO
noncomputable def upd (H:Hp)(a:Addr)(o:HO):Hp:=λb=>if b=a then some o else H b
theorem aB {H:Hp}{a:Addr}{o:HO}:upd H a o a=some o:=by unfold upd; rw[if_pos rfl]
theorem au {H:Hp}{a b:Addr}{o:HO}(h:b≠a):upd H a o b=H b:=by unfold upd; rw[if_neg h]
theorem aS {H:Hp}{a b:Addr}{o:HO}(h:H a=some o)(h':H b=none):a≠b:=by intro e; subst e; rw[h]at h'; cases h'
section
variable (P:Program)(w:World)
noncomputable def bA (H:Hp)(h:Heap)(a:Addr):HO->Prop
 | .lst xs=>xs.length<=sizeLine/\∃(its:List Value) (n:Nat),Vals xs its/\h.get? a=some { cls:=.type "list",data:=.seq its.toArray n }
 | .tup xs=>xs.length<=sizeLine/\∃its:List Value,Vals xs its/\IsTup h a its.toArray
 | .dK kvs=>kvs.length<=sizeLine/\(a==sysModules)=false/\∃vs,KV kvs vs/\h.DictOf (bq P w) a vs
 | .dT kvs=>kvs.length<=sizeLine/\(a==sysModules)=false/\∃xs:List (List Key×Addr×Value),
     Paired (λ(p:List Key×V) (q:List Key×Addr×Value)=>p.1=q.1/\H q.2.1=some (.tup (p.1.map kV))/\RelV p.2 q.2.2) kvs xs /\
     ∃o es ep,h.get? a=some o/\o.ExactDict/\o.data=.dict es ep/\es.toList=xs.map (entryOfKey (tupleKind (bq P w)))/\(xs.map (·.1)).Nodup
 | .set S n=>h.SetOf (intKind P w) a S n
 | .ins C dx fs=>H dx=some (.own a)/\fs.length<=1000/\dx≠a/\h.get? a=some (PySem.W.instObj C dx) /\
     ∃mA,h.Ns1 dx mA/\(∀f,oN (fs.lookup f) (mA f))/\PySem.Within mA (fs.map (·.1))
 | .own _=>∃o,h.get? a=some o
 | .xd fs=>∃mA,h.Ns1 a mA/\∀f,oN (fs.lookup f) (mA f)
 | .rng lo hi=>∃t u v,h.get? a=some { cls:=.type "range",data:=.fields #[.int lo t,.int hi u,.int 1 v] }
 | .frz o u=>h.get? a=some o/\bA H h a u
 | .tbl ps=>h.get? a=some { cls:=.none,data:=.fields ps }
 | .met f x=>h.get? a=some (PySem.W.methodObj (.ref f) (.ref x))
 | .ext φ=>φ h/\(∃o,h.get? a=some o)/\∀h1 h2:Heap,φ h1->(∀o,h1.get? a=some o->h2.get? a=some o)->φ h2
def HOk (H:Hp)(h:Heap):Prop:=∀a o,H a=some o->bA P w H h a o
end
section
variable {P:Program}{w:World}{H H':Hp}{h h':Heap}{a:Addr}{o:HO}
theorem bA.lt (x:bA P w H h a o):a<h.objs.size:=by
 cases o with
 | lst xs=>obtain⟨_,_,_,_,e⟩:=x; exact Heap.lt_size e
 | tup xs=>obtain⟨_,_,_,p⟩:=x; exact p.lt
 | dK kvs=>obtain⟨_,_,_,_,o,_,_,e,_⟩:=x; exact Heap.lt_size e
 | dT kvs=>obtain⟨_,_,_,_,o,_,_,e,_⟩:=x; exact Heap.lt_size e
 | set S n=>obtain⟨o,_,_,_,e,_⟩:=x; exact Heap.lt_size e
 | ins C dx fs=>obtain⟨_,_,_,e,_⟩:=x; exact Heap.lt_size e
 | own y=>obtain⟨_,e⟩:=x; exact Heap.lt_size e
 | xd fs=>obtain⟨_,⟨_,_,_,e,_⟩,_⟩:=x; exact Heap.lt_size e
 | rng lo hi=>obtain⟨_,_,_,e⟩:=x; exact Heap.lt_size e
 | frz ob u=>obtain⟨e,_⟩:=x; exact Heap.lt_size e
 | tbl ps=>exact Heap.lt_size (show h.get? a=some _ from x)
 | met f y=>exact Heap.lt_size (show h.get? a=some _ from x)
 | ext φ=>obtain⟨_,⟨_,e⟩,_⟩:=x; exact Heap.lt_size e
theorem Paired.CM {α β:Type}{F G:α->β->Prop}:∀{l₁:List α} {l₂:List β},Paired F l₁ l₂->(∀a b,F a b->G a b)->Paired G l₁ l₂
 | _,_,.nil,_=>.nil
 | _,_,.cons r t,f=>.cons (f _ _ r) (Paired.CM t f)
theorem bA.kf (x:bA P w H h a o)(k:∀b u,(b=a\/H b=some (.own a))->h.get? b=some u->h'.get? b=some u)
   (ho:∀b,H b=some (.own a)->H' b=some (.own a)) (ht:∀b xs,H b=some (.tup xs)->H' b=some (.tup xs)):bA P w H' h' a o:=by
 induction o with
 | lst xs=>obtain⟨z,its,n,r,e⟩:=x; exact⟨z,its,n,r,k _ _ (.inl rfl) e⟩
 | tup xs=>obtain⟨z,its,r,ob,e,c⟩:=x; exact⟨z,its,r,ob,k _ _ (.inl rfl) e,c⟩
 | dK kvs=>obtain⟨z,y,vs,r,ob,es,ep,e,c⟩:=x; exact⟨z,y,vs,r,ob,es,ep,k _ _ (.inl rfl) e,c⟩
 | dT kvs=>obtain⟨z,y,xs,r,ob,es,ep,e,c⟩:=x;exact⟨z,y,xs,Paired.CM r λp q z=>⟨z.1,ht _ _ z.2.1,z.2.2⟩,ob,es,ep,k _ _ (.inl rfl) e,c⟩
 | set S n=>obtain⟨ob,es,ep,t,e,c⟩:=x; exact⟨ob,es,ep,t,k _ _ (.inl rfl) e,c⟩
 | ins C dx fs=>obtain⟨d,z,ne,e,mA,⟨od,es,ep,e2,c⟩,r⟩:=x;exact⟨ho _ d,z,ne,k _ _ (.inl rfl) e,mA,⟨od,es,ep,k _ _ (.inr d) e2,c⟩,r⟩
 | own y=>obtain⟨ob,e⟩:=x; exact⟨ob,k _ _ (.inl rfl) e⟩
 | xd fs=>obtain⟨mA,⟨od,es,ep,e,c⟩,r⟩:=x; exact⟨mA,⟨od,es,ep,k _ _ (.inl rfl) e,c⟩,r⟩
 | rng lo hi=>obtain⟨t,u,v,e⟩:=x; exact⟨t,u,v,k _ _ (.inl rfl) e⟩
 | frz ob u ih=>obtain⟨e,q⟩:=x; exact⟨k _ _ (.inl rfl) e,ih q⟩
 | tbl ps=>have e:h.get? a=some { cls:=.none,data:=.fields ps }:=x;show h'.get? a=some { cls:=.none,data:=.fields ps };exact k a _ (.inl rfl) e
 | met f y=>have e:h.get? a=some (PySem.W.methodObj (.ref f) (.ref y)):=x;show h'.get? a=some (PySem.W.methodObj (.ref f) (.ref y));exact k a _ (.inl rfl) e
 | ext φ=>obtain⟨p,⟨o,e⟩,st⟩:=x; exact⟨st _ _ p λo q=>k _ _ (.inl rfl) q,⟨o,k _ _ (.inl rfl) e⟩,st⟩
theorem HOk.lt (x:HOk P w H h)(e:H a=some o):a<h.objs.size:=(x a o e).lt
theorem HOk.fresh (x:HOk P w H h)(e:h.objs.size<=a):H a=none:=by
 cases q:H a with
 | none=>rfl
 | some u=>exact absurd (Nat.lt_of_lt_of_le (x.lt q) e) (Nat.lt_irrefl _)
theorem HOk.kept (x:HOk P w H h)(k:∀b u,h.get? b=some u->h'.get? b=some u):HOk P w H h':=λa o e=>(x a o e).kf (λb u _ q=>k b u q) (λ_ q=>q) λ_ _ q=>q
theorem HOk.laid (x:HOk P w H h)(k:∀b u,h.get? b=some u->h'.get? b=some u)(hp:h.objs.size<=a)(new:bA P w (upd H a o) h' a o):HOk P w (upd H a o) h':=λb u e=>by
 have hn:=x.fresh hp;by_cases hb:b=a
 . subst hb; rw[aB]at e; cases e; exact new
 . rw[au hb]at e;exact(x b u e).kf (λc v _ q=>k c v q) (λc q=>by rw[au (aS q hn)]; exact q) λc xs q=>by rw[au (aS q hn)]; exact q
end
def Rd (H:Hp)(a:Addr)(u:HO):Prop:=H a=some u\/∃o,H a=some (.frz o u)
theorem Rd.ok {P:Program}{w:World}{H:Hp}{h:Heap}{a:Addr}{u:HO}(r:Rd H a u)(x:HOk P w H h):bA P w H h a u:=by
 rcases r with r | ⟨o,r⟩
 . exact x a u r
 . obtain⟨_,q⟩:=x a _ r;exact q
noncomputable def Mut:Option HO->Prop
 | some (.lst _)=>True
 | some (.dK _)=>True
 | some (.dT _)=>True
 | some (.set _ _)=>True
 | some (.ins _ _ _)=>True
 | some (.ext _)=>True
 | _=>False
section
variable {P:Program}{w:World}{H:Hp}{h h':Heap}{x e:Addr}{o':HO}
theorem HOk.write (ok:HOk P w H h)(mu:Mut (H x))(he:e=x\/H e=some (.own x))(k:∀b u,b≠e->h.get? b=some u->h'.get? b=some u)(heo:∃u,h'.get? e=some u)
   (new:bA P w (upd H x o') h' x o'):HOk P w (upd H x o') h':=λb u q=>by
 have nown:∀c y,H c=some (.own y)->c≠x:=λc y r z=>by subst z; rw[r]at mu; exact mu
 have ntup:∀c xs,H c=some (.tup xs)->c≠x:=λc xs r z=>by subst z; rw[r]at mu; exact mu
 by_cases hb:b=x
 . subst hb; rw[aB]at q; cases q; exact new
 . rw[au hb]at q;by_cases hbe:b=e
   . have q':H b=some (.own x):=by
       rcases he with z | z
       . exact absurd (hbe.trans z) hb
       . rw[hbe]; exact z
     rw[q]at q'; cases q';obtain⟨v,hv⟩:=heo;exact⟨v,by rw[hbe]; exact hv⟩
   . refine(ok b u q).kf (λc v hc r=>k c v ?_ r) (λc r=>by rw[au (nown c b r)]; exact r) λc xs r=>by rw[au (ntup c xs r)]; exact r
     rcases hc with rfl | hc
     . exact hbe
     . rintro rfl;rcases he with z | z
       . exact nown c b hc z
       . rw[hc]at z; cases z; exact hb rfl
end
structure Un (fs ex:List Addr)(H H':Hp)(h h':Heap):Prop where
 keep:∀b o,h.get? b=some o->H b=none->b∉fs->b∉ex->h'.get? b=some o
 slot:∀b o,h.get? b=some o->H b=none->b∈fs->b∉ex->∃sl,h'.get? b=some { o with slots:=sl }
 free:∀b o,h.get? b=some o->H b=none->b∉ex->H' b=none
 there:∀b o,h.get? b=some o->b∉ex->∃o',h'.get? b=some o'
 tups:∀b xs,H b=some (.tup xs)->H' b=some (.tup xs)
 frzs:∀b o u,H b=some (.frz o u)->H' b=some (.frz o u)
 tbls:∀b ps,H b=some (.tbl ps)->∃more,H' b=some (.tbl (ps++more))
section
variable {fs ex:List Addr}{H H1:Hp}{h h1 h':Heap}{a x e:Addr}{o:HO}
theorem Un.any (u:Un fs ex H H1 h h1){b:Addr}{ob:Obj}(q:h.get? b=some ob)(n:H b=none)(hx:b∉ex):∃sl,h1.get? b=some { ob with slots:=sl }:=by
 by_cases hb:b∈fs
 . exact u.slot b ob q n hb hx
 . exact⟨ob.slots,u.keep b ob q n hb hx⟩
theorem Un.kept (k:∀b u,h.get? b=some u->h'.get? b=some u):Un fs ex H H h h':=⟨λb ob q _ _ _=>k b ob q,λb ob q _ _ _=>⟨ob.slots,k b ob q⟩,λ_ _ _ n _=>n,λb ob q _=>⟨ob,k b ob q⟩,λ_ _ q=>q,λ_ _ _ q=>q,λ_ ps q=>⟨#[],by rw[q]; simp⟩⟩
theorem Un.refl:Un fs ex H H h h:=Un.kept λ_ _ q=>q
theorem Un.laid (k:∀b u,h.get? b=some u->h'.get? b=some u)(hp:h.objs.size<=a)(hn:H a=none):Un fs ex H (upd H a o) h h' where
 keep:=λb u q _ _ _=>k b u q
 slot:=λb u q _ _ _=>⟨u.slots,k b u q⟩
 free:=λb u q n _=>by rw[au (Nat.ne_of_lt (Nat.lt_of_lt_of_le (Heap.lt_size q) hp))]; exact n
 there:=λb u q _=>⟨u,k b u q⟩
 tups:=λb xs q=>by rw[au (aS q hn)]; exact q
 frzs:=λb u xs q=>by rw[au (aS q hn)]; exact q
 tbls:=λb ps q=>⟨#[],by rw[au (aS q hn),q]; simp⟩
theorem Un.write (mu:Mut (H x))(he:e=x\/H e=some (.own x))(k:∀b u,b≠e->h.get? b=some u->h'.get? b=some u)(heo:∃u,h'.get? e=some u):Un fs ex H (upd H x o) h h':=by
 have hx:∀b,H b=none->b≠x:=λb n z=>by subst z; rw[n]at mu; exact mu
 have hb:∀b,H b=none->b≠e:=λb n z=>by
   subst z;rcases he with r | r
   . exact hx b n r
   . rw[n]at r; cases r
 have hm:∀b u,H b=some u->¬Mut (some u)->b≠x:=λb u q nm z=>by subst z; rw[q]at mu; exact nm mu
 refine⟨λb u q n _ _=>k b u (hb b n) q,λb u q n _ _=>⟨u.slots,k b u (hb b n) q⟩,λb u q n _=>by rw[au (hx b n)]; exact n,λb u q _=>?_,
   λb xs q=>by rw[au (hm b _ q λz=>z)]; exact q,λb u xs q=>by rw[au (hm b _ q λz=>z)]; exact q,λb ps q=>⟨#[],by rw[au (hm b _ q λz=>z),q]; simp⟩⟩
 by_cases hbe:b=e
 . subst hbe; exact heo
 . exact⟨u,k b u hbe q⟩
end
noncomputable def trk (h:Heap)(H:Hp):List Addr:=(List.range h.objs.size).filter λa=>(H a).isSome
noncomputable def mD (h:Heap)(H:Hp):Heap:=PySem.W.hideAll h (trk h H)
theorem sF (h:Heap)(H:Hp):(mD h H).objs.size=h.objs.size:=PySem.W.hideAll_size _ _
theorem uH {h:Heap}{H:Hp}{b:Addr}{o:Obj}(e:h.get? b=some o)(n:H b=none):(mD h H).get? b=some o:=PySem.W.hideAll_get _ e λhm=>by have q:(H b).isSome=true:=(List.mem_filter.mp hm).2;rw[n]at q; simp at q
theorem xp {h:Heap}{H:Hp}{b:Addr}{o:Obj}(e:(mD h H).get? b=some o):h.get? b=some o/\H b=none:=by
 have e':h.get? b=some o:=PySem.W.of_hideAll (trk h H) e;refine⟨e',?_⟩;cases q:H b with
 | none=>rfl
 | some x=>have hm:b∈trk h H:=List.mem_filter.mpr ⟨List.mem_range.mpr (Heap.lt_size e'),by simp[q]⟩;have z:(mD h H).get? b=none:=PySem.W.hideAll_none (trk h H) hm;rw[z]at e; cases e
noncomputable def xK (g h:Heap)(L:Addr):List (Addr×Obj):=(List.range h.objs.size).filterMap λa=>if a=L\/(g.get? a).isSome=true then none else (h.get? a).map λo=>(a,o)
noncomputable def rest (g h:Heap)(L d:Addr):List (Addr×Obj):=(xK g h L).filter λp=>decide (p.1≠d)
structure Mod (K:PySem.W.Frag)(mg:Str->Option Value)(base:Heap):Prop where
 kin:K.In base
 glob:base.Ns mainGlobals mg
 blt:∃mb,base.Ns builtinsNs mb/\∀x:Str,x ≠ "__name__" -> mb x=bootBuiltins x
 nolimit:base.NoLimit
structure Cx where
 prog:Program
 w:World
 K:PySem.W.Frag
 mg:Str->Option Value
 base:Heap
 A:Around
 N:List Str
 s₀:Shared
 H₀:Hp
 env:Env
 outer:List Env
 stack:List Env
 ex:List Addr
 fn:Str->Bool
 calm:Bool
 pn:List (Addr×Obj)
 xe:Value->Shared->Prop
noncomputable def frs (l:List Env):List Addr:=l.filterMap (·.frame)
noncomputable abbrev Cx.fs (X:Cx):List Addr:=frs X.outer
def Vis (sc:Scope)(x:Str):Prop:=sc.names.lookup x=some .local\/sc.names.lookup x=some .cell\/sc.names.lookup x=some .free
def Loc (sc:Scope)(x:Str):Prop:=sc.names.lookup x=some .local\/sc.names.lookup x=some .cell
def Look (env:Env)(h:Heap)(m:Str->Option Value)(x:Str)(u:Value):Prop:=(env.kindOf x=some .local/\m x=some u)\/((env.kindOf x=some .cell\/env.kindOf x=some .free)/\∃c,env.cells.lookup x=some c/\h.IsCell c (some u))
structure Cx.Ok (X:Cx):Prop where
 mod:Mod X.K X.mg X.base
 kind:X.env.scope.kind=.function
 glob:X.env.globals=mainGlobals
 blt:X.env.builtins=builtinsNs
 above:X.s₀.heap.objs.size<=X.env.locals
 inj:∀x y c,X.env.cells.lookup x=some c->X.env.cells.lookup y=some c->x=y
 has:∀x,(X.env.kindOf x=some .cell\/X.env.kindOf x=some .free)->∃c,X.env.cells.lookup x=some c
 cab:∀x c,X.fn x=true->X.env.cells.lookup x=some c->X.s₀.heap.objs.size<=c
 hd:X.calm=true->X.A.handled=none
 frames:X.A.frames=some X.stack
 stk:X.stack=X.outer\/(X.stack=X.env::X.outer/\X.env.frame=some X.env.locals)
 exf:∀b∈X.ex,b≠X.env.locals/\∀x c,X.env.cells.lookup x=some c->c≠b
 bs:∀b o,X.base.get? b=some o->X.s₀.heap.get? b=some o/\X.H₀ b=none
 bsz:X.base.objs.size<=X.s₀.heap.objs.size
 noex:∀b o,X.base.get? b=some o->b∉X.ex
 exfs:∀b∈X.ex,b∉X.fs
 jL:X.s₀.heap.FunFrames X.base X.outer
 frf:∀b∈X.fs,X.H₀ b=none
structure Inv (X:Cx)(pins:List (Addr×Obj))(σ:List (Option V))(H:Hp)(s:Shared):Prop where
 ok:X.Ok
 os:s.os=X.s₀.os
 bare:AllBare s.gens
 base:Un X.fs X.ex X.H₀ H X.s₀.heap s.heap
 loc:∃m,s.heap.Ns X.env.locals m/\∀(i:Nat) (x:Str) (v:V),X.N[i]?=some x->σ[i]?=some (some v)->Vis X.env.scope x->∃u,RelV v u/\Look X.env s.heap m x u
 cell:∀x c,X.env.cells.lookup x=some c->∃v,s.heap.IsCell c v
 free:H X.env.locals=none
 freeC:∀x c,X.env.cells.lookup x=some c->H c=none
 pin:∀p∈X.pn++pins,s.heap.get? p.1=some p.2/\H p.1=none/\p.1≠X.env.locals/\p.1∉X.fs/\∀v,p.2.data≠.cell v
 hok:HOk X.prog X.w H s.heap
 len:σ.length=X.N.length
section
variable {X:Cx}{pins:List (Addr×Obj)}{σ:List (Option V)}{H H':Hp}{s:Shared}{h':Heap}
theorem Cx.Ok.C3 (ok:X.Ok){b:Addr}{o:Obj}(e:X.base.get? b=some o):b∉X.fs:=λhb=>by have:=(ok.jL.mem hb).1;rw[e]at this; cases this
theorem Inv.bs (I:Inv X pins σ H s):∀b o,X.base.get? b=some o->s.heap.get? b=some o/\H b=none:=λb o e=>⟨I.base.keep b o (I.ok.bs b o e).1 (I.ok.bs b o e).2 (I.ok.C3 e) (I.ok.noex b o e),I.base.free b o (I.ok.bs b o e).1 (I.ok.bs b o e).2 (I.ok.noex b o e)⟩
theorem Inv.bk (I:Inv X pins σ H s):∀b o,X.base.get? b=some o->s.heap.get? b=some o:=λb o e=>(I.bs b o e).1
theorem Inv.mod (I:Inv X pins σ H s):Mod X.K X.mg X.base:=I.ok.mod
theorem Inv.kIn (I:Inv X pins σ H s):X.K.In s.heap:=I.ok.mod.kin.keeps I.bk
theorem Inv.lt (I:Inv X pins σ H s):X.env.locals<s.heap.objs.size:=let ⟨_,hn,_⟩:=I.loc; hn.lt
theorem Inv.sz (I:Inv X pins σ H s):X.s₀.heap.objs.size<=s.heap.objs.size:=Nat.le_trans I.ok.above (Nat.le_of_lt I.lt)
theorem Inv.C4 (I:Inv X pins σ H s){a:Addr}(h:s.heap.objs.size<=a):a∉X.fs:=λhb=>by obtain⟨_,o,ho,_⟩:=I.ok.jL.mem hb;exact absurd (Nat.lt_of_lt_of_le (Heap.lt_size ho) (Nat.le_trans I.sz h)) (Nat.lt_irrefl _)
theorem Inv.cne (I:Inv X pins σ H s):∀x c,X.env.cells.lookup x=some c->c≠X.env.locals:=λx c e z=>by obtain⟨v,o,ho,hd⟩:=I.cell x c e;obtain⟨m,⟨o',es,ep,ho',hd',_⟩,_⟩:=I.loc;rw[z,ho']at ho; cases ho; rw[hd']at hd; cases hd
theorem Inv.jL (I:Inv X pins σ H s):s.heap.FunFrames X.base X.outer:=by
 have all:∀(l:List Env),(∀b∈frs l,b∈X.fs)->X.s₀.heap.FunFrames X.base l->s.heap.FunFrames X.base l:=by
   intro l;induction l with
   | nil=>intro _ _; trivial
   | cons env r ih=>intro hs hl;obtain⟨hk,⟨L,o,hf,hn,ho,hd⟩,hr⟩:=hl;have hL:L∈X.fs:=hs L (by unfold frs; rw[List.filterMap_cons,hf]; exact List.mem_cons_self);obtain⟨sl,e⟩:=I.base.slot L o ho (I.ok.frf L hL) hL λz=>I.ok.exfs L z hL;exact⟨hk,⟨L,_,hf,hn,e,hd⟩,ih (λb hb=>hs b (by unfold frs; rw[List.filterMap_cons,hf]; exact List.mem_cons_of_mem _ hb)) hr⟩
 exact all X.outer (λ_ hb=>hb) I.ok.jL
theorem Inv.stack (I:Inv X pins σ H s):s.heap.FunFrames X.base X.stack:=by
 rcases I.ok.stk with e | ⟨e,hf⟩
 . rw[e]; exact I.jL
 . rw[e];obtain⟨m,hn,_⟩:=I.loc;refine .cons (by rw[I.ok.kind]; decide) hf hn ?_ I.jL;exact Heap.get?_none_of_le (Nat.le_trans I.ok.bsz I.ok.above)
theorem Inv.pD (I:Inv X pins σ H s):∀b∈frs X.stack,b∈X.env.locals::X.fs:=λb hb=>by
 rcases I.ok.stk with e | ⟨e,hf⟩
 . rw[e]at hb; exact List.mem_cons_of_mem _ hb
 . rw[e]at hb;unfold frs at hb;rw[List.filterMap_cons,hf]at hb;exact hb
theorem Inv.qv (I:Inv X pins σ H s):∀b∈frs X.stack,H b=none:=λb hb=>by
 rcases List.mem_cons.mp (I.pD b hb) with e | hb
 . rw[e]; exact I.free
 . obtain⟨_,o,ho,_⟩:=I.ok.jL.mem hb;exact I.base.free b o ho (I.ok.frf b hb) λz=>I.ok.exfs b z hb
theorem Inv.step {g':Array GenState}{t':Nat}{d':Drawn}{ch:List Addr}(I:Inv X pins σ H s)
   (hch:∀b∈ch,(b∈X.ex\/X.s₀.heap.objs.size<=b)/\b≠X.env.locals/\(∀x c,X.env.cells.lookup x=some c->c≠b)/\∀p∈X.pn++pins,p.1≠b)
   (keep:∀b o,b≠X.env.locals->b∉X.fs->b∉ch->s.heap.get? b=some o->H b=none->h'.get? b=some o)
   (slot:∀b o,b≠X.env.locals->b∈X.fs->b∉ch->s.heap.get? b=some o->H b=none->∃sl,h'.get? b=some { o with slots:=sl }) (free:∀b o,b∉ch->s.heap.get? b=some o->H b=none->H' b=none)
   (there:∀b o,b∉ch->s.heap.get? b=some o->∃o',h'.get? b=some o')
   (tups:∀b xs,H b=some (.tup xs)->H' b=some (.tup xs)) (frzs:∀b o u,H b=some (.frz o u)->H' b=some (.frz o u)) (tbls:∀b ps,H b=some (.tbl ps)->∃more,H' b=some (.tbl (ps++more)))
   (ns:∀m,s.heap.Ns X.env.locals m->h'.Ns X.env.locals m) (hok:HOk X.prog X.w H' h') (hg:AllBare g') :
   Inv X pins σ H' { s with heap:=h',gens:=g',drawn:=d',toks:=t' }:=by
 have neL:∀b o,X.s₀.heap.get? b=some o->b≠X.env.locals:=λb o e=>Nat.ne_of_lt (Nat.lt_of_lt_of_le (Heap.lt_size e) I.ok.above)
 have neC:∀b o,X.s₀.heap.get? b=some o->b∉X.ex->b∉ch:=λb o e hx hb=>by
   rcases(hch b hb).1 with z | z
   . exact hx z
   . exact absurd (Nat.lt_of_lt_of_le (Heap.lt_size e) z) (Nat.lt_irrefl _)
 have cellK:∀x c,X.env.cells.lookup x=some c->∀v,s.heap.IsCell c v->h'.IsCell c v:=λx c e v ⟨o,ho,hd⟩=>by
   have nch:c∉ch:=λz=>(hch c z).2.2.1 x c e rfl;by_cases hc:c∈X.fs
   . obtain⟨sl,q⟩:=slot c o (I.cne x c e) hc nch ho (I.freeC x c e);exact⟨_,q,hd⟩
   . exact⟨o,keep c o (I.cne x c e) hc nch ho (I.freeC x c e),hd⟩
 refine⟨I.ok,I.os,hg,⟨λb o e n hb hx=>?_,λb o e n hb hx=>?_,λb o e n hx=>?_,λb o e hx=>?_,λb xs e=>tups b xs (I.base.tups b xs e),λb o xs e=>frzs b o xs (I.base.frzs b o xs e),λb ps e=>?_⟩,?_,λx c e=>?_,?_,λx c e=>?_,λp hp=>?_,hok,I.len⟩
 . exact keep b o (neL b o e) hb (neC b o e hx) (I.base.keep b o e n hb hx) (I.base.free b o e n hx)
 . obtain⟨sl,e1⟩:=I.base.slot b o e n hb hx;obtain⟨sl',e2⟩:=slot b _ (neL b o e) hb (neC b o e hx) e1 (I.base.free b o e n hx);exact⟨sl',e2⟩
 . obtain⟨o',e1⟩:=I.base.there b o e hx;exact free b o' (neC b o e hx) e1 (I.base.free b o e n hx)
 . obtain⟨o',e1⟩:=I.base.there b o e hx;exact there b o' (neC b o e hx) e1
 . obtain⟨m1,e1⟩:=I.base.tbls b ps e;obtain⟨m2,e2⟩:=tbls b _ e1;exact⟨m1++m2,by rw[e2,Array.append_assoc]⟩
 . obtain⟨m,hn,hl⟩:=I.loc;refine⟨m,ns m hn,λi x v e1 e2 e3=>?_⟩;obtain⟨u,r,l⟩:=hl i x v e1 e2 e3;refine⟨u,r,?_⟩;rcases l with l | ⟨k,c,e,z⟩
   . exact .inl l
   . exact .inr ⟨k,c,e,cellK x c e _ z⟩
 . obtain⟨v,z⟩:=I.cell x c e;exact⟨v,cellK x c e v z⟩
 . obtain⟨m,⟨o,_,_,ho,_⟩,_⟩:=I.loc;exact free _ o (λz=>(hch _ z).2.1 rfl) ho I.free
 . obtain⟨v,o,ho,hd⟩:=I.cell x c e;exact free c o (λz=>(hch c z).2.2.1 x c e rfl) ho (I.freeC x c e)
 . obtain⟨e,n,ne,nf,d⟩:=I.pin p hp;have nch:p.1∉ch:=λz=>(hch p.1 z).2.2.2 p hp rfl;exact⟨keep p.1 p.2 ne nf nch e n,free p.1 p.2 nch e n,ne,nf,d⟩
theorem Inv.un {t':Nat}(I:Inv X pins σ H s)(u:Un X.fs [] H H' s.heap h')(hok:HOk X.prog X.w H' h'):Inv X pins σ H' { s with heap:=h',toks:=t' }:=by
 obtain⟨m,⟨o,es,ep,ho,r⟩,_⟩:=id I.loc;obtain⟨sl,hL⟩:=u.any ho I.free (by simp)
 exact I.step (g':=s.gens) (d':=s.drawn) (ch:=[]) (λ_ z=>nomatch z) (λb o _ hb _ e n=>u.keep b o e n hb (by simp)) (λb o _ hb _ e n=>u.slot b o e n hb (by simp)) (λb o _ e n=>u.free b o e n (by simp)) (λb o _ e=>u.there b o e (by simp)) u.tups u.frzs u.tbls (λm' hm=>by
   obtain⟨o',es',ep',ho',r'⟩:=hm;rw[ho]at ho'; cases ho';exact⟨_,es',ep',hL,r'⟩) hok I.bare
theorem Inv.call {g':Array GenState}{t':Nat}{d':Drawn}{ch:List Addr}(I:Inv X pins σ H s)(u:Un (frs X.stack) ch H H' s.heap h')(hok:HOk X.prog X.w H' h')(hg:AllBare g')
   (hch:∀b∈ch,(b∈X.ex\/X.s₀.heap.objs.size<=b)/\b≠X.env.locals/\(∀x c,X.env.cells.lookup x=some c->c≠b)/\∀p∈X.pn++pins,p.1≠b) :
   Inv X pins σ H' { s with heap:=h',gens:=g',drawn:=d',toks:=t' }:=by
 obtain⟨m,⟨o,es,ep,ho,r⟩,_⟩:=id I.loc;obtain⟨sl,hL⟩:=u.any ho I.free λz=>(hch _ z).2.1 rfl
 exact I.step (ch:=ch) hch (λb o hL hb hc e n=>u.keep b o e n (λz=>(List.mem_cons.mp (I.pD b z)).elim hL hb) hc) (λb o _ _ hc e n=>u.any e n hc) (λb o hc e n=>u.free b o e n hc) (λb o hc e=>u.there b o e hc) u.tups u.frzs u.tbls (λm' hm=>by
   obtain⟨o',es',ep',ho',r'⟩:=hm;rw[ho]at ho'; cases ho';exact⟨_,es',ep',hL,r'⟩) hok hg
theorem Inv.turned {t':Nat}{it:Addr}(I:Inv X pins σ H s)(k:∀b o,b≠it->s.heap.get? b=some o->h'.get? b=some o)(hn:H it=none)(hL:it≠X.env.locals)
   (h1:it∈X.ex\/X.s₀.heap.objs.size<=it) (h2:∀x c,X.env.cells.lookup x=some c->c≠it) (h3:∀p∈X.pn++pins,p.1≠it):Inv X pins σ H { s with heap:=h',toks:=t' }:=by
 have nit:∀b u,H b=some u->b≠it:=λb u e z=>by rw[z,hn]at e; cases e
 refine I.step (g':=s.gens) (d':=s.drawn) (ch:=[it]) (λb hb=>?_) (λb o _ _ hc e _=>k b o (λz=>hc (by simp[z])) e) (λb o _ _ hc e _=>⟨o.slots,k b o (λz=>hc (by simp[z])) e⟩) (λ_ _ _ _ n=>n)
   (λb o hc e=>⟨o,k b o (λz=>hc (by simp[z])) e⟩) (λ_ _ e=>e) (λ_ _ _ e=>e) (λb ps e=>⟨#[],by rw[e]; simp⟩) (λm hm=>?_) (λb u e=>?_) I.bare
 . have e:b=it:=by simpa using hb
   subst e;exact⟨h1,hL,h2,h3⟩
 . obtain⟨o,es,ep,ho,r⟩:=hm;exact⟨o,es,ep,k _ o (Ne.symm hL) ho,r⟩
 . refine(I.hok b u e).kf (λc v hc q=>k c v ?_ q) (λ_ q=>q) λ_ _ q=>q;rcases hc with z | z
   . rw[z]; exact nit b u e
   . exact nit c _ z
theorem Inv.tok (I:Inv X pins σ H s)(t:Nat):Inv X pins σ H { s with toks:=t }:=I.un (h':=s.heap) (t':=t) Un.refl I.hok
theorem Inv.kept {t':Nat}(I:Inv X pins σ H s)(k:∀b u,s.heap.get? b=some u->h'.get? b=some u):Inv X pins σ H { s with heap:=h',toks:=t' }:=I.un (Un.kept k) (I.hok.kept k)
theorem Inv.laid {a:Addr}{o:HO}{t':Nat}(I:Inv X pins σ H s)(k:∀b u,s.heap.get? b=some u->h'.get? b=some u)(hp:s.heap.objs.size<=a)(new:bA X.prog X.w (upd H a o) h' a o):
   Inv X pins σ (upd H a o) { s with heap:=h',toks:=t' }:=I.un (Un.laid k hp (I.hok.fresh hp)) (I.hok.laid k hp new)
theorem Inv.write {x e:Addr}{o:HO}{t':Nat}(I:Inv X pins σ H s)(mu:Mut (H x))(he:e=x\/H e=some (.own x))(k:∀b u,b≠e->s.heap.get? b=some u->h'.get? b=some u)(heo:∃u,h'.get? e=some u)
   (new:bA X.prog X.w (upd H x o) h' x o):Inv X pins σ (upd H x o) { s with heap:=h',toks:=t' }:=I.un (Un.write mu he k heo) (I.hok.write mu he k heo new)
theorem Inv.rb {pins':List (Addr×Obj)}(I:Inv X pins σ H s)(h:∀p∈pins',s.heap.get? p.1=some p.2/\H p.1=none/\p.1≠X.env.locals/\p.1∉X.fs/\∀v,p.2.data≠.cell v):Inv X pins' σ H s:=⟨I.ok,I.os,I.bare,I.base,I.loc,I.cell,I.free,I.freeC,λp hp=>(List.mem_append.mp hp).elim (λz=>I.pin p (List.mem_append_left _ z)) (h p),I.hok,I.len⟩
theorem ng {N:List Str}(hN:N.Nodup){i j:Nat}{x:Str}(a:N[i]?=some x)(b:N[j]?=some x):i=j:=by obtain⟨h1,e1⟩:=List.getElem?_eq_some_iff.mp a;obtain⟨h2,e2⟩:=List.getElem?_eq_some_iff.mp b;exact(List.getElem_inj hN).mp (e1.trans e2.symm)
theorem tm {M:Model}{A:Around}{E:Value->Shared->Prop}{i:Nat}{x:Str}{v:V}{u:Value}{Q:Unit->Shared->Prop}(I:Inv X pins σ H s)(hN:X.N.Nodup)(hi:X.N[i]?=some x)(hx:Loc X.env.scope x)(r:RelV v u)
   (h:∀s',Inv X pins (σ.set i (some v)) H s'->(∃a,Heap.SameBut a s.heap s'.heap/\(a=X.env.locals\/X.env.cells.lookup x=some a))->Q () s') (hf:X.fn x=true\/X.env.scope.names.lookup x=some .local:=by first | exact .inl rfl | exact .inr rfl | assumption):wpAny M A (storeName X.env x u) Q E s:=by
 obtain⟨m,hn,hl⟩:=id I.loc;have hcls:(X.env.scope.kind==.class||(X.env.scope.kind==.module&&X.env.locals != X.env.globals))=false:=by rw[I.ok.kind]; rfl
 have hiσ:i<σ.length:=by rw[I.len]; exact(List.getElem?_eq_some_iff.mp hi).1
 have cne:=I.cne
 have tracked:∀{a:Addr} {h':Heap},(∃o,s.heap.get? a=some o/\H a=none)->Heap.SameBut a s.heap h'->HOk X.prog X.w H h':=λ{a h'} ha hs b ob e=>by
   obtain⟨_,_,hfree⟩:=ha;refine(I.hok b ob e).kf (λc w' hc q=>(hs.2 c ?_).trans q) (λ_ q=>q) λ_ _ q=>q;rintro rfl;rcases hc with rfl | hc
   . rw[hfree]at e; cases e
   . rw[hfree]at hc; cases hc
 rcases hx with hk | hk
 . refine wpAny_storeName_local hk hn (λh' hn' hs=>?_) hcls;obtain⟨oL,_,_,hoL,_⟩:=id hn;refine h _ ⟨I.ok,I.os,I.bare,⟨λb o e n hb hx=>?_,λb o e n hb hx=>?_,I.base.free,λb o e hx=>?_,I.base.tups,I.base.frzs,I.base.tbls⟩,⟨_,hn',λj y v' e1 e2 e3=>?_⟩,λy c e=>?_,I.free,I.freeC,λp hp=>?_,tracked ⟨oL,hoL,I.free⟩ hs,by simpa using I.len⟩ ⟨_,hs,.inl rfl⟩
   . exact(hs.2 b (Nat.ne_of_lt (Nat.lt_of_lt_of_le (Heap.lt_size e) I.ok.above))).trans (I.base.keep b o e n hb hx)
   . obtain⟨sl,e1⟩:=I.base.slot b o e n hb hx;exact⟨sl,(hs.2 b (Nat.ne_of_lt (Nat.lt_of_lt_of_le (Heap.lt_size e) I.ok.above))).trans e1⟩
   . obtain⟨o',e1⟩:=I.base.there b o e hx;exact⟨o',(hs.2 b (Nat.ne_of_lt (Nat.lt_of_lt_of_le (Heap.lt_size e) I.ok.above))).trans e1⟩
   . by_cases hj:j=i
     . subst hj;rw[hi]at e1; cases e1;rw[List.getElem?_set_self hiσ]at e2;cases e2;exact⟨u,r,.inl ⟨hk,by simp⟩⟩
     . rw[List.getElem?_set_ne (Ne.symm hj)]at e2;obtain⟨u',r',q⟩:=hl j y v' e1 e2 e3;refine⟨u',r',?_⟩;rcases q with ⟨k,e⟩ | ⟨k,c,e,z⟩
       . refine .inl ⟨k,?_⟩;have:y≠x:=λe=>hj (ng hN e1 (e▸hi));simp[this,e]
       . exact .inr ⟨k,c,e,z.sameBut hs (cne y c e)⟩
   . obtain⟨w',z⟩:=I.cell y c e;exact⟨w',z.sameBut hs (cne y c e)⟩
   . obtain⟨e,n,ne,nf,d⟩:=I.pin p hp;exact⟨(hs.2 p.1 ne).trans e,n,ne,nf,d⟩
 . have hfn:X.fn x=true:=by
     rcases hf with z | z
     . exact z
     . rw[z]at hk; cases hk
   obtain⟨c,hc⟩:=I.ok.has x (.inl hk);obtain⟨w',z⟩:=I.cell x c hc;refine wpAny_storeName_cell I.ok.kind hk hc z (λh' hc' hs=>?_);obtain⟨oc,hoc,hocd⟩:=id z;refine h { s with heap:=h' } ⟨I.ok,I.os,I.bare,⟨λb o e n hb hx=>?_,λb o e n hb hx=>?_,I.base.free,λb o e hx=>?_,I.base.tups,I.base.frzs,I.base.tbls⟩,⟨m,hn.sameBut hs (Ne.symm (cne x c hc)),λj y v' e1 e2 e3=>?_⟩,λy c' e=>?_,I.free,I.freeC,λp hp=>?_,tracked ⟨oc,hoc,I.freeC x c hc⟩ hs,by simpa using I.len⟩ ⟨c,hs,.inr hc⟩
   . exact(hs.2 b (Nat.ne_of_lt (Nat.lt_of_lt_of_le (Heap.lt_size e) (I.ok.cab x c hfn hc)))).trans (I.base.keep b o e n hb hx)
   . obtain⟨sl,e1⟩:=I.base.slot b o e n hb hx;exact⟨sl,(hs.2 b (Nat.ne_of_lt (Nat.lt_of_lt_of_le (Heap.lt_size e) (I.ok.cab x c hfn hc)))).trans e1⟩
   . obtain⟨o',e1⟩:=I.base.there b o e hx;exact⟨o',(hs.2 b (Nat.ne_of_lt (Nat.lt_of_lt_of_le (Heap.lt_size e) (I.ok.cab x c hfn hc)))).trans e1⟩
   . by_cases hj:j=i
     . subst hj;rw[hi]at e1; cases e1;rw[List.getElem?_set_self hiσ]at e2;cases e2;exact⟨u,r,.inr ⟨.inl hk,c,hc,hc'⟩⟩
     . rw[List.getElem?_set_ne (Ne.symm hj)]at e2;obtain⟨u',r',q⟩:=hl j y v' e1 e2 e3;refine⟨u',r',?_⟩;rcases q with q | ⟨k,c',e,z'⟩
       . exact .inl q
       . refine .inr ⟨k,c',e,z'.sameBut hs ?_⟩;rintro rfl;exact hj (ng hN e1 (I.ok.inj _ _ _ e hc▸hi))
   . by_cases hcc:c'=c
     . subst hcc; exact⟨_,hc'⟩
     . obtain⟨w2,z2⟩:=I.cell y c' e;exact⟨w2,z2.sameBut hs hcc⟩
   . obtain⟨e,n,ne,nf,d⟩:=I.pin p hp;refine⟨(hs.2 p.1 ?_).trans e,n,ne,nf,d⟩;intro q;rw[q,hoc]at e;have q':oc=p.2:=Option.some.inj e;exact d w' (by rw[<- q']; exact hocd)
theorem nN {M:Model}{A:Around}{E:Value->Shared->Prop}{i:Nat}{x:Str}{v:V}{u:Value}{Q:Unit->Shared->Prop}(I:Inv X pins σ H s)(hN:X.N.Nodup)(hi:X.N[i]?=some x)(hx:Loc X.env.scope x)(r:RelV v u)
   (h:∀s',Inv X pins (σ.set i (some v)) H s'->Q () s') (hf:X.fn x=true\/X.env.scope.names.lookup x=some .local:=by first | exact .inl rfl | exact .inr rfl | assumption):wpAny M A (storeName X.env x u) Q E s:=
 tm I hN hi hx r (λs' I' _=>h s' I') hf
theorem Inv.yk {s':Shared}{ch:List Addr}(I:Inv X pins σ H s)(ho:s'.os=s.os)(u:Un (frs X.stack) ch H H' s.heap s'.heap)(hok:HOk X.prog X.w H' s'.heap)(hg:AllBare s'.gens)
   (hch:∀b∈ch,(b∈X.ex\/X.s₀.heap.objs.size<=b)/\b≠X.env.locals/\(∀x c,X.env.cells.lookup x=some c->c≠b)/\∀p∈X.pn++pins,p.1≠b):Inv X pins σ H' s':=by
 obtain⟨h',g',d',t',o'⟩:=s';have e:o'=s.os:=ho;subst e;exact I.call (g':=g') (t':=t') (d':=d') u hok hg hch
end
noncomputable abbrev XK:=Value->Option Addr->Hp->Prop
noncomputable abbrev St:=List (Option V)
noncomputable abbrev VK:=V->Hp->Prop
noncomputable abbrev TE:=St->Hp->VK->Prop
noncomputable abbrev TT:=St->Hp->(Bool->Hp->Prop)->Prop
noncomputable abbrev TA:=St->Hp->(List V->Hp->Prop)->Prop
structure Ends where
 nx:St->Hp->Prop
 rt:VK
 bk:St->Hp->Prop:=λ_ _=>False
 ct:St->Hp->Prop:=λ_ _=>False
noncomputable abbrev TS:=Ends->St->Hp->Prop
def EP (X:Cx)(pins:List (Addr×Obj))(σ:St)(Q:VK)(u:Value)(s':Shared):Prop:=∃v H',Inv X pins σ H' s'/\RelV v u/\Q v H'
def TP (X:Cx)(pins:List (Addr×Obj))(σ:St)(Q:Bool->Hp->Prop)(b:Bool)(s':Shared):Prop:=∃H',Inv X pins σ H' s'/\Q b H'
def AP (X:Cx)(pins:List (Addr×Obj))(σ:St)(Q:List V->Hp->Prop)(us:List Value)(s':Shared):Prop:=∃vs H',Inv X pins σ H' s'/\Vals vs us/\Q vs H'
def SP (X:Cx)(pins:List (Addr×Obj))(D:Ends)(f:Flow)(s':Shared):Prop:=
 match f with
 | .next=>∃σ' H',Inv X pins σ' H' s'/\D.nx σ' H'
 | .brk=>∃σ' H',Inv X pins σ' H' s'/\D.bk σ' H'
 | .cont=>∃σ' H',Inv X pins σ' H' s'/\D.ct σ' H'
 | .ret u=>∃v σ' H',Inv X pins σ' H' s'/\RelV v u/\D.rt v H'
def PE (X:Cx)(e:Expr)(t:TE):Prop:=∀(pins:List (Addr×Obj)) (s:Shared) (σ:St) (H:Hp) (Q:VK),Inv X pins σ H s->t σ H Q->wpAny (model X.prog X.w) X.A (eval e X.env) (EP X pins σ Q) X.xe s
def PT (X:Cx)(e:Expr)(t:TT):Prop:=∀(pins:List (Addr×Obj)) (s:Shared) (σ:St) (H:Hp) (Q:Bool->Hp->Prop),Inv X pins σ H s->t σ H Q->wpAny (model X.prog X.w) X.A (isTrue e X.env (eval e X.env)) (TP X pins σ Q) X.xe s
def PW (X:Cx)(e:Expr)(t:TT):Prop:=∀(whole:Sem Value) (pins:List (Addr×Obj)) (s:Shared) (σ:St) (H:Hp) (Q:Bool->Hp->Prop),Inv X pins σ H s->t σ H Q->wpAny (model X.prog X.w) X.A (isTrue e X.env whole) (TP X pins σ Q) X.xe s
theorem PW.pt {X:Cx}{e:Expr}{t:TT}(h:PW X e t):PT X e t:=h _
def PA (X:Cx)(es:List Expr)(t:TA):Prop:=∀(pos:Pos) (pins:List (Addr×Obj)) (s:Shared) (σ:St) (H:Hp) (Q:List V->Hp->Prop),Inv X pins σ H s->t σ H Q->wpAny (model X.prog X.w) X.A (spliced (backTo pos (starEach es X.env))) (AP X pins σ Q) X.xe s
def PS (X:Cx)(st:Stmt)(t:TS):Prop:=∀(pins:List (Addr×Obj)) (s:Shared) (σ:St) (H:Hp) (D:Ends),Inv X pins σ H s->t D σ H->wpAny (model X.prog X.w) X.A (exec st X.env) (SP X pins D) X.xe s
def PSs (X:Cx)(st:List Stmt)(t:TS):Prop:=∀(pins:List (Addr×Obj)) (s:Shared) (σ:St) (H:Hp) (D:Ends),Inv X pins σ H s->t D σ H->wpAny (model X.prog X.w) X.A (execs st X.env) (SP X pins D) X.xe s
theorem thn {α:Type}{t:Sem α}{Q Q':α->Shared->Prop}{M:Model}{A:Around}{E:Value->Shared->Prop}{s:Shared}(h:wpAny M A t Q E s)(hQ:∀a s,Q a s->Q' a s):wpAny M A t Q' E s:=wpAny_mono h hQ λ_ _ x=>x
section
variable {X:Cx}
theorem bin {a b:Expr}{ta tb:TE}(ha:PE X a ta)(hb:PE X b tb){pins:List (Addr×Obj)}{s:Shared}{σ:St}{H:Hp}{R:V->V->Hp->Prop}(I:Inv X pins σ H s)(h:ta σ H λx H1=>tb σ H1 λy H2=>R x y H2)
   {α:Type} {Q:α->Shared->Prop} {f:Value->Value->Sem α}
   (hf:∀v u s2 x y H2,Inv X pins σ H2 s2->RelV x v->RelV y u->R x y H2->wpAny (model X.prog X.w) X.A (f v u) Q X.xe s2) :
   wpAny (model X.prog X.w) X.A (eval a X.env) (λv s₁=>wpAny (model X.prog X.w) X.A (eval b X.env) (λu s₂=>wpAny (model X.prog X.w) X.A (f v u) Q X.xe s₂) X.xe s₁) X.xe s:=by
 refine thn (ha pins s σ H _ I h) λv s1 ⟨x,H1,I1,r1,q1⟩=>?_;refine thn (hb pins s1 σ H1 _ I1 q1) λu s2 ⟨y,H2,I2,r2,q2⟩=>?_;exact hf v u s2 x y H2 I2 r1 r2 q2
def B1 (i:Nat):TE:=λσ H Q=>∃v,σ[i]?=some (some v)/\Q v H
def tC (v:V):TE:=λ_ H Q=>Q v H
theorem bI {i:Nat}{x:Str}{pos:Pos}(hN:X.N[i]?=some x)(hv:Vis X.env.scope x)(hd:(x==("__debug__" : Str))=false:=by decide)(hcd:(x==("__classdict__" : Str))=false:=by decide):PE X (.Name x pos) (B1 i):=by
 intro pins s σ H Q I h;obtain⟨v,e,h⟩:=h;obtain⟨m,hn,hl⟩:=I.loc;obtain⟨u,r,l⟩:=hl i x v hN e hv;have fin:EP X pins σ Q u s:=⟨v,H,I,r,h⟩;rcases l with ⟨hk,hm⟩ | ⟨hk,c,hc,hcell⟩
 . exact wpAny_Name (wpAny_loadName_local I.ok.kind hk hn hm fin) hd
 . rcases hk with hk | hk
   . exact wpAny_Name (wpAny_loadName_cell I.ok.kind hk hc hcell fin) hd
   . exact wpAny_Name (wpAny_loadName_free I.ok.kind hk hc hcell fin hcd) hd
theorem pR {i j pos}:PE X (.Constant (.int i) j pos) (tC (.int i)):=λ_ _ _ H _ I h=>wpAny_Constant_int ⟨.int i,H,I.tok _,⟨_,rfl⟩,h⟩
theorem BF {b j pos}:PE X (.Constant (.bool b) j pos) (tC (.bl b)):=λ_ _ _ H _ I h=>Constant_bool ⟨.bl b,H,I,rfl,h⟩
theorem zq {j pos}:PE X (.Constant .none j pos) (tC .non):=λ_ _ _ H _ I h=>Constant_none ⟨.non,H,I,rfl,h⟩
def Gl (X:Cx)(x:Str):Prop:=X.env.kindOf x=some .globalImplicit
theorem qm {E:Value->Shared->Prop}{pins:List (Addr×Obj)}{s:Shared}{σ:St}{H:Hp}{x:Str}{u:Value}{pos:Pos}{Q:Value->Shared->Prop}(I:Inv X pins σ H s)(hg:Gl X x)(hm:X.mg x=some u)(h:Q u s)
   (hd:(x==("__debug__" : Str))=false:=by decide):wpAny (model X.prog X.w) X.A (eval (.Name x pos) X.env) Q E s:=
 Calls.Name_function_global I.ok.kind hg (Calls.loadGlobal_global (by rw[I.ok.glob]; exact I.mod.glob.keeps I.bk) hm h) hd
theorem dN {E:Value->Shared->Prop}{pins:List (Addr×Obj)}{s:Shared}{σ:St}{H:Hp}{x:Str}{u:Value}{pos:Pos}{Q:Value->Shared->Prop}(I:Inv X pins σ H s)(hg:Gl X x)(hm:X.mg x=none)(hv:bootBuiltins x=some u)(h:Q u s)
   (hn:x ≠ "__name__":=by decide) (hd:(x==("__debug__" : Str))=false:=by decide):wpAny (model X.prog X.w) X.A (eval (.Name x pos) X.env) Q E s:=by
 obtain⟨mb,h1,h2⟩:=I.mod.blt;exact Calls.Name_function_global I.ok.kind hg (Calls.loadGlobal_builtin (by rw[I.ok.glob]; exact I.mod.glob.keeps I.bk) hm (by rw[I.ok.blt]; exact h1.keeps I.bk) ((h2 x hn).trans hv) h) hd
theorem xw {x:Str}{v:V}{u:Value}{pos:Pos}(hg:Gl X x)(hm:X.mg x=some u)(r:RelV v u)(hd:(x==("__debug__" : Str))=false:=by decide):PE X (.Name x pos) (tC v):=λ_ _ _ H _ I h=>qm I hg hm ⟨v,H,I,r,h⟩ hd
theorem wG {x:Str}{v:V}{u:Value}{pos:Pos}(hg:Gl X x)(hm:X.mg x=none)(hv:bootBuiltins x=some u)(r:RelV v u)(hn:x ≠ "__name__":=by decide)(hd:(x==("__debug__" : Str))=false:=by decide):PE X (.Name x pos) (tC v):=λ_ _ _ H _ I h=>dN I hg hm hv ⟨v,H,I,r,h⟩ hn hd
variable {a b:Expr}{ta tb:TE}{pos:Pos}
def PC (X:Cx)(op:CmpOp)(a b:Expr)(t:TE):Prop:=
 ∀(pins:List (Addr×Obj)) (s:Shared) (σ:St) (H:Hp) (Q:VK),Inv X pins σ H s->t σ H Q ->
   wpAny (model X.prog X.w) X.A (eval a X.env) (λv s₁=>wpAny (model X.prog X.w) X.A (eval b X.env) (λu s₂=>wpAny (model X.prog X.w) X.A (compareOp op v u) (EP X pins σ Q) X.xe s₂) X.xe s₁) X.xe s
theorem vC (b:Expr){op:CmpOp}(h:op≠.In)(h2:op≠.NotIn):behindInMarks op b=false:=by
 have e1:(op==CmpOp.In)=false:=by cases op <;> first | rfl | exact absurd rfl h
 have e2:(op==CmpOp.NotIn)=false:=by cases op <;> first | rfl | exact absurd rfl h2
 cases b <;> simp[behindInMarks,e1,e2]
def tB (t:TE):TT:=λσ H Q=>t σ H λx H1=>∃c,x=.bl c/\Q c H1
theorem C9 {op:CmpOp}{t:TE}(h:PC X op a b t)(h1:behindInMarks op b=false:=by first | exact vC _ (by decide) (by decide) | rfl):PT X (.Compare a [op] [b] pos) (tB t):=by intro pins s σ H Q I hw;refine wpAny_isTrue_Compare1 (thn (h pins s σ H _ I hw) λv s1 h1=>thn h1 λu s2 h2=>thn h2 λc s3 ⟨x,H1,I1,r1,q1⟩=>?_) h1;obtain⟨d,rfl,q⟩:=q1;cases r1;exact wpAny_truthy_bool ⟨H1,I1,q⟩
theorem zO {e:Expr}{t:TE}(h:PE X e t)(he:∀whole,isTrue e X.env whole=(do let v <- whole; standAt e.pos; holding [v] (truthy v)):=by intro _; rfl):PT X e (tB t):=by intro pins s σ H Q I hw;refine isTrue_plain (thn (h pins s σ H _ I hw) λv s1 ⟨x,H1,I1,r1,q1⟩=>?_) (he _);obtain⟨d,rfl,q⟩:=q1;cases r1;exact wpAny_truthy_bool ⟨H1,I1,q⟩
variable {tA tB':TT}{rest:List Expr}
def Dp (t u:TT):TT:=λσ H Q=>t σ H λc H1=>if c=true then u σ H1 Q else Q false H1
def tOr (t u:TT):TT:=λσ H Q=>t σ H λc H1=>if c=true then Q true H1 else u σ H1 Q
def Dg (t:TT):TT:=λσ H Q=>t σ H λc H1=>Q (!c) H1
theorem pw_and1 (ha:PT X a tA):PW X (.BoolOp .And [a] pos) tA:=by
 intro wh pins s σ H Q I h;refine isTrue_and (thn (ha pins s σ H Q I h) λc s1 e=>?_);cases c with
 | true=>exact isTrue_and_nil e
 | false=>exact e
theorem pw_or1 (ha:PT X a tA):PW X (.BoolOp .Or [a] pos) tA:=by
 intro wh pins s σ H Q I h;refine isTrue_or (thn (ha pins s σ H Q I h) λc s1 e=>?_);cases c with
 | false=>exact isTrue_or_nil e
 | true=>exact e
theorem pw_and (ha:PT X a tA)(hb:PW X (.BoolOp .And (b::rest) pos) tB'):PW X (.BoolOp .And (a::b::rest) pos) (Dp tA tB'):=by
 intro wh pins s σ H Q I h;refine isTrue_and (thn (ha pins s σ H _ I h) λc s1 ⟨H1,I1,q1⟩=>?_);cases c with
 | true=>exact hb wh pins s1 σ H1 Q I1 q1
 | false=>exact⟨H1,I1,q1⟩
theorem pw_or (ha:PT X a tA)(hb:PW X (.BoolOp .Or (b::rest) pos) tB'):PW X (.BoolOp .Or (a::b::rest) pos) (tOr tA tB'):=by
 intro wh pins s σ H Q I h;refine isTrue_or (thn (ha pins s σ H _ I h) λc s1 ⟨H1,I1,q1⟩=>?_);cases c with
 | true=>exact⟨H1,I1,q1⟩
 | false=>exact hb wh pins s1 σ H1 Q I1 q1
theorem AB (ha:PT X a tA):PT X (.UnaryOp .Not a pos) (Dg tA):=by intro pins s σ H Q I h;exact isTrue_not (ha pins s σ H (λc H1=>Q (!c) H1) I h)
def CL (ta tb:TE):TE:=λσ H Q=>ta σ H λx H1=>∃c,x=.bl c/\if c=true then tb σ H1 Q else Q (.bl false) H1
def CC (ta:TE):TE:=λσ H Q=>ta σ H λx H1=>∃c,x=.bl c/\Q (.bl (!c)) H1
theorem zQ {op}{t:TE}(h:PE X a t):PE X (.BoolOp op [a] pos) t:=λpins s σ H Q I hw=>BoolOp_one (h pins s σ H Q I hw)
theorem vO (ha:PE X a ta)(hb:PE X (.BoolOp .And (b::rest) pos) tb):PE X (.BoolOp .And (a::b::rest) pos) (CL ta tb):=by
 intro pins s σ H Q I h;refine BoolOp_and (thn (ha pins s σ H _ I h) λv s1 ⟨x,H1,I1,r1,q1⟩=>?_);obtain⟨c,rfl,q1⟩:=q1;cases r1;refine wpAny_truthy_bool ?_;cases c with
 | true=>exact hb pins s1 σ H1 Q I1 q1
 | false=>exact⟨.bl false,H1,I1,rfl,q1⟩
theorem AH (ha:PE X a ta):PE X (.UnaryOp .Not a pos) (CC ta):=by intro pins s σ H Q I h;refine UnaryOp_ (thn (ha pins s σ H _ I h) λv s1 ⟨x,H1,I1,r1,q1⟩=>?_);obtain⟨c,rfl,q1⟩:=q1;cases r1;exact not_of (wpAny_truthy_bool ⟨.bl (!c),H1,I1,rfl,q1⟩)
def tIf (t:TT)(ta tb:TE):TE:=λσ H Q=>t σ H λc H1=>if c=true then ta σ H1 Q else tb σ H1 Q
theorem oz {c:Expr}(hc:PT X c tA)(ha:PE X a ta)(hb:PE X b tb):PE X (.IfExp c a b pos) (tIf tA ta tb):=by
 intro pins s σ H Q I h;refine wpAny_IfExp (thn (hc pins s σ H _ I h) λd s1 ⟨H1,I1,q1⟩=>?_);cases d with
 | true=>exact ha pins s1 σ H1 Q I1 q1
 | false=>exact hb pins s1 σ H1 Q I1 q1
end
def SqL (K:PySem.W.Frag)(H:Hp)(a:Addr)(xs:List V):Prop:=
 Rd H a (.lst xs) \/
   ∃(o:Obj) (its:Array Value) (n:Nat),K.lookup a=some o/\o.cls=.type "list" /\ o.dict=none/\o.data=.seq its n/\its.size<=sizeLine/\Vals xs its.toList
def SqT (K:PySem.W.Frag)(H:Hp)(a:Addr)(xs:List V):Prop:=
 Rd H a (.tup xs) \/
   ∃(o:Obj) (its:Array Value) (n:Nat),K.lookup a=some o/\o.cls=.type "tuple" /\ o.data=.seq its n/\its.size<=sizeLine/\Vals xs its.toList
noncomputable def C8:Value->Option V
 | .none=>some .non
 | .bool b=>some (.bl b)
 | .int i _=>some (.int i)
 | .str x _=>some (.str x)
 | .bytes b _=>some (.byt b)
 | .float b _=>some (.flt b)
 | .ref a=>some (.ref a)
 | .type n=>some (.ty n)
 | _=>none
theorem RelV.abs {x:V}{u:Value}(r:RelV x u):C8 u=some x:=by
 cases x with
 | non=>cases r; rfl
 | bl _=>cases r; rfl
 | int _=>obtain⟨t,rfl⟩:=r; rfl
 | str _=>obtain⟨t,rfl⟩:=r; rfl
 | byt _=>obtain⟨t,rfl⟩:=r; rfl
 | flt _=>obtain⟨t,rfl⟩:=r; rfl
 | ref _=>cases r; rfl
 | ty _=>cases r; rfl
theorem RelV.inj {x y:V}{u:Value}(r:RelV x u)(q:RelV y u):x=y:=Option.some.inj (r.abs.symm.trans q.abs)
theorem Vals.inj:∀{xs ys:List V} {us:List Value},Vals xs us->Vals ys us->xs=ys
 | _,_,_,.nil,.nil=>rfl
 | _,_,_,.cons r t,.cons r' t'=>by rw[r.inj r',Vals.inj t t']
section
variable {X:Cx}{pins:List (Addr×Obj)}{σ:St}{H:Hp}{s:Shared}{a:Addr}{xs ys:List V}
theorem SqL.of {K:PySem.W.Frag}(h:H a=some (.lst xs)):SqL K H a xs:=.inl (.inl h)
theorem SqT.of {K:PySem.W.Frag}(h:H a=some (.tup xs)):SqT K H a xs:=.inl (.inl h)
theorem Inv.list (I:Inv X pins σ H s)(h:SqL X.K H a xs):∃its:List Value,Vals xs its/\PlainL s.heap a its.toArray/\xs.length<=sizeLine:=by
 rcases h with h | ⟨o,its,n,hk,hc,hd,hs,hz,r⟩
 . obtain⟨z,its,n,r,e⟩:=h.ok I.hok;exact⟨its,r,⟨_,n,e,rfl,rfl,rfl⟩,z⟩
 . refine⟨its.toList,r,⟨o,n,I.kIn a o hk,hc,hd,by simpa using hs⟩,?_⟩;have e:=r.length;simp only[Array.length_toList]at e;omega
theorem Inv.tuple (I:Inv X pins σ H s)(h:SqT X.K H a xs):∃its:List Value,Vals xs its/\IsTup s.heap a its.toArray/\xs.length<=sizeLine:=by
 rcases h with h | ⟨o,its,n,hk,hc,hs,hz,r⟩
 . obtain⟨z,its,r,p⟩:=h.ok I.hok;exact⟨its,r,p,z⟩
 . refine⟨its.toList,r,⟨o,I.kIn a o hk,hc,n,by simpa using hs⟩,?_⟩;have e:=r.length;simp only[Array.length_toList]at e;omega
theorem Inv.fu (I:Inv X pins σ H s)(h:SqL X.K H a xs)(h':SqL X.K H a ys):xs=ys:=by
 obtain⟨its,r,⟨o,n,e,_,_,d⟩,_⟩:=I.list h;obtain⟨its',r',⟨o',n',e',_,_,d'⟩,_⟩:=I.list h';rw[e]at e'; cases e';rw[d]at d';injection d' with d1 _;have:its=its':=by simpa using congrArg Array.toList d1
 subst this;exact r.inj r'
end
noncomputable abbrev Cx.kD (X:Cx)(E:Value->Shared->Prop):Cx:={ X with xe:=E }
noncomputable abbrev Cx.nox (X:Cx):Cx:=X.kD λ_ _=>False
theorem Cx.Ok.kD {X:Cx}(ok:X.Ok)(E:Value->Shared->Prop):(X.kD E).Ok:=⟨ok.mod,ok.kind,ok.glob,ok.blt,ok.above,ok.inj,ok.has,ok.cab,ok.hd,ok.frames,ok.stk,ok.exf,ok.bs,ok.bsz,ok.noex,ok.exfs,ok.jL,ok.frf⟩
theorem Cx.Ok.fj {X:Cx}{E:Value->Shared->Prop}(ok:(X.kD E).Ok):X.Ok:=⟨ok.mod,ok.kind,ok.glob,ok.blt,ok.above,ok.inj,ok.has,ok.cab,ok.hd,ok.frames,ok.stk,ok.exf,ok.bs,ok.bsz,ok.noex,ok.exfs,ok.jL,ok.frf⟩
section
variable {X:Cx}{pins:List (Addr×Obj)}{σ:St}{H:Hp}{s:Shared}{E:Value->Shared->Prop}
theorem Inv.kD (I:Inv X pins σ H s)(E:Value->Shared->Prop):Inv (X.kD E) pins σ H s:=⟨I.ok.kD E,I.os,I.bare,I.base,I.loc,I.cell,I.free,I.freeC,I.pin,I.hok,I.len⟩
theorem Inv.fj (I:Inv (X.kD E) pins σ H s):Inv X pins σ H s:=⟨I.ok.fj,I.os,I.bare,I.base,I.loc,I.cell,I.free,I.freeC,I.pin,I.hok,I.len⟩
theorem SP.fj {D:Ends}{f:Flow}{s':Shared}(h:SP (X.kD E) pins D f s'):SP X pins D f s':=by
 cases f with
 | next=>obtain⟨σ',H',I,q⟩:=h; exact⟨σ',H',I.fj,q⟩
 | brk=>obtain⟨σ',H',I,q⟩:=h; exact⟨σ',H',I.fj,q⟩
 | cont=>obtain⟨σ',H',I,q⟩:=h; exact⟨σ',H',I.fj,q⟩
 | ret u=>obtain⟨v,σ',H',I,r,q⟩:=h; exact⟨v,σ',H',I.fj,r,q⟩
theorem PSs.nox {st:List Stmt}{t:TS}(h:PSs X.nox st t):PSs X st t:=λpins s σ H D I hw=>wpAny_mono (h pins s σ H D (I.kD _) hw) (λ_ _ q=>q.fj) λ_ _ z=>False.elim z
end
section
variable {X:Cx}{st:Stmt}{rest:List Stmt}{t u:TS}{e:Expr}{te:TE}{pos:Pos}
def Cn:TS:=λD σ H=>D.nx σ H
def C6 (t u:TS):TS:=λD σ H=>t { D with nx:=u D } σ H
theorem i7:PSs X [] Cn:=λ_ _ σ H _ I h=>wpAny_execs_nil ⟨σ,H,I,h⟩
theorem cV (h1:PS X st t)(h2:PSs X rest u):PSs X (st::rest) (C6 t u):=by
 intro pins s σ H D I h;refine wpAny_execs_cons (thn (h1 pins s σ H { D with nx:=u D } I h) λf s1 q=>?_);cases f with
 | next=>obtain⟨σ',H',I',q⟩:=q;exact h2 pins s1 σ' H' D I' q
 | ret v=>exact q
 | brk=>exact q
 | cont=>exact q
theorem wj (h1:PS X st t):PSs X [st] t:=by
 intro pins s σ H D I h;refine wpAny_execs_cons (thn (h1 pins s σ H D I h) λf s1 q=>?_);cases f with
 | next=>exact wpAny_execs_nil q
 | ret v=>exact q
 | brk=>exact q
 | cont=>exact q
theorem Inv.quiet {pins:List (Addr×Obj)}{σ:St}{H:Hp}{s:Shared}(I:Inv X pins σ H s):interactive X.env=false:=by simp[interactive,I.ok.kind]
def BP (te:TE):TS:=λD σ H=>te σ H λ_ H1=>D.nx σ H1
theorem fK (he:PE X e te)(hs:swapsWith e none pos.line X.env=pure false:=by rfl):PS X (.Expr e pos) (BP te):=by intro pins s σ H D I h;exact wpAny_Expr_any (thn (he pins s σ H _ I h) λv s1 ⟨x,H1,I1,r1,q1⟩=>⟨σ,H1,I1,q1⟩) I.quiet hs
def Df (te:TE):TS:=λD σ H=>te σ H D.rt
theorem pE (he:PE X e te):PS X (.Return (some e) pos) (Df te):=by intro pins s σ H D I h;exact wpAny_Return_some (thn (he pins s σ H _ I h) λv s1 ⟨x,H1,I1,r1,q1⟩=>⟨x,σ,H1,I1,r1,q1⟩)
def Ca:TS:=λD _ H=>D.rt .non H
theorem xS:PS X (.Return none pos) Ca:=λ_ _ σ H _ I h=>wpAny_Return_none ⟨.non,σ,H,I,rfl,h⟩
def C7 (c:TT)(t u:TS):TS:=λD σ H=>c σ H λb H1=>if b=true then t D σ H1 else u D σ H1
theorem qy {c:Expr}{a b:List Stmt}{tc:TT}(hc:PT X c tc)(ha:PSs X a t)(hb:PSs X b u):PS X (.If c a b pos) (C7 tc t u):=by
 intro pins s σ H D I h;refine wpAny_If (thn (hc pins s σ H _ I h) λd s1 ⟨H1,I1,q1⟩=>?_);cases d with
 | true=>exact ha pins s1 σ H1 D I1 q1
 | false=>exact hb pins s1 σ H1 D I1 q1
def AI:TS:=λ_ _ _=>False
theorem dQ {sts:List Stmt}:PSs X sts AI:=λ_ _ _ _ _ _ h=>h.elim
end
noncomputable abbrev TG:=V->St->Hp->(St->Hp->Prop)->Prop
noncomputable abbrev TGs:=List V->St->Hp->(St->Hp->Prop)->Prop
def PG (X:Cx)(target:Expr)(t:TG):Prop:=
 ∀(pins:List (Addr×Obj)) (s:Shared) (σ:St) (H:Hp) (v:V) (u:Value) (Q:St->Hp->Prop),Inv X pins σ H s->RelV v u->t v σ H Q ->
   wpAny (model X.prog X.w) X.A (assign target X.env u) (λ_ s'=>∃σ' H',Inv X pins σ' H' s'/\Q σ' H') X.xe s
def PGs (X:Cx)(ts:List Expr)(t:TGs):Prop:=
 ∀(pins:List (Addr×Obj)) (s:Shared) (σ:St) (H:Hp) (vs:List V) (us:List Value) (Q:St->Hp->Prop),Inv X pins σ H s->Vals vs us->t vs σ H Q ->
   wpAny (model X.prog X.w) X.A (assignInOrder ((assignEach ts X.env).map (·.2)) us) (λ_ s'=>∃σ' H',Inv X pins σ' H' s'/\Q σ' H') X.xe s
noncomputable abbrev y0:=V->V->V->Hp->(Hp->Prop)->Prop
def Cc (X:Cx)(t:y0):Prop:=
 ∀(pins:List (Addr×Obj)) (s:Shared) (σ:St) (H:Hp) (o i v:V) (ov iv u:Value) (Q:Hp->Prop),Inv X pins σ H s->RelV o ov->RelV i iv->RelV v u->t o i v H Q ->
   wpAny (model X.prog X.w) X.A (setItem ov iv u) (λ_ s'=>∃H',Inv X pins σ H' s'/\Q H') X.xe s
section
variable {X:Cx}{pos:Pos}
def vT (i:Nat):TG:=λv σ H Q=>Q (σ.set i (some v)) H
theorem dg {i:Nat}{x:Str}(hN:X.N.Nodup)(hi:X.N[i]?=some x)(hx:Loc X.env.scope x)(hf:X.fn x=true\/X.env.scope.names.lookup x=some .local:=by first | exact .inl rfl | exact .inr rfl | assumption):PG X (.Name x pos) (vT i):=by intro pins s σ H v u Q I r h;exact wpAny_assign_Name (nN I hN hi hx r (λs' I'=>⟨_,H,I',h⟩) hf)
noncomputable def Dj:TGs:=λvs σ H Q=>vs=[]/\Q σ H
noncomputable def B6 (t:TG)(u:TGs):TGs:=λvs σ H Q=>∃v r,vs=v::r/\t v σ H λσ' H'=>u r σ' H' Q
theorem qA:PGs X [] Dj:=by intro pins s σ H vs us Q I r h;obtain⟨e,h⟩:=h;subst e;cases r;exact assignInOrder_nil ⟨σ,H,I,h⟩
theorem jq {e:Expr}{es:List Expr}{t:TG}{u:TGs}(h1:PG X e t)(h2:PGs X es u)
   (hs:(assignEach (e::es) X.env).map (·.2)=assign e X.env::(assignEach es X.env).map (·.2):=by rfl):PGs X (e::es) (B6 t u):=by
 intro pins s σ H vs us Q I r h;obtain⟨v,vr,e1,h⟩:=h;subst e1;cases r with
 | cons r rr=>rw[hs];refine assignInOrder_cons (thn (h1 pins s σ H _ _ _ I r h) λ_ s1 ⟨σ1,H1,I1,q1⟩=>?_);exact h2 pins s1 σ1 H1 _ _ Q I1 rr q1
def Dq (K:PySem.W.Frag)(n:Nat)(t:TGs):TG:=λv σ H Q=>∃a xs,v=.ref a/\SqT K H a xs/\xs.length=n/\t xs σ H Q
theorem uL {es:List Expr}{k:Nat}{t:TGs}{n:Nat}(hc:X.calm=true)(h:PGs X es t)
   (hn:(assignEach es X.env).length=n:=by rfl) (hst:(assignEach es X.env).findIdx? (·.1)=none:=by rfl):PG X (.Tuple es k pos) (Dq X.K n t):=by
 intro pins s σ H v u Q I r hw;obtain⟨a,xs,e1,hq,hl,hw⟩:=hw;subst e1;cases r;obtain⟨its,rv,ht,hz⟩:=I.tuple hq;refine assign_Tuple_tuple (I.ok.hd hc) ht (by simp[hn,<- hl,rv.length]) hst λh' hx=>?_;have I1:Inv X pins σ H { s with heap:=h' }:=I.kept (t':=s.toks) λb o e=>hx b o (Nat.ne_of_lt (Heap.lt_size e)) e;exact h pins _ σ H xs _ Q I1 (by simpa using rv) hw
def C5 (to ti:TE)(t:y0):TG:=λv σ H Q=>to σ H λo H1=>ti σ H1 λi H2=>t o i v H2 λH3=>Q σ H3
theorem uW {o i:Expr}{to ti:TE}{t:y0}(ho:PE X o to)(hi:PE X i ti)(hs:Cc X t)
   (ha:∀v,assign (.Subscript o i pos) X.env v=(do
     let ov <- holding [v] (eval o X.env)
     let iv <- holding [v,ov] (eval i X.env)
     standAt pos
     holding [v,ov,iv] (setItem ov iv v)
     release [v,ov,iv] []):=by intro _; rfl):PG X (.Subscript o i pos) (C5 to ti t):=by
 intro pins s σ H v u Q I r h;rw[ha];refine wpAny_bind (wpAny_holding (thn (ho pins s σ H _ I h) λov s1 ⟨x,H1,I1,r1,q1⟩=>?_));refine wpAny_bind (wpAny_holding (thn (hi pins s1 σ H1 _ I1 q1) λiv s2 ⟨y,H2,I2,r2,q2⟩=>?_));refine wpAny_bind (wpAny_standAt (wpAny_bind (wpAny_holding (thn (hs pins s2 σ H2 x y v ov iv u _ I2 r1 r2 r q2) λ_ s3 ⟨H3,I3,q3⟩=>?_))));exact wpAny_release ⟨σ,H3,I3,q3⟩
def xC (te:TE)(g:TG):TS:=λD σ H=>te σ H λx H1=>g x σ H1 D.nx
theorem qi {tg e:Expr}{te:TE}{g:TG}(he:PE X e te)(hg:PG X tg g)(hs:swapsWithSole [tg] e pos.line X.env=pure false:=by rfl)(hw:swappedStores [tg] e X.env=pure none:=by rfl)
   (h1:(assignEach [tg] X.env).map (·.2)=[assign tg X.env]:=by rfl):PS X (.Assign [tg] e pos) (xC te g):=by
 intro pins s σ H D I h;refine wpAny_Assign_stores (thn (he pins s σ H _ I h) λv s1 ⟨x,H1,I1,r1,q1⟩=>?_) hs hw;rw[h1];exact thn (hg pins s1 σ H1 x v _ I1 r1 q1) λ_ s2 q=>q
theorem js {i:Nat}{x:Str}{e:Expr}{te:TE}{pos':Pos}(hN:X.N.Nodup)(hi:X.N[i]?=some x)(hx:Loc X.env.scope x)(he:PE X e te)(hs:swapsWith e (some (.Name x pos')) pos.line X.env=pure false:=by rfl)(hf:X.fn x=true\/X.env.scope.names.lookup x=some .local:=by first | exact .inl rfl | exact .inr rfl | assumption):
   PS X (.Assign [.Name x pos'] e pos) (xC te (vT i)):=by
 intro pins s σ H D I h;refine wpAny_Assign_Name (thn (he pins s σ H _ I h) λv s1 ⟨y,H1,I1,r1,q1⟩=>?_) hs;exact nN I1 hN hi hx r1 (λs2 I2=>⟨_,H1,I2,q1⟩) hf
end
section
variable {X:Cx}{pos:Pos}
def Ac (c:TT)(tb:TS):TS:=λD σ H=>∃W:Nat->St->Hp->Prop,(∃m,W m σ H)/\∀m σ H,W m σ H ->
 c σ H λb H1=>if b=true then ∃N:St->Hp->Prop,(∀σ' H',N σ' H'->∃m',m'<m/\W m' σ' H')/\tb { D with nx:=N,ct:=N,bk:=D.nx } σ H1 else D.nx σ H1
theorem vH {c:Expr}{body:List Stmt}{tc:TT}{tb:TS}(hp:PassesOwn (model X.prog X.w) X.A X.env X.xe)(hc:PT X c tc)(hb:PSs X body tb):PS X (.While c body [] pos) (Ac tc tb):=by
 intro pins s σ H D I h;obtain⟨W,⟨m0,w0⟩,turn⟩:=h;refine wpAny_While (codeAny_whileLoop (λn s'=>∃σ' H',Inv X pins σ' H' s'/\W n σ' H') ?_ m0 ⟨σ,H,I,w0⟩);rintro n s1 ⟨σ1,H1,I1,w1⟩;refine wpAny_passesOwn hp (thn (hc pins s1 σ1 H1 _ I1 (turn n σ1 H1 w1)) λb s2 ⟨H2,I2,q2⟩=>?_);cases b with
 | true=>
   obtain⟨N,hN,q2⟩:=q2;rw[if_pos rfl];refine wpAny_passesOwn hp (thn (hb pins s2 σ1 H2 _ I2 q2) λf s3 q3=>?_);cases f with
   | next=>obtain⟨σ3,H3,I3,n3⟩:=q3;obtain⟨m',hm,w3⟩:=hN σ3 H3 n3;exact⟨m',hm,σ3,H3,I3,w3⟩
   | cont=>obtain⟨σ3,H3,I3,n3⟩:=q3;obtain⟨m',hm,w3⟩:=hN σ3 H3 n3;exact⟨m',hm,σ3,H3,I3,w3⟩
   | brk=>exact q3
   | ret v=>exact q3
 | false=>rw[if_neg Bool.false_ne_true];exact wpAny_execs_nil ⟨σ1,H2,I2,q2⟩
end
structure It where
 go:Nat->Hp->Prop
 yld:Nat->Hp->V->Hp->Prop
 stop:Nat->Hp->Prop
def ku (X:Cx)(pins:List (Addr×Obj))(H:Hp)(b:Addr):Prop:=H b=none/\b≠X.env.locals/\b∉X.fs/\(b∈X.ex\/X.s₀.heap.objs.size<=b)/\(∀x c,X.env.cells.lookup x=some c->c≠b)/\∀p∈X.pn++pins,p.1≠b
theorem Inv.jX {X:Cx}{pins:List (Addr×Obj)}{σ:St}{H H':Hp}{s:Shared}{b:Addr}(I:Inv X pins σ H s)(hb:s.heap.objs.size<=b)(hn:H' b=none):ku X pins H' b:=by
 refine⟨hn,Nat.ne_of_gt (Nat.lt_of_lt_of_le I.lt hb),I.C4 hb,.inr (Nat.le_trans I.sz hb),λx c e z=>?_,λp hp z=>?_⟩
 . obtain⟨v,q⟩:=I.cell x c e;exact absurd (Nat.lt_of_lt_of_le q.lt (by rw[z]; exact hb)) (Nat.lt_irrefl _)
 . exact absurd (Nat.lt_of_lt_of_le (Heap.lt_size (I.pin p hp).1) (by rw[z]; exact hb)) (Nat.lt_irrefl _)
def Ds (X:Cx):Prop:=∃h o u vs,X.A.handled=some (.ref h)/\X.H₀ h=some (.frz o u)/\o.data=.fields vs/\vs[2]?=some .none
def Ck (kd:Bool)(X:Cx):Prop:=X.calm=true\/(kd=true/\Ds X)
theorem Ck.calm {X:Cx}(h:Ck false X):X.calm=true:=h.resolve_right λz=>nomatch z.1
structure Turn (P:Program)(w:World)(K:PySem.W.Frag)(kd:Bool)(tg:Expr)(J:It)(fp:List Addr)(it:Addr)(tn:Nat->Heap->Prop):Prop where
 mem:it∈fp
 obj:∀i h,tn i h->∀b∈fp,∃o,h.get? b=some o/\∀v,o.data≠.cell v
 keep:∀i h h',tn i h->(∀b∈fp,∀o,h.get? b=some o->h'.get? b=some o)->tn i h'
 item:∀(X:Cx),X.prog=P->X.w=w->X.K=K->Ck kd X->∀(i:Nat) (pins:List (Addr×Obj)) (s:Shared) (σ:St) (H:Hp) (E:Value->Shared->Prop),Inv X pins σ H s->(∀b∈fp,ku X pins H b)->tn i s.heap->J.go i H ->
   wpAny (model P w) X.A (pyNext (.ref it)) (λr s1=>∃u,r=some u /\
     wpAny (model P w) X.A (letOwnedTupleGo tg (.ref it) u) (λ_ s2=>∃x H',Inv X pins σ H' s2/\RelV x u/\J.yld i H x H'/\tn (i+1) s2.heap/\∀b∈fp,H' b=none) E s1) E s
 done:∀(X:Cx),X.prog=P->X.w=w->X.K=K->Ck kd X->∀(i:Nat) (pins:List (Addr×Obj)) (s:Shared) (σ:St) (H:Hp) (E:Value->Shared->Prop),Inv X pins σ H s->(∀b∈fp,ku X pins H b)->tn i s.heap->J.stop i H ->
   wpAny (model P w) X.A (pyNext (.ref it)) (λr s1=>r=none/\Inv X pins σ H s1) E s
 self:∀(A:Around) (i:Nat) (s:Shared) (Q:Value->Shared->Prop) (E:Value->Shared->Prop),tn i s.heap->Q (.ref it) s->wpAny (model P w) A (pyIter (.ref it)) Q E s
noncomputable abbrev TI:=St->Hp->(It->Hp->Prop)->Prop
def PIE (X:Cx)(pins:List (Addr×Obj))(σ:St)(tg:Expr)(R:It->Hp->Prop)(itv:Value)(s2:Shared):Prop:=∃(kd:Bool) (it:Addr) (fp:List Addr) (tn:Nat->Heap->Prop) (J:It) (H':Hp),itv=.ref it/\Inv X pins σ H' s2/\Ck kd X/\Turn X.prog X.w X.K kd tg J fp it tn/\tn 0 s2.heap/\(∀b∈fp,ku X pins H' b)/\R J H'
def PI (X:Cx)(tg iter:Expr)(wi:TI):Prop:=
 ∀(pins:List (Addr×Obj)) (s:Shared) (σ:St) (H:Hp) (R:It->Hp->Prop),Inv X pins σ H s->wi σ H R ->
   wpAny (model X.prog X.w) X.A (eval iter X.env) (λv s1=>wpAny (model X.prog X.w) X.A (pyIter v) (PIE X pins σ tg R) X.xe s1) X.xe s
theorem jM {M:Model}{A:Around}{E:Value->Shared->Prop}{s:Shared}{tg:Expr}{it:Addr}{u:Value}{o:Obj}{n:String}{vs:Array Value}{Q:Unit->Shared->Prop}(ho:s.heap.get? it=some o)(hc:o.cls=.type n)(hd:o.data=.fields vs)
   (hn:["enumerate","zip","dict_itemiterator","dict_reverseitemiterator","odict_iterator","itertools.zip_longest","itertools.pairwise"].contains n=false) (hQ:Q () s):wpAny M A (letOwnedTupleGo tg (.ref it) u) Q E s:=by
 unfold letOwnedTupleGo
 cases tg <;> first
   | exact wpAny_pure hQ
   | (cases u <;> first
       | exact wpAny_pure hQ
       | (refine wpAny_bind (wpAny_load ho ?_)
          rw[hc,hd];show wpAny M A (if (["enumerate","zip","dict_itemiterator","dict_reverseitemiterator","odict_iterator","itertools.zip_longest","itertools.pairwise"].contains n&&vs[0]?==some (rawInt _))=true then _ else _) Q E s;rw[if_neg (by intro h; rw[hn,Bool.false_and]at h; cases h)];exact wpAny_pure hQ))
noncomputable def Itl (K:PySem.W.Frag)(a:Addr):It:=⟨λi H=>∃xs x,SqL K H a xs/\xs[i]?=some x,λi H x H'=>H'=H/\∀xs,SqL K H a xs->xs[i]?=some x,λi H=>∃xs,SqL K H a xs/\xs.length<=i⟩
noncomputable def Itr (lo:Int)(n:Nat):It:=⟨λi _=>i<n,λi H x H'=>H'=H/\x=.int (lo+i),λi _=>n<=i⟩
theorem si {P:Program}{w:World}{K:PySem.W.Frag}{tg:Expr}(a it:Addr):Turn P w K false tg (Itl K a) [it] it (λi h=>h.IsListIter it a i) where
 mem:=by simp
 obj:=λi h st b hb=>by
   have e:b=it:=by simpa using hb
   subst e;obtain⟨o,e,c,d⟩:=st;exact⟨o,e,λv z=>by rw[d]at z; cases z⟩
 keep:=λi h h' st k=>st.at λo e=>k it (by simp) o e
 item:=by intro X hP hw hK hc i pins s σ H E I hf st hg;subst hP hw hK;obtain⟨xs,x,hq,hx⟩:=hg;obtain⟨its,rv,p,hz⟩:=I.list hq;obtain⟨u,hu,ru⟩:=rv.get hx;obtain⟨f0,f1,f2,f3,f4,f5⟩:=hf it (by simp);refine wpAny_pyNext_list_item st p.isList (x:=u) (by simpa using hu) λh' st' sb=>?_;have I1:Inv X pins σ H { s with heap:=h' }:=I.turned (t':=s.toks) (λb o hb e=>(sb.2 b hb).trans e) f0 f1 f3 f4 f5;obtain⟨o,e,c,d⟩:=id st';exact⟨u,rfl,jM (s:={ s with heap:=h' }) e c d (by decide) ⟨x,H,I1,ru,⟨rfl,λys hy=>by rw[I.fu hy hq]; exact hx⟩,st',λb hb=>(hf b hb).1⟩⟩
 done:=by intro X hP hw hK hc i pins s σ H E I hf st hg;subst hP hw hK;obtain⟨xs,hq,hx⟩:=hg;obtain⟨its,rv,p,hz⟩:=I.list hq;obtain⟨f0,f1,f2,f3,f4,f5⟩:=hf it (by simp);have hl:=rv.length;exact wpAny_pyNext_list_end (I.ok.hd hc.calm) st p.isList (by simp; omega) λh' eb=>⟨rfl,I.turned (t':=s.toks) (λb o hb e=>eb b o hb e) f0 f1 f3 f4 f5⟩
 self:=λ_ _ _ _ _ st h=>wpAny_pyIter_listiter st h
theorem oV {P:Program}{w:World}{K:PySem.W.Frag}{tg:Expr}(it:Addr)(lo:Int)(n:Nat):Turn P w K true tg (Itr lo n) [it] it (λi h=>IsRangeIter h it (lo+(i:Nat)*1) ((n:Int)-(i:Nat)) 1) where
 mem:=by simp
 obj:=λi h st b hb=>by
   have e:b=it:=by simpa using hb
   subst e
   exact⟨_,st,λv z=>by
     have z':Data.fields _=Data.cell v:=z;cases z'⟩
 keep:=λi h h' st k=>k it (by simp) _ st
 item:=by
   intro X hP hw hK hc i pins s σ H E I hf st hg;subst hP hw hK;obtain⟨f0,f1,f2,f3,f4,f5⟩:=hf it (by simp);refine wpAny_pyNext_range_item st (by have:i<n:=hg; omega) λh' st0 sb=>?_
   have st':IsRangeIter h' it (lo+((i+1:Nat):Int)*1) ((n:Int)-((i+1:Nat):Int)) 1:=by
     have e1:lo+((i+1:Nat):Int)*1=lo+(i:Nat)*1+1:=by omega
     have e2:(n:Int)-((i+1:Nat):Int)=(n:Int)-(i:Nat)-1:=by omega
     rw[e1,e2]; exact st0
   have I1:Inv X pins σ H { s with heap:=h',toks:=s.toks+1 }:=I.turned (λb o hb e=>(sb.2 b hb).trans e) f0 f1 f3 f4 f5;refine⟨_,rfl,jM (s:={ s with heap:=h',toks:=s.toks+1 }) (n:="range_iterator") st' rfl rfl (by decide) ⟨.int (lo+i),H,I1,⟨s.toks,?_⟩,⟨rfl,rfl⟩,st',λb hb=>(hf b hb).1⟩⟩;rw[Int.mul_one]
 done:=by
   intro X hP hw hK hc i pins s σ H E I hf st hg;subst hP hw hK;obtain⟨f0,f1,f2,f3,f4,f5⟩:=hf it (by simp);rcases hc with hc | ⟨_,q,o,u,vs,e1,e2,e3,e4⟩
   . exact wpAny_pyNext_range_end (I.ok.hd hc) st (by have:n<=i:=hg; omega) λh' eb=>⟨rfl,I.turned (t':=s.toks) (λb o hb e=>eb b o hb e) f0 f1 f3 f4 f5⟩
   . have e5:=I.hok q _ (I.base.frzs q o u e2);exact Hx.pX e1 e5.1 e3 e4 st (by have:n<=i:=hg; omega) λh' eb=>⟨rfl,I.turned (t':=s.toks) (λb o hb e=>eb b o hb e) f0 f1 f3 f4 f5⟩
 self:=λ_ _ _ _ _ st h=>wpAny_pyIter_rangeiter st h
section
variable {X:Cx}{tg:Expr}
def Bi (K:PySem.W.Frag)(tl:TE):TI:=λσ H R=>tl σ H λx H1=>∃a,x=.ref a/\(∃xs,SqL K H1 a xs)/\R (Itl K a) H1
theorem wX {l:Expr}{tl:TE}(hc:X.calm=true)(hl:PE X l tl):PI X tg l (Bi X.K tl):=by
 intro pins s σ H R I h;refine thn (hl pins s σ H _ I h) λv s1 ⟨x,H1,I1,r1,q1⟩=>?_;obtain⟨a,e,⟨xs,hq⟩,q⟩:=q1;subst e;cases r1;obtain⟨its,rv,p,hz⟩:=I1.list hq;refine wpAny_pyIter_list p.isList ?_;refine⟨false,s1.heap.objs.size,[s1.heap.objs.size],_,_,H1,rfl,I1.kept (t':=s1.toks) λb o e=>Heap.get?_push_of_some _ e,.inl hc,si a _,⟨_,Heap.get?_push_size _ rfl,rfl,rfl⟩,λb hb=>?_,q⟩;have e:b=s1.heap.objs.size:=by simpa using hb
 subst e;exact I1.jX (Nat.le_refl _) (I1.hok.fresh (Nat.le_refl _))
theorem ny {pins:List (Addr×Obj)}{σ:St}{H:Hp}{s:Shared}{R:It->Hp->Prop}{E:Value->Shared->Prop}{lo hi:Int}{t u v:Tok}{tk:Nat}(hc:Ck true X)(I:Inv X pins σ H s)(h1:-(2^62)<=lo)(h2:lo<2^62)(h3:-(2^62)<=hi)(h4:hi<2^62)
   (q:R (Itr lo (hi-lo).toNat) H):wpAny (model X.prog X.w) X.A (pyIter (.ref s.heap.objs.size)) (PIE X pins σ tg R) E { s with heap:=s.heap.push { cls:=.type "range",data:=.fields #[.int lo t,.int hi u,.int 1 v] },toks:=tk }:=by
 refine wpAny_pyIter_range (IsRange.new ..) (small_one h1 h2 h3 h4) ?_;have I1:Inv X pins σ H { s with heap:=s.heap.push { cls:=.type "range",data:=.fields #[.int lo t,.int hi u,.int 1 v] },toks:=tk }:=I.kept λb o e=>Heap.get?_push_of_some _ e
 refine⟨true,(s.heap.push { cls:=.type "range",data:=.fields #[.int lo t,.int hi u,.int 1 v] }).objs.size,[(s.heap.push { cls:=.type "range",data:=.fields #[.int lo t,.int hi u,.int 1 v] }).objs.size],_,_,H,rfl,
   I1.kept (t':=tk) λb o e=>Heap.get?_push_of_some _ e,hc,oV _ lo (hi-lo).toNat,?_,λb hb=>?_,q⟩
 . have e1:lo+((0:Nat):Int)*1=lo:=by simp
   have e2:(((hi-lo).toNat:Nat):Int)-((0:Nat):Int)=Builtin.Range.rangeSize lo hi 1:=by rw[rangeSize_one]; split <;> omega
   show IsRangeIter _ _ (lo+((0:Nat):Int)*1) ((((hi-lo).toNat:Nat):Int)-((0:Nat):Int)) 1;rw[e1,e2];exact Heap.get?_push_size _ rfl
 . have e:b=(s.heap.push { cls:=.type "range",data:=.fields #[.int lo t,.int hi u,.int 1 v] }).objs.size:=by simpa using hb
   subst e;exact I1.jX (Nat.le_refl _) (I1.hok.fresh (Nat.le_refl _))
def CA (ta:TA):TI:=λσ H R=>ta σ H λvs H1=>∃j:Int,vs=[.int j]/\-(2^62)<=j/\j<2^62/\R (Itr 0 j.toNat) H1
def Co (ta:TA):TI:=λσ H R=>ta σ H λvs H1=>∃i j:Int,vs=[.int i,.int j]/\(-(2^62)<=i/\i<2^62/\-(2^62)<=j/\j<2^62)/\R (Itr i (j-i).toNat) H1
theorem sX {a:Expr}{ta:TA}{p pos:Pos}(hc:Ck true X)(hg:Gl X "range")(hm:X.mg "range" = none)(ha:PA X [a] ta)(hs:starEach [a] X.env=[(false,eval a X.env)]:=by rfl):PI X tg (.Call (.Name "range" p) [a] [] pos) (CA ta):=by
 intro pins s σ H R I h;refine Call_ (dN I hg hm boot_range (PyProof.Rows.callWith_type1 (thn (ha pos pins s σ H _ I h) λus s1 ⟨vs,H1,I1,r1,q1⟩=>?_) hs rfl));obtain⟨j,e,q1,q2,q⟩:=q1;subst e;cases r1 with
 | cons r rr=>cases rr;obtain⟨t,rfl⟩:=r;exact call_range_1 (ny hc I1 (by omega) (by omega) q1 q2 (by simpa using q))
theorem sN {a b:Expr}{ta:TA}{p pos:Pos}(hc:Ck true X)(hg:Gl X "range")(hm:X.mg "range" = none)(ha:PA X [a,b] ta)(hs:starEach [a,b] X.env=[(false,eval a X.env),(false,eval b X.env)]:=by rfl)(hs2:starEach [b] X.env=[(false,eval b X.env)]:=by rfl):
   PI X tg (.Call (.Name "range" p) [a,b] [] pos) (Co ta):=by
 intro pins s σ H R I h;refine Call_ (dN I hg hm boot_range (PyProof.Rows.callWith_type1 (thn (ha pos pins s σ H _ I h) λus s1 ⟨vs,H1,I1,r1,q1⟩=>?_) (by rw[hs,hs2]) (by rw[hs2]; rfl)));obtain⟨i,j,e,⟨q1,q2,q3,q4⟩,q⟩:=q1;subst e;cases r1 with
 | cons r rr=>
   cases rr with
   | cons r' rr=>cases rr;obtain⟨t,rfl⟩:=r;obtain⟨t',rfl⟩:=r';exact call_range_2 (ny hc I1 q1 q2 q3 q4 q)
def Dl (wi:TI)(g:TG)(tb:TS):TS:=λD σ H=>wi σ H λJ H1=>∃W:Nat->Nat->St->Hp->Prop,(∃m,W 0 m σ H1)/\∀i m σ H,W i m σ H ->
 (J.stop i H/\D.nx σ H)\/(J.go i H/\∃N:St->Hp->Prop,(∀σ' H',N σ' H'->∃m',m'<m/\W (i+1) m' σ' H')/\∀x H',J.yld i H x H'->g x σ H' λσ2 H2=>tb { D with nx:=N,ct:=N,bk:=D.nx } σ2 H2)
noncomputable def gh (fp:List Addr)(h:Heap):List (Addr×Obj):=fp.filterMap λb=>(h.get? b).map λo=>(b,o)
theorem cf {fp:List Addr}{h:Heap}{b:Addr}{o:Obj}(hb:b∈fp)(e:h.get? b=some o):(b,o)∈gh fp h:=List.mem_filterMap.mpr ⟨b,hb,by rw[e]; rfl⟩
theorem sJ {fp:List Addr}{h:Heap}{p:Addr×Obj}(hp:p∈gh fp h):p.1∈fp/\h.get? p.1=some p.2:=by
 obtain⟨b,hb,e⟩:=List.mem_filterMap.mp hp;cases q:h.get? b with
 | none=>rw[q]at e; cases e
 | some o=>rw[q]at e;have e':(b,o)=p:=Option.some.inj e;subst e';exact⟨hb,q⟩
theorem Inv.pinned {pins:List (Addr×Obj)}{σ:St}{H:Hp}{s:Shared}{fp:List Addr}(I:Inv X pins σ H s)(hf:∀b∈fp,ku X pins H b)(ho:∀b∈fp,∃o,s.heap.get? b=some o/\∀v,o.data≠.cell v):Inv X (pins++gh fp s.heap) σ H s:=I.rb λp hp=>(List.mem_append.mp hp).elim (λz=>I.pin p (List.mem_append_right _ z)) λz=>by obtain⟨hb,e⟩:=sJ z;obtain⟨f0,f1,f2,_⟩:=hf p.1 hb;obtain⟨o,e',d⟩:=ho p.1 hb;rw[e]at e'; cases e';exact⟨e,f0,f1,f2,d⟩
theorem Inv.dX {pins pl:List (Addr×Obj)}{σ:St}{H:Hp}{s:Shared}(I:Inv X (pins++pl) σ H s):Inv X pins σ H s:=I.rb λp hp=>I.pin p (List.mem_append_right _ (List.mem_append_left _ hp))
theorem vJ {iter:Expr}{body:List Stmt}{wi:TI}{g:TG}{tb:TS}{pos:Pos}(hp:PassesOwn (model X.prog X.w) X.A X.env X.xe)(hi:PI X tg iter wi)(hg:PG X tg g)(hb:PSs X body tb)
   (hs:∀x,foldedSetIterable iter X.env x=pure x:=by intro _; rfl):PS X (.For tg iter body [] pos) (Dl wi g tb):=by
 intro pins s σ H D I h;refine wpAny_For (thn (hi pins s σ H _ I h) λv s1 h1=>thn h1 λitv s2 h2=>?_) hs;obtain⟨kd,it,fp,tn,J,H2,e,I2,hc,T,st2,f2,W,⟨m0,w0⟩,turn⟩:=h2;subst e;have stat:∀{H':Hp},(∀b∈fp,H' b=none)->∀b∈fp,ku X pins H' b:=λhn b hb=>⟨hn b hb,(f2 b hb).2⟩;refine codeAny_forLoop_any (λn s'=>∃i σ' H',Inv X pins σ' H' s'/\tn i s'.heap/\(∀b∈fp,H' b=none)/\W i n σ' H') ?_ m0 ⟨0,σ,H2,I2,st2,λb hb=>(f2 b hb).1,w0⟩;rintro n s3 ⟨i,σ3,H3,I3,st3,fr3,w3⟩;rcases turn i n σ3 H3 w3 with ⟨stop,qn⟩ | ⟨go,N,hN,step⟩
 . refine wpAny_passesOwn hp (thn (T.done X rfl rfl rfl hc i pins s3 σ3 H3 X.xe I3 (stat fr3) st3 stop) λr s4 ⟨hr,I4⟩=>?_);subst hr;exact wpAny_execs_nil ⟨σ3,H3,I4,qn⟩
 . refine wpAny_passesOwn hp (thn (T.item X rfl rfl rfl hc i pins s3 σ3 H3 X.xe I3 (stat fr3) st3 go) λr s4 ⟨u,hr,h4⟩=>?_);subst hr;refine wpAny_passesOwn hp (thn h4 λ_ s5 ⟨x,H5,I5,r5,y5,st5,fr5⟩=>?_);have I5':=I5.pinned (stat fr5) (T.obj _ _ st5);refine wpAny_passesOwn hp (thn (hg _ s5 σ3 H5 x u _ I5' r5 (step x H5 y5)) λ_ s6 ⟨σ6,H6,I6,q6⟩=>?_);refine wpAny_passesOwn hp (thn (hb _ s6 σ6 H6 _ I6 q6) λf s7 q7=>?_);have again:∀{σ7:St} {H7:Hp},Inv X (pins++gh fp s5.heap) σ7 H7 s7->N σ7 H7->∃m,m<n/\∃i σ' H',Inv X pins σ' H' s7/\tn i s7.heap/\(∀b∈fp,H' b=none)/\W i m σ' H':=λ{σ7 H7} I7 n7=>by obtain⟨m',hm,w7⟩:=hN σ7 H7 n7;refine⟨m',hm,i+1,σ7,H7,I7.dX,T.keep _ _ _ st5 λb hb o e=>(I7.pin (b,o) (List.mem_append_right _ (List.mem_append_right _ (cf hb e)))).1,λb hb=>?_,w7⟩;obtain⟨o,e,d⟩:=T.obj _ _ st5 b hb;exact(I7.pin (b,o) (List.mem_append_right _ (List.mem_append_right _ (cf hb e)))).2.1
   cases f with
   | next=>obtain⟨σ7,H7,I7,n7⟩:=q7; exact again I7 n7
   | cont=>obtain⟨σ7,H7,I7,n7⟩:=q7; exact again I7 n7
   | brk=>obtain⟨σ7,H7,I7,q7⟩:=q7; exact⟨σ7,H7,I7.dX,q7⟩
   | ret v=>obtain⟨x7,σ7,H7,I7,r7,q7⟩:=q7; exact⟨x7,σ7,H7,I7.dX,r7,q7⟩
end
noncomputable abbrev R2:=V->V->Hp->VK->Prop
def OpR (X:Cx)(f:Value->Value->Sem Value)(r:R2):Prop:=
 ∀(pins:List (Addr×Obj)) (s:Shared) (σ:St) (H:Hp) (x y:V) (v u:Value) (Q:VK),Inv X pins σ H s->RelV x v->RelV y u->r x y H Q ->
   wpAny (model X.prog X.w) X.A (f v u) (EP X pins σ Q) X.xe s
def UnR (X:Cx)(f:Value->Sem Value)(r:V->Hp->VK->Prop):Prop:=
 ∀(pins:List (Addr×Obj)) (s:Shared) (σ:St) (H:Hp) (x:V) (v:Value) (Q:VK),Inv X pins σ H s->RelV x v->r x H Q ->
   wpAny (model X.prog X.w) X.A (f v) (EP X pins σ Q) X.xe s
def eQ (X:Cx)(f:Value)(r:List V->Hp->VK->Prop):Prop:=
 ∀(pins:List (Addr×Obj)) (s:Shared) (σ:St) (H:Hp) (xs:List V) (us:List Value) (Q:VK),Inv X pins σ H s->Vals xs us->r xs H Q ->
   wpAny (model X.prog X.w) X.A (call f us) (EP X pins σ Q) X.xe s
def tOp (r:R2)(ta tb:TE):TE:=λσ H Q=>ta σ H λx H1=>tb σ H1 λy H2=>r x y H2 Q
def tUn (r:V->Hp->VK->Prop)(ta:TE):TE:=λσ H Q=>ta σ H λx H1=>r x H1 Q
noncomputable def rI (C:Int->Int->Prop)(g:Int->Int->V):R2:=λx y H Q=>∃i j,x=.int i/\y=.int j/\C i j/\Q (g i j) H
noncomputable def rI0 (g:Int->Int->V):R2:=λx y H Q=>∃i j,x=.int i/\y=.int j/\Q (g i j) H
noncomputable def rU (g:Int->V):V->Hp->VK->Prop:=λx H Q=>∃i,x=.int i/\Q (g i) H
section
variable {X:Cx}{a b:Expr}{ta tb:TE}{pos:Pos}
theorem yZ (ha:PE X a ta)(hb:PE X b tb){pins:List (Addr×Obj)}{s:Shared}{σ:St}{H:Hp}{R:V->V->Hp->Prop}(I:Inv X pins σ H s)
   (h:ta σ H λx H1=>tb σ H1 λy H2=>R x y H2) {Q:Value->Shared->Prop} {f:Value->Value->Sem Value}
   (hf:∀v u s2 x y H2,Inv X pins σ H2 s2->RelV x v->RelV y u->R x y H2->wpAny (model X.prog X.w) X.A (f v u) Q X.xe s2) :
   wpAny (model X.prog X.w) X.A (eval a X.env) (λv s₁=>wpAny (model X.prog X.w) X.A (eval b X.env) (λu s₂=>wpAny (model X.prog X.w) X.A (f v u) Q X.xe s₂) X.xe s₁) X.xe s:=by
 refine thn (ha pins s σ H _ I h) λv s1 ⟨x,H1,I1,r1,q1⟩=>?_;refine thn (hb pins s1 σ H1 _ I1 q1) λu s2 ⟨y,H2,I2,r2,q2⟩=>?_;exact hf v u s2 x y H2 I2 r1 r2 q2
theorem vA {op:Operator}{r:R2}(ho:OpR X (binaryOp op) r)(ha:PE X a ta)(hb:PE X b tb):PE X (.BinOp a op b pos) (tOp r ta tb):=by intro pins s σ H Q I h;exact wpAny_BinOp (yZ ha hb I h λv u s2 x y H2 I2 rx ry q=>ho pins s2 σ H2 x y v u Q I2 rx ry q)
theorem BD {op:UnaryOp}{r:V->Hp->VK->Prop}(ho:UnR X (unaryOp op) r)(ha:PE X a ta):PE X (.UnaryOp op a pos) (tUn r ta):=by intro pins s σ H Q I h;exact UnaryOp_ (thn (ha pins s σ H _ I h) λv s1 ⟨x,H1,I1,r1,q1⟩=>ho pins s1 σ H1 x v Q I1 r1 q1)
theorem opI {f:Value->Value->Sem Value}{C:Int->Int->Prop}{g:Int->Int->Int}
   (rule:∀(i j:Int) (t u:Tok) (s:Shared) (Q:Value->Shared->Prop) (E:Value->Shared->Prop),C i j->Q (.int (g i j) s.toks) { s with toks:=s.toks+1 }->wpAny (model X.prog X.w) X.A (f (.int i t) (.int j u)) Q E s) :
   OpR X f (rI C λi j=>.int (g i j)):=by
 intro pins s σ H x y v u Q I rx ry h;obtain⟨i,j,rfl,rfl,hc,q⟩:=h;obtain⟨t,rfl⟩:=rx;obtain⟨t',rfl⟩:=ry;exact rule i j t t' s _ _ hc ⟨.int (g i j),H,I.tok _,⟨_,rfl⟩,q⟩
theorem wm {f:Value->Value->Sem Value}{g:Int->Int->Int}
   (rule:∀(i j:Int) (t u:Tok) (s:Shared) (Q:Value->Shared->Prop) (E:Value->Shared->Prop),Q (.int (g i j) s.toks) { s with toks:=s.toks+1 }->wpAny (model X.prog X.w) X.A (f (.int i t) (.int j u)) Q E s) :
   OpR X f (rI0 λi j=>.int (g i j)):=by
 intro pins s σ H x y v u Q I rx ry h;obtain⟨i,j,rfl,rfl,q⟩:=h;obtain⟨t,rfl⟩:=rx;obtain⟨t',rfl⟩:=ry;exact rule i j t t' s _ _ ⟨.int (g i j),H,I.tok _,⟨_,rfl⟩,q⟩
theorem wd {f:Value->Value->Sem Value}{g:Int->Int->Bool}
   (rule:∀(i j:Int) (t u:Tok) (s:Shared) (Q:Value->Shared->Prop) (E:Value->Shared->Prop),Q (.bool (g i j)) s->wpAny (model X.prog X.w) X.A (f (.int i t) (.int j u)) Q E s) :
   OpR X f (rI0 λi j=>.bl (g i j)):=by
 intro pins s σ H x y v u Q I rx ry h;obtain⟨i,j,rfl,rfl,q⟩:=h;obtain⟨t,rfl⟩:=rx;obtain⟨t',rfl⟩:=ry;exact rule i j t t' s _ _ ⟨.bl (g i j),H,I,rfl,q⟩
def wN (i j:Int):Prop:=0<=j/\j<=1000000/\i.natAbs<2^64
theorem pO (k:Nat):(0:Int)<=2^k:=by rw[two_pow_cast];exact Int.natCast_nonneg _
theorem AZ:OpR X (binaryOp .Add) (rI0 λi j=>.int (i+j)):=wm λ_ _ _ _ _ _ _ q=>add_int q
theorem A5:OpR X (binaryOp .Sub) (rI0 λi j=>.int (i-j)):=wm λ_ _ _ _ _ _ _ q=>sub_int q
theorem xN:OpR X (binaryOp .Mod) (rI (λ_ j=>j≠0) λi j=>.int (i.fmod j)):=opI λ_ _ _ _ _ _ _ hc q=>mod_int' hc q
theorem Ax:OpR X (binaryOp .Pow) (rI wN λi j=>.int (i^j.toNat)):=opI λ_ _ _ _ _ _ _ hc q=>pow_int_small hc.1 hc.2.1 hc.2.2 q
theorem zy:OpR X (binaryOp .LShift) (rI wN λi j=>.int (i*2^j.toNat)):=opI λ_ _ _ _ _ _ _ hc q=>lshift_int_small hc.1 hc.2.1 hc.2.2 q
theorem zG:OpR X (binaryOp .RShift) (rI (λ_ j=>0<=j) λi j=>.int (i/2^j.toNat)):=opI λi j _ _ _ _ _ hc q=>rshift_int hc (by rw[Int.fdiv_eq_ediv_of_nonneg i (pO _)]; exact q)
theorem Ak:OpR X (binaryOp .BitAnd) (rI0 λi j=>.int (Builtin.bitAnd i j)):=wm λ_ _ _ _ _ _ _ q=>and_int q
theorem BJ:OpR X (binaryOp .BitOr) (rI0 λi j=>.int (Builtin.bitOr i j)):=wm λ_ _ _ _ _ _ _ q=>or_int q
theorem unI {f:Value->Sem Value}{g:Int->Int}
   (rule:∀(i:Int) (t:Tok) (s:Shared) (Q:Value->Shared->Prop) (E:Value->Shared->Prop),Q (.int (g i) s.toks) { s with toks:=s.toks+1 }->wpAny (model X.prog X.w) X.A (f (.int i t)) Q E s) :
   UnR X f (rU λi=>.int (g i)):=by
 intro pins s σ H x v Q I rx h;obtain⟨i,rfl,q⟩:=h;obtain⟨t,rfl⟩:=rx;exact rule i t s _ _ ⟨.int (g i),H,I.tok _,⟨_,rfl⟩,q⟩
theorem zr:UnR X (unaryOp .USub) (rU λi=>.int (-i)):=unI λ_ _ _ _ _ q=>neg_int q
end
noncomputable def Cp:V->V->Bool
 | .non,.non=>true | .non,.int _=>true | .int _,.non=>true | .non,.bl _=>true | .bl _,.non=>true | .non,.str _=>true | .str _,.non=>true
 | .int _,.int _=>true | .bl _,.bl _=>true | .str _,.str _=>true | .byt _,.byt _=>true
 | .int _,.str _=>true | .str _,.int _=>true | .bl _,.str _=>true | .str _,.bl _=>true
 | _,_=>false
noncomputable def rEq:R2:=λx y H Q=>Cp x y=true/\Q (.bl (decide (x=y))) H
noncomputable def rNe:R2:=λx y H Q=>Cp x y=true/\Q (.bl (!decide (x=y))) H
theorem rR {i j:Int}:decide (V.int i=V.int j)=(i==j):=by rw[Bool.eq_iff_iff];simp
theorem tW {i j:Bool}:decide (V.bl i=V.bl j)=(i==j):=by rw[Bool.eq_iff_iff];simp
theorem rP {i j:Str}:decide (V.str i=V.str j)=(i==j):=by rw[Bool.eq_iff_iff];simp
theorem qZ {i j:Array UInt8}:decide (V.byt i=V.byt j)=(i.toList==j.toList):=by rw[Bool.eq_iff_iff];cases i;cases j;simp
section
variable {X:Cx}{a b c:Expr}{ta tb tc:TE}{pos:Pos}
theorem aV {pins:List (Addr×Obj)}{σ:St}{H:Hp}{s:Shared}{Q:VK}{k k':Bool}(I:Inv X pins σ H s)(q:Q (.bl k) H)(e:k=k'):EP X pins σ Q (.bool k') s:=by subst e;exact⟨.bl k,H,I,rfl,q⟩
theorem B4:OpR X (compareOp .Eq) rEq:=by
 intro pins s σ H x y v u Q I rx ry h;obtain⟨hs,q⟩:=h;cases x with
 | non=>
   cases rx;cases y with
   | non=>cases ry; exact PySem.EqNone.eq_none_none (aV I q (by simp))
   | bl j=>cases ry; exact PySem.EqNone.eq_none_bool (aV I q (by simp))
   | int j=>obtain⟨t',rfl⟩:=ry; exact PySem.EqNone.eq_none_int (aV I q (by simp))
   | str j=>obtain⟨t',rfl⟩:=ry; exact PySem.EqNone.eq_none_str (aV I q (by simp))
   | _=>exact absurd (show false=true from hs) Bool.false_ne_true
 | bl i=>
   cases rx;cases y with
   | non=>cases ry; exact PySem.EqNone.eq_bool_none (aV I q (by simp))
   | bl j=>cases ry; exact eq_bool (aV I q tW)
   | str j=>obtain⟨t',rfl⟩:=ry; exact PySem.EqMixed.eq_bool_str (aV I q (by simp))
   | _=>exact absurd (show false=true from hs) Bool.false_ne_true
 | int i=>
   obtain⟨t,rfl⟩:=rx;cases y with
   | non=>cases ry; exact PySem.EqNone.eq_int_none (aV I q (by simp))
   | int j=>obtain⟨t',rfl⟩:=ry; exact eq_int (aV I q rR)
   | str j=>obtain⟨t',rfl⟩:=ry; exact PySem.EqMixed.eq_int_str (aV I q (by simp))
   | _=>exact absurd (show false=true from hs) Bool.false_ne_true
 | str i=>
   obtain⟨t,rfl⟩:=rx;cases y with
   | non=>cases ry; exact PySem.EqNone.eq_str_none (aV I q (by simp))
   | bl j=>cases ry; exact PySem.EqMixed.eq_str_bool (aV I q (by simp))
   | int j=>obtain⟨t',rfl⟩:=ry; exact PySem.EqMixed.eq_str_int (aV I q (by simp))
   | str j=>obtain⟨t',rfl⟩:=ry; exact eq_str (aV I q rP)
   | _=>exact absurd (show false=true from hs) Bool.false_ne_true
 | byt i=>
   obtain⟨t,rfl⟩:=rx;cases y with
   | byt j=>obtain⟨t',rfl⟩:=ry; exact PySem.W.eq_bytes (aV I q qZ)
   | _=>exact absurd (show false=true from hs) Bool.false_ne_true
 | _=>cases y <;> exact absurd (show false=true from hs) Bool.false_ne_true
theorem BQ:OpR X (compareOp .NotEq) rNe:=by
 intro pins s σ H x y v u Q I rx ry h;obtain⟨hs,q⟩:=h;cases x with
 | non=>
   cases rx;cases y with
   | non=>cases ry; exact PySem.EqNone.ne_none_none (aV I q (by simp))
   | bl j=>cases ry; exact PySem.EqNone.ne_none_bool (aV I q (by simp))
   | int j=>obtain⟨t',rfl⟩:=ry; exact PySem.EqNone.ne_none_int (aV I q (by simp))
   | str j=>obtain⟨t',rfl⟩:=ry; exact PySem.EqNone.ne_none_str (aV I q (by simp))
   | _=>exact absurd (show false=true from hs) Bool.false_ne_true
 | bl i=>
   cases rx;cases y with
   | non=>cases ry; exact PySem.EqNone.ne_bool_none (aV I q (by simp))
   | bl j=>cases ry; exact ne_bool (aV I q (congrArg not tW))
   | str j=>obtain⟨t',rfl⟩:=ry; exact PySem.EqMixed.ne_bool_str (aV I q (by simp))
   | _=>exact absurd (show false=true from hs) Bool.false_ne_true
 | int i=>
   obtain⟨t,rfl⟩:=rx;cases y with
   | non=>cases ry; exact PySem.EqNone.ne_int_none (aV I q (by simp))
   | int j=>obtain⟨t',rfl⟩:=ry; exact ne_int (aV I q (congrArg not rR))
   | str j=>obtain⟨t',rfl⟩:=ry; exact PySem.EqMixed.ne_int_str (aV I q (by simp))
   | _=>exact absurd (show false=true from hs) Bool.false_ne_true
 | str i=>
   obtain⟨t,rfl⟩:=rx;cases y with
   | non=>cases ry; exact PySem.EqNone.ne_str_none (aV I q (by simp))
   | bl j=>cases ry; exact PySem.EqMixed.ne_str_bool (aV I q (by simp))
   | int j=>obtain⟨t',rfl⟩:=ry; exact PySem.EqMixed.ne_str_int (aV I q (by simp))
   | str j=>obtain⟨t',rfl⟩:=ry; exact ne_str (aV I q (congrArg not rP))
   | _=>exact absurd (show false=true from hs) Bool.false_ne_true
 | byt i=>
   obtain⟨t,rfl⟩:=rx;cases y with
   | byt j=>obtain⟨t',rfl⟩:=ry; exact PySem.W.ne_bytes (aV I q (congrArg not qZ))
   | _=>exact absurd (show false=true from hs) Bool.false_ne_true
 | _=>cases y <;> exact absurd (show false=true from hs) Bool.false_ne_true
theorem Ci:OpR X (compareOp .Lt) (rI0 λi j=>.bl (decide (i<j))):=wd λ_ _ _ _ _ _ _ q=>lt_int q
theorem Cj:OpR X (compareOp .LtE) (rI0 λi j=>.bl (decide (i<=j))):=wd λ_ _ _ _ _ _ _ q=>le_int q
theorem CK:OpR X (compareOp .Gt) (rI0 λi j=>.bl (decide (j<i))):=wd λ_ _ _ _ _ _ _ q=>gt_int q
theorem BR:OpR X (compareOp .GtE) (rI0 λi j=>.bl (decide (j<=i))):=wd λ_ _ _ _ _ _ _ q=>ge_int q
theorem AR:OpR X (compareOp .Is) (λx y H Q=>y=.non/\Q (.bl (decide (x=.non))) H):=by
 intro pins s σ H x y v u Q I rx ry h;obtain⟨rfl,q⟩:=h;cases ry;refine is_none_gen (aV I q ?_)
 cases x <;> first
   | (cases rx; rfl)
   | (obtain⟨t,rfl⟩:=rx; rfl)
theorem v7 (b:Expr){op:CmpOp}(h:op≠.In:=by decide)(h2:op≠.NotIn:=by decide):behindInMarks op b=false:=by
 have e1:(op==CmpOp.In)=false:=by cases op <;> first | rfl | exact absurd rfl h
 have e2:(op==CmpOp.NotIn)=false:=by cases op <;> first | rfl | exact absurd rfl h2
 cases b <;> simp[behindInMarks,e1,e2]
theorem xk {op:CmpOp}{r:R2}(ho:OpR X (compareOp op) r)(ha:PE X a ta)(hb:PE X b tb)(hm:behindInMarks op b=false):PE X (.Compare a [op] [b] pos) (tOp r ta tb):=by intro pins s σ H Q I h;exact wpAny_Compare1 (yZ ha hb I h λv u s2 x y H2 I2 rx ry q=>ho pins s2 σ H2 x y v u Q I2 rx ry q) hm
def yK (t:TE):TT:=λσ H Q=>t σ H λx H'=>∃k,x=.bl k/\Q k H'
theorem wD {op:CmpOp}{r:R2}(ho:OpR X (compareOp op) r)(ha:PE X a ta)(hb:PE X b tb)(hm:behindInMarks op b=false):PT X (.Compare a [op] [b] pos) (yK (tOp r ta tb)):=by
 intro pins s σ H Q I h
 refine wpAny_isTrue_Compare1 (thn (ha pins s σ H _ I h) λv s1 ⟨x,H1,I1,r1,q1⟩=>thn (hb pins s1 σ H1 _ I1 q1) λu s2 ⟨y,H2,I2,r2,q2⟩=>
   thn (ho pins s2 σ H2 x y v u _ I2 r1 r2 q2) λc s3 ⟨z,H3,I3,r3,k,e,q3⟩=>?_) hm
 subst e;cases r3;exact wpAny_truthy_bool ⟨H3,I3,q3⟩
def qh (r r':R2)(ta tb tc:TE):TE:=λσ H Q=>ta σ H λx H1=>tb σ H1 λy H2=>r x y H2 λz H3=>∃k,z=.bl k /\
 (if k=true then tc σ H3 λw' H4=>r' y w' H4 Q else Q (.bl false) H3)
theorem tY {op op':CmpOp}{r r':R2}(ho:OpR X (compareOp op) r)(ho':OpR X (compareOp op') r')(ha:PE X a ta)(hb:PE X b tb)(hc:PE X c tc)
   (hm:lastMarks [op,op'] [b,c]=false:=by with_unfolding_all rfl):PE X (.Compare a [op,op'] [b,c] pos) (qh r r' ta tb tc):=by
 intro pins s σ H Q I h
 refine Compare_chain (thn (ha pins s σ H _ I h) λv s1 ⟨x,H1,I1,r1,q1⟩=>chain_link (thn (hb pins s1 σ H1 _ I1 q1) λu s2 ⟨y,H2,I2,r2,q2⟩=>
   thn (ho pins s2 σ H2 x y v u _ I2 r1 r2 q2) λd s3 ⟨z,H3,I3,r3,k,e,q3⟩=>?_)) hm
 subst e;cases r3;refine wpAny_truthy_bool ?_;cases k with
 | false=>exact ite_ff ⟨.bl false,H3,I3,rfl,q3⟩
 | true=>exact ite_tt (chain_last (thn (hc pins s3 σ H3 _ I3 q3) λw' s4 ⟨z',H4,I4,r4,q4⟩=>ho' pins s4 σ H4 y z' u w' Q I4 r2 r4 q4))
theorem tR {op op':CmpOp}{r r':R2}(ho:OpR X (compareOp op) r)(ho':OpR X (compareOp op') r')(ha:PE X a ta)(hb:PE X b tb)(hc:PE X c tc)
   (hm:lastMarks [op,op'] [b,c]=false:=by with_unfolding_all rfl):PT X (.Compare a [op,op'] [b,c] pos) (yK (qh r r' ta tb tc)):=by
 intro pins s σ H Q I h
 refine isTrue_chain (thn (ha pins s σ H _ I h) λv s1 ⟨x,H1,I1,r1,q1⟩=>test_link (thn (hb pins s1 σ H1 _ I1 q1) λu s2 ⟨y,H2,I2,r2,q2⟩=>
   thn (ho pins s2 σ H2 x y v u _ I2 r1 r2 q2) λd s3 ⟨z,H3,I3,r3,k,e,q3⟩=>?_)) hm
 subst e;cases r3;refine wpAny_truthy_bool ?_;cases k with
 | false=>obtain⟨k',e',q'⟩:=q3;cases e';exact ite_ff ⟨H3,I3,q'⟩
 | true=>refine ite_tt (test_last (thn (hc pins s3 σ H3 _ I3 q3) λw' s4 ⟨z',H4,I4,r4,q4⟩=>thn (ho' pins s4 σ H4 y z' u w' _ I4 r2 r4 q4) λd' s5 ⟨z2,H5,I5,r5,k2,e2,q5⟩=>?_));subst e2;cases r5;exact wpAny_truthy_bool ⟨H5,I5,q5⟩
theorem mR:(sizeLine:Nat)<2^63:=by rw[sizeLine_eq]; decide
theorem vals1 {x:V}{us:List Value}(r:Vals [x] us):∃u,us=[u]/\RelV x u:=by
 cases r with
 | cons r1 r2=>cases r2; exact⟨_,rfl,r1⟩
theorem vals2 {x y:V}{us:List Value}(r:Vals [x,y] us):∃u w',us=[u,w']/\RelV x u/\RelV y w':=by
 cases r with
 | cons r1 r2=>
   cases r2 with
   | cons r3 r4=>cases r4; exact⟨_,_,rfl,r1,r3⟩
theorem vY:eQ X (.builtin "abs") (λxs H Q=>∃i,xs=[.int i]/\Q (.int (if i<0 then -i else i)) H):=by intro pins s σ H xs us Q I r h;obtain⟨i,rfl,q⟩:=h;obtain⟨u,rfl,t,rfl⟩:=vals1 r;exact call_abs_int λu tk=>⟨.int (if i<0 then -i else i),H,I.tok _,⟨_,rfl⟩,q⟩
theorem sI (hc:X.calm=true):eQ X (.builtin "min") (λxs H Q=>∃i j,xs=[.int i,.int j]/\Q (.int (if j<i then j else i)) H):=by
 intro pins s σ H xs us Q I r h;obtain⟨i,j,rfl,q⟩:=h;obtain⟨u,w',rfl,⟨t,rfl⟩,⟨t',rfl⟩⟩:=vals2 r;refine min_two_ints (I.ok.hd hc) λh' tk k=>⟨_,H,I.kept k,?_,q⟩;by_cases hj:j<i
 . rw[if_pos hj,if_pos hj]; exact⟨_,rfl⟩
 . rw[if_neg hj,if_neg hj]; exact⟨_,rfl⟩
theorem sx:eQ X (.type "int") (λxs H Q=>(∃i,xs=[.int i]/\Q (.int i) H)\/∃k,xs=[.bl k]/\Q (.int (if k then 1 else 0)) H):=by
 intro pins s σ H xs us Q I r h;rcases h with ⟨i,rfl,q⟩ | ⟨k,rfl,q⟩
 . obtain⟨u,rfl,t,rfl⟩:=vals1 r;exact call_int_int ⟨.int i,H,I,⟨_,rfl⟩,q⟩
 . obtain⟨u,rfl,r1⟩:=vals1 r;cases r1;exact call_int_bool ⟨.int (if k then 1 else 0),H,I.tok _,⟨_,rfl⟩,q⟩
end
theorem oN.some_of {v:V}{o:Option Value}(r:oN (some v) o):∃u,o=some u/\RelV v u:=by
 cases o with
 | none=>exact(show False from r).elim
 | some u=>exact⟨u,rfl,r⟩
structure e7 (k:Nat)(A:Around):Prop where
 hd:A.handled=none
 dp:A.depth+3*k+5<recursionLimit
 un:A.units+16*k+200<cLine
theorem e7.mono {j k:Nat}{A:Around}(r:e7 k A)(h:j<=k):e7 j A:=⟨r.hd,by have:=r.dp; omega,by have:=r.un; omega⟩
theorem e7.deeper {k:Nat}{A:Around}(r:e7 (k+1) A)(env:Env):e7 k (A.deeper env):=⟨r.hd,by have:=r.dp; show A.depth+1+3*k+5<_; omega,by have:=r.un; show A.units+3+16*k+200<_; omega⟩
theorem e7.depth {k:Nat}{A:Around}(r:e7 k A):A.depth<recursionLimit:=by have:=r.dp; omega
theorem e7.units {k:Nat}{A:Around}(r:e7 k A):A.units+64<cLine:=by have:=r.un; omega
def CT:TA:=λ_ H Q=>Q [] H
def Bs (ta:TE)(tr:TA):TA:=λσ H Q=>ta σ H λx H1=>tr σ H1 λxs H2=>Q (x::xs) H2
section
variable {X:Cx}{e:Expr}{es:List Expr}{te:TE}{t:TA}{pos:Pos}
theorem eO:PA X [] CT:=λ_ _ _ _ H Q I h=>Calls.spliced_nil ⟨[],H,I,.nil,h⟩
theorem b7 (ha:PE X e te)(hr:PA X es t)(hs:starEach (e::es) X.env=(false,eval e X.env)::starEach es X.env:=by rfl):PA X (e::es) (Bs te t):=by intro pos pins s σ H Q I h;rw[hs];show wpAny _ _ (spliced ((false,eval e X.env)::backTo pos (starEach es X.env))) _ _ s;refine Calls.spliced_cons (thn (ha pins s σ H _ I h) λu s1 ⟨x,H1,I1,r1,q1⟩=>?_);exact thn (hr pos pins s1 σ H1 _ I1 q1) λus s2 ⟨xs,H2,I2,r2,q2⟩=>⟨x::xs,H2,I2,.cons r1 r2,q2⟩
def CO (t:TA):TE:=λσ H Q=>t σ H λxs H1=>xs.length<=sizeLine/\∀p,H1 p=none->Q (.ref p) (upd H1 p (.tup xs))
def CQ (t:TA):TE:=λσ H Q=>t σ H λxs H1=>xs.length<=sizeLine/\∀p,H1 p=none->Q (.ref p) (upd H1 p (.lst xs))
theorem tP {x1}(h:PA X es t):PE X (.Tuple es x1 pos) (CO t):=by intro pins s σ H Q I hq;refine wpAny_Tuple_spliced (thn (h pos pins s σ H _ I hq) λus s1 ⟨xs,H1,I1,r,z,q⟩=>⟨by rw[<- r.length]; exact z,?_⟩);have hf:H1 s1.heap.objs.size=none:=I1.hok.fresh (Nat.le_refl _);refine⟨.ref s1.heap.objs.size,upd H1 s1.heap.objs.size (.tup xs),I1.laid (t':=s1.toks) (λb u e=>Heap.get?_push_of_some _ e) (Nat.le_refl _) ?_,rfl,q _ hf⟩;exact⟨z,us,r,⟨_,Heap.get?_push_size _ rfl,rfl,_,rfl⟩⟩
theorem uI (h:PA X es t):PE X (.List es pos) (CQ t):=by intro pins s σ H Q I hq;refine wpAny_List_spliced (thn (h pos pins s σ H _ I hq) λus s1 ⟨xs,H1,I1,r,z,q⟩=>⟨by rw[<- r.length]; exact z,?_⟩);have hf:H1 s1.heap.objs.size=none:=I1.hok.fresh (Nat.le_refl _);refine⟨.ref s1.heap.objs.size,upd H1 s1.heap.objs.size (.lst xs),I1.laid (t':=s1.toks) (λb u e=>Heap.get?_push_of_some _ e) (Nat.le_refl _) ?_,rfl,q _ hf⟩;exact⟨z,us,0,r,Heap.get?_push_size _ rfl⟩
end
noncomputable abbrev Sp:=List V->Hp->VK->XK->Prop
noncomputable abbrev CXT:=List Env->Hp->Shared->XK->Value->Shared->Prop
structure xi (P:Program)(w:World)(K:PySem.W.Frag)(mg:Str->Option Value)(base:Heap)(A:Around)(outer:List Env)(s:Shared)(H:Hp):Prop where
 frames:A.frames=some outer
 mod:Mod K mg base
 bs:∀b o,base.get? b=some o->s.heap.get? b=some o/\H b=none
 bsz:base.objs.size<=s.heap.objs.size
 jL:s.heap.FunFrames base outer
 frf:∀b∈frs outer,H b=none
 hok:HOk P w H s.heap
 bare:AllBare s.gens
def CE (outer:List Env)(P:Program)(w:World)(H:Hp)(s:Shared)(Q:VK)(u:Value)(s':Shared):Prop:=∃v H',s'.os=s.os/\AllBare s'.gens/\Un (frs outer) [] H H' s.heap s'.heap/\HOk P w H' s'.heap/\RelV v u/\Q v H'
def CR (CX:CXT)(outer:List Env)(P:Program)(w:World)(H:Hp)(s:Shared)(Q:VK)(E:XK)(r:Result)(s':Shared):Prop:=
 match r with
 | .ok (.ret u)=>CE outer P w H s Q u s'
 | .ok _=>False
 | .error e=>CX outer H s E e s'
structure a4 (P:Program)(w:World)(K:PySem.W.Frag)(mg:Str->Option Value)(base:Heap)(CX:CXT)(k:Nat)(f:Addr)(fd:FuncData)(ps:List Str)(sp:Sp):Prop where
 len:∀vs H Q E,sp vs H Q E->vs.length=ps.length
 run:∀(A:Around) (outer:List Env) (s:Shared) (H:Hp) (args:Args) (us:List Value) (vs:List V) (Q:VK) (E:XK),e7 k A->xi P w K mg base A outer s H->BindsTo s fd args (ps.zip us)->Vals vs us->sp vs H Q E ->
   codeAny (model P w) A (.call (.ref f) args) (CR CX outer P w H s Q E) s
theorem a4.mono {P:Program}{w:World}{K:PySem.W.Frag}{mg:Str->Option Value}{base:Heap}{CX:CXT}{j k:Nat}{f:Addr}{fd:FuncData}{ps:List Str}{sp:Sp}(F:a4 P w K mg base CX j f fd ps sp)(h:j<=k):
   a4 P w K mg base CX k f fd ps sp:=⟨F.len,λA outer s H args us vs Q E hr=>F.run A outer s H args us vs Q E (hr.mono h)⟩
section
variable {X:Cx}{pins:List (Addr×Obj)}{σ:St}{H:Hp}{s s':Shared}
theorem Inv.Dt (I:Inv X pins σ H s):xi X.prog X.w X.K X.mg X.base X.A X.stack s H:=⟨I.ok.frames,I.ok.mod,I.bs,Nat.le_trans I.ok.bsz I.sz,I.stack,I.qv,I.hok,I.bare⟩
theorem Inv.after {Q:VK}{u:Value}(I:Inv X pins σ H s)(h:CE X.stack X.prog X.w H s Q u s'):EP X pins σ Q u s':=by obtain⟨v,H',os,bare,un,hok,r,q⟩:=h;obtain⟨hh,g,d,t,os'⟩:=s';obtain rfl:os'=s.os:=os;exact⟨v,H',I.call (h':=hh) (g':=g) (d':=d) (t':=t) (ch:=[]) un hok bare (λb z=>absurd z (by simp)),r,q⟩
end
def BU (sp:Sp)(dvs:List V)(E:XK)(t:TA):TE:=λσ H Q=>t σ H λvs H1=>sp (vs++dvs) H1 Q E
def Binds (K:PySem.W.Frag)(fd:FuncData)(ps:List Str)(ds:List Value):Prop:=∀(s:Shared) (us:List Value),K.In s.heap->(us++ds).length=ps.length->BindsTo s fd ⟨us,[]⟩ (ps.zip (us++ds))
theorem Binds.all {K:PySem.W.Frag}{fd:FuncData}{ps:List Str}(h:∀us:List Value,us.length=ps.length->bindArgs fd ⟨us,[]⟩=pure (ps.zip us)):Binds K fd ps []:=λs us _ hl=>by rw[List.append_nil]at hl ⊢;exact .of_eq (h us hl)
def Passes (CX:CXT)(X:Cx)(E:XK):Prop:=∀(pins:List (Addr×Obj)) (σ:St) (H:Hp) (s:Shared) (e:Value) (s':Shared),Inv X pins σ H s->CX X.stack H s E e s'->X.xe e s'
section
variable {X:Cx}{CX:CXT}{k:Nat}{f:Addr}{fd:FuncData}{ps:List Str}{sp:Sp}{dvs:List V}{ds:List Value}{E:XK}{x:Str}{p pos:Pos}{e:Expr}{es:List Expr}{t:TA}
theorem AD {pins:List (Addr×Obj)}{σ:St}{H:Hp}{s:Shared}{Q:VK}{us:List Value}{vs:List V}(F:a4 X.prog X.w X.K X.mg X.base CX k f fd ps sp)(hr:e7 k X.A)(hb:Binds X.K fd ps ds)(hd:Vals dvs ds)(hx:Passes CX X E)
   (I:Inv X pins σ H s) (r:Vals vs us) (h:sp (vs++dvs) H Q E):wpAny (model X.prog X.w) X.A (call (.ref f) us) (EP X pins σ Q) X.xe s:=by
 have r2:Vals (vs++dvs) (us++ds):=r.append hd;have hl:(us++ds).length=ps.length:=by rw[<- r2.length]; exact F.len _ _ _ _ h
 refine wpAny_call (codeAny_mono (F.run X.A X.stack s H ⟨us,[]⟩ (us++ds) (vs++dvs) Q E hr I.Dt (hb s us I.kIn hl) r2 h) λr s' hq=>?_);cases r with
 | error e=>exact hx pins σ H s e s' I hq
 | ok fl=>
   cases fl with
   | ret u=>exact I.after hq
   | next=>exact False.elim hq
   | brk=>exact False.elim hq
   | cont=>exact False.elim hq
theorem qJ (F:a4 X.prog X.w X.K X.mg X.base CX k f fd ps sp)(hr:e7 k X.A)(hg:Gl X x)(hm:X.mg x=some (.ref f))(hk:PySem.W.keepIn X.K (.ref f)=true)(hb:Binds X.K fd ps ds)(hd:Vals dvs ds)(hx:Passes CX X E)
   (ha:PA X (e::es) t) (hdb:(x==("__debug__" : Str))=false:=by decide) (he:starEach (e::es) X.env=(false,eval e X.env)::starEach es X.env:=by rfl) (hpl:(backTo pos (starEach es X.env)).any (·.1)=false:=by rfl) :
   PE X (.Call (.Name x p) (e::es) [] pos) (BU sp dvs E t):=by
 intro pins s σ H Q I h;refine wpAny_Call_Name_kw (qm I hg hm ?_ hdb);refine PySem.W.callWith_K (h₀:=X.base) I.ok.mod.kin hk (thn (ha pos pins s σ H _ I h) λus s1 ⟨vs,H1,I1,r,q⟩=>⟨I1.kIn,?_⟩) he hpl;exact AD F hr hb hd hx I1 r q
end
structure aF (N P:List Str)(sc:Scope):Prop where
 kind:sc.kind=.function
 co:sc.isCoroutine=false
 gen:sc.isGenerator=false
 nd:N.Nodup
 pre:N.take P.length=P
 par:∀x∈P,sc.names.lookup x=some .local\/sc.names.lookup x=some .cell
 nofree:∀y∈sc.names,y.2≠.free
theorem lq {kindOf:Str->Option NameKind}{x:Str}:∀{binds:List (Str×Value)} {m:Str->Option Value},(∀v,(x,v)∉binds)->bindL kindOf binds m x=m x
 | [],_,_=>rfl
 | (n,v)::r,m,h=>by
   unfold bindL;rw[lq λw hw=>h w (List.mem_cons_of_mem _ hw)];split
   . have:x≠n:=by rintro rfl; exact h v List.mem_cons_self
     simp[this]
   . rfl
theorem kH {kindOf:Str->Option NameKind}{x:Str}:∀{binds:List (Str×Value)} {m:Str->Option Value},(∀v,(x,v)∉binds)->bindC kindOf binds m x=m x
 | [],_,_=>rfl
 | (n,v)::r,m,h=>by
   unfold bindC;rw[kH λw hw=>h w (List.mem_cons_of_mem _ hw)];split
   . rfl
   . have:x≠n:=by rintro rfl; exact h v List.mem_cons_self
     simp[this]
theorem kP {kindOf:Str->Option NameKind}{x:Str}{v:Value}:∀{P:List Str} {vs:List Value} {i:Nat} {m:Str->Option Value},P.Nodup->P[i]?=some x->vs[i]?=some v->kindOf x=some .local ->
   bindL kindOf (P.zip vs) m x=some v
 | [],_,_,_,_,h,_,_=>by simp at h
 | _::_,[],_,_,_,_,h,_=>by simp at h
 | p::P,w::vs,0,m,nd,h1,h2,hk=>by simp at h1 h2; subst h1; subst h2;show bindL kindOf ((p,w)::P.zip vs) m p=_;unfold bindL;rw[lq λv hv=>(List.nodup_cons.mp nd).1 (List.of_mem_zip hv).1,if_pos hk];simp
 | p::P,w::vs,i+1,m,nd,h1,h2,hk=>by show bindL kindOf ((p,w)::P.zip vs) m x=_;unfold bindL;exact kP (i:=i) (List.nodup_cons.mp nd).2 (by simpa using h1) (by simpa using h2) hk
theorem k7 {kindOf:Str->Option NameKind}{x:Str}{v:Value}:∀{P:List Str} {vs:List Value} {i:Nat} {m:Str->Option Value},P.Nodup->P[i]?=some x->vs[i]?=some v->kindOf x≠some .local ->
   bindC kindOf (P.zip vs) m x=some v
 | [],_,_,_,_,h,_,_=>by simp at h
 | _::_,[],_,_,_,_,h,_=>by simp at h
 | p::P,w::vs,0,m,nd,h1,h2,hk=>by simp at h1 h2; subst h1; subst h2;show bindC kindOf ((p,w)::P.zip vs) m p=_;unfold bindC;rw[kH λv hv=>(List.nodup_cons.mp nd).1 (List.of_mem_zip hv).1,if_neg hk];simp
 | p::P,w::vs,i+1,m,nd,h1,h2,hk=>by show bindC kindOf ((p,w)::P.zip vs) m x=_;unfold bindC;exact k7 (i:=i) (List.nodup_cons.mp nd).2 (by simpa using h1) (by simpa using h2) hk
noncomputable def start (N:List Str)(vs:List V):St:=vs.map some++List.replicate (N.length-vs.length) none
noncomputable def oX (CX:CXT)(P:Program)(w:World)(K:PySem.W.Frag)(mg:Str->Option Value)(base:Heap)(N:List Str)(qual:Str)(scope:Scope)(f:Addr)(cd:Value)(A:Around)(outer:List Env)(s:Shared)(H:Hp)(E:XK):Cx where
 prog:=P
 w:=w
 K:=K
 mg:=mg
 base:=base
 A:=A.deeper (envOfC qual scope s.heap.objs.size f cd)
 N:=N
 s₀:=s
 H₀:=H
 env:=envOfC qual scope s.heap.objs.size f cd
 outer:=outer
 stack:=envOfC qual scope s.heap.objs.size f cd::outer
 ex:=[]
 calm:=true
 fn:=λ_=>true
 pn:=[]
 xe:=λe s'=>wpAny (model P w) (A.deeper (envOfC qual scope s.heap.objs.size f cd)) (leaving (envOfC qual scope s.heap.objs.size f cd) e) (λ_ s''=>CX outer H s E e s'') (λe' s''=>CX outer H s E e' s'') s'
theorem oq {sc:Scope}{n:Nat}{x:Str}(h:sc.names.lookup x=some .cell):∃c,(cellsFrom n sc.names []).lookup x=some c:=by have q:=PySem.W.cellsFrom_some sc.names n [] (.inl h);exact Option.isSome_iff_exists.mp q
theorem sV {CX:CXT}{P:Program}{w:World}{K:PySem.W.Frag}{mg:Str->Option Value}{base:Heap}{N ps:List Str}{qual:Str}{scope:Scope}{f:Addr}{cd:Value}{A:Around}{outer:List Env}{s s1:Shared}{H:Hp}{E:XK}{us:List Value}{vs:List V}
   (S:aF N ps scope) {cm:Bool} (hd:cm=true->A.handled=none) (e0:xi P w K mg base A outer s H) (hl:vs.length=ps.length) (r:Vals vs us)
   (x:InCallC s s.heap.objs.size (bindL (envOfC qual scope s.heap.objs.size f cd).kindOf (ps.zip us) λ_=>none) (cellsFrom (s.heap.objs.size+1) scope.names []) (bindC (envOfC qual scope s.heap.objs.size f cd).kindOf (ps.zip us) λ_=>none) s1) :
   Inv { oX CX P w K mg base N qual scope f cd A outer s H E with calm:=cm } [] (start N vs) H s1:=by
 have hpl:ps.length<=N.length:=by have:=congrArg List.length S.pre; rw[List.length_take]at this; omega
 obtain⟨h1,tk,rfl,hk⟩:=x.done;have noA:∀b:Addr,b∉(oX CX P w K mg base N qual scope f cd A outer s H E).ex:=λb z=>absurd (show b∈([]:List Addr) from z) (by simp)
 refine⟨⟨e0.mod,S.kind,rfl,rfl,Nat.le_refl _,λy z c h1 h2=>?_,λy hy=>?_,λy c _ h=>?_,hd,Around.frames_deeper e0.frames,.inr ⟨rfl,rfl⟩,λb z=>absurd z (noA b),e0.bs,e0.bsz,λb _ _=>noA b,λb z=>absurd z (noA b),e0.jL,e0.frf⟩,
   rfl,e0.bare,Un.kept hk,⟨_,x.toInCall.ns,λi y v h1 h2 h3=>?_⟩,λy c h=>⟨_,x.cell y c h⟩,e0.hok.fresh (Nat.le_refl _),λy c h=>?_,λp hp=>absurd (show p∈([]:List (Addr×Obj)) from hp) (by simp),e0.hok.kept hk,?_⟩
 . exact name_of_addr x.apart (PySem.mem_of_lookup h1) (PySem.mem_of_lookup h2)
 . have hy:scope.names.lookup y=some .cell\/scope.names.lookup y=some .free:=hy;rcases hy with hy | hy
   . exact oq hy
   . exact absurd rfl (S.nofree _ (PySem.mem_of_lookup hy))
 . exact Nat.le_of_lt (x.above y c (PySem.mem_of_lookup h))
 . have hi:i<vs.length:=by
     unfold start at h2;by_cases hi:i<vs.length
     . exact hi
     . rw[List.getElem?_append_right (by simpa using hi)]at h2;rw[List.getElem?_replicate]at h2;split at h2 <;> cases h2
   have ha:vs[i]?=some v:=by
     unfold start at h2;rw[List.getElem?_append_left (by simpa using hi),List.getElem?_map]at h2;cases e:vs[i]? with
     | none=>rw[e]at h2; cases h2
     | some a=>rw[e]at h2; cases h2; rfl
   obtain⟨u,hu,rv⟩:=r.get ha;have hp:ps[i]?=some y:=by rw[<- S.pre,List.getElem?_take_of_lt (by omega)]; exact h1
   have ndP:ps.Nodup:=by rw[<- S.pre]; exact S.nd.sublist (List.take_sublist _ _)
   refine⟨u,rv,?_⟩;rcases S.par y (List.mem_of_getElem? hp) with k | k
   . exact .inl ⟨k,kP ndP hp hu k⟩
   . obtain⟨c,e⟩:=oq (n:=s.heap.objs.size+1) k;refine .inr ⟨.inl k,c,e,?_⟩;have q:=x.cell y c e;rw[k7 ndP hp hu (by show scope.names.lookup y≠_; rw[k]; decide)]at q;exact q
 . exact e0.hok.fresh (Nat.le_of_lt (x.above y c (PySem.mem_of_lookup h)))
 . unfold start;show _=N.length;rw[List.length_append,List.length_map,List.length_replicate];omega
theorem Cy {CX:CXT}{P:Program}{w:World}{K:PySem.W.Frag}{mg:Str->Option Value}{base:Heap}{k:Nat}{f:Addr}{name qual:Str}{params:Arguments}{body:List Stmt}{scope:Scope}{dV kV doc pm cdv ct oc:Value}{an od:Option Addr}
   {osl:Array (Option Value)} {N ps:List Str} {sp:Sp} (lk:K.lookup f=some ⟨oc,od,.func (PySem.W.fnOf name qual params body scope dV kV doc pm an cdv ct),osl⟩) (hcd:PySem.W.codeIn K cdv qual=true) (S:aF N ps scope)
   (len:∀vs H Q E,sp vs H Q E->vs.length=ps.length)
   (hbody:∀(A:Around) (outer:List Env) (s:Shared) (H:Hp) (vs:List V) (Q:VK) (E:XK),e7 k (A.deeper (envOfC qual scope s.heap.objs.size f cdv))->sp vs H Q E ->
     ∃t,PSs (oX CX P w K mg base N qual scope f cdv A outer s H E) body t/\t { nx:=λ_ H'=>Q .non H',rt:=Q } (start N vs) H) :
   a4 P w K mg base CX (k+1) f (PySem.W.fnOf name qual params body scope dV kV doc pm an cdv ct) ps sp:=by
 refine⟨len,λA outer s H args us vs Q E hr e0 hb r hsp=>?_⟩;have hl:=len _ _ _ _ hsp;have KX:K.In s.heap:=e0.mod.kin.keeps λb o e=>(e0.bs b o e).1;have lim:s.heap.NoLimit:=e0.mod.nolimit.keeps λb o e=>(e0.bs b o e).1
 have hkind:∀y∈ps.zip us,scope.names.lookup y.1=some .local\/(scope.names.lookup y.1=some .cell/\((cellsFrom (s.heap.objs.size+1) scope.names []).lookup y.1).isSome=true):=λ⟨n,v⟩ hy=>by
   rcases S.par n (List.of_mem_zip hy).1 with q | q
   . exact .inl q
   . exact .inr ⟨q,PySem.W.cellsFrom_some _ _ _ (.inl q)⟩
 refine codeAny_call_function hr.depth (KX _ _ lk) rfl S.co S.gen rfl (PySem.W.codeRec_of KX hcd) (hb _ _ _ _ ?_);refine wpAny_newFunctionEnv_cells S.kind hkind λenv he s1 x=>?_;subst he;refine⟨lim.keeps x.toInCall.keep,codeAny_func ?_⟩;obtain⟨t,ht,hq⟩:=hbody A outer s H vs Q E (hr.deeper _) hsp;have I:Inv (oX CX P w K mg base N qual scope f cdv A outer s H E) [] (start N vs) H s1:=sV (cm:=true) S (λ_=>hr.hd) e0 hl r x;refine wpAny_mono (ht [] s1 (start N vs) H _ I hq) (λfl s' hs=>?_) λe s' hs=>hs;have fin:∀{σ':St} {H':Hp} {v:V} {u:Value},Inv (oX CX P w K mg base N qual scope f cdv A outer s H E) [] σ' H' s'->RelV v u->Q v H'->CE outer P w H s Q u s':=λ{σ' H' v u} J rv q=>⟨v,H',J.os,J.bare,J.base,J.hok,rv,q⟩;cases fl with
 | ret u=>obtain⟨v,σ',H',J,rv,q⟩:=hs;exact fin J rv q
 | next=>obtain⟨σ',H',J,q⟩:=hs;exact fin (v:=V.non) (u:=Value.none) J rfl q
 | brk=>obtain⟨_,_,_,q⟩:=hs;exact False.elim q
 | cont=>obtain⟨_,_,_,q⟩:=hs;exact False.elim q
section
variable {X:Cx}{x:Str}{p pos:Pos}{e:Expr}{es:List Expr}{t:TA}{id T:String}{r:List V->Hp->VK->Prop}
def tCB (r:List V->Hp->VK->Prop)(t:TA):TE:=λσ H Q=>t σ H λvs H1=>r vs H1 Q
theorem nH (hc:eQ X (.builtin id) r)(hg:Gl X x)(hm:X.mg x=none)(hv:bootBuiltins x=some (.builtin id))(ha:PA X (e::es) t)(hn:x ≠ "__name__":=by decide)(hdb:(x==("__debug__" : Str))=false:=by decide)
   (he:starEach (e::es) X.env=(false,eval e X.env)::starEach es X.env:=by rfl) (hpl:(backTo pos (starEach es X.env)).any (·.1)=false:=by rfl):PE X (.Call (.Name x p) (e::es) [] pos) (tCB r t):=by
 intro pins s σ H Q I h;refine wpAny_Call_Name_kw (dN I hg hm hv ?_ hn hdb);exact PyProof.Rows.callWith_builtin1 (thn (ha pos pins s σ H _ I h) λus s1 ⟨vs,H1,I1,r1,q1⟩=>hc pins s1 σ H1 vs us Q I1 r1 q1) he hpl
theorem lj (hc:eQ X (.type T) r)(hg:Gl X x)(hm:X.mg x=none)(hv:bootBuiltins x=some (.type T))(ha:PA X (e::es) t)(hn:x ≠ "__name__":=by decide)(hdb:(x==("__debug__" : Str))=false:=by decide)
   (he:starEach (e::es) X.env=(false,eval e X.env)::starEach es X.env:=by rfl) (hpl:(backTo pos (starEach es X.env)).any (·.1)=false:=by rfl):PE X (.Call (.Name x p) (e::es) [] pos) (tCB r t):=by
 intro pins s σ H Q I h;refine wpAny_Call_Name_kw (dN I hg hm hv ?_ hn hdb);exact PyProof.Rows.callWith_type1 (thn (ha pos pins s σ H _ I h) λus s1 ⟨vs,H1,I1,r1,q1⟩=>hc pins s1 σ H1 vs us Q I1 r1 q1) he hpl
end
end L2
namespace HT
open PySem PyProof.Rows
section
open PySem.SeqAt
open PySem.AutoSeq1 (wpAny_loadPart')
open PySem.MeetsSeq PySem.MeetsSeq2 PySem.MeetsSeq3
end
section
variable {prog:Program}{w:World}{A:Around}{E:Value->Shared->Prop}{s:Shared}
theorem xt {t b:Addr}{vs ws:List Value}{Q:Value->Shared->Prop}(ht:IsTup s.heap t vs.toArray)(hb:IsTup s.heap b ws.toArray)(hv:vs≠[])
   (h1:ws=[]->Q (.ref t) s) (h2:ws≠[]->Q (.ref s.heap.objs.size) { s with heap:=s.heap.push { cls:=.type "tuple",data:=.seq (vs++ws).toArray } })
   (hsz:vs.length+ws.length<=sizeLine):wpAny (model prog w) A (binaryOp .Add (.ref t) (.ref b)) Q E s:=by
 obtain⟨⟨cls,dd,data,sl⟩,ho,hc,n,hd⟩:=id ht;obtain⟨⟨cls2,dd2,data2,sl2⟩,ho2,hc2,n2,hd2⟩:=id hb;simp only at hc hd hc2 hd2;subst hc hd hc2 hd2;have e:vs.toArray++ws.toArray=(vs++ws).toArray:=by simp
 by_cases hw:ws=[]
 . exact concat_meets ⟨_,ho,rfl⟩ ⟨_,ho2,rfl⟩ noFill_tuple_add seq_tuple_add PySem.F.slot_tuple_add PySem.F.entry_tuple_add (PySem.F.args_tuple_add_2 _ _)
     (tuple_addW1 t b vs.toArray ws.toArray n n2 dd dd2 sl sl2 (by simpa using hv) (by simp[hw])) ⟨ho,ho2,h1 hw⟩
 . refine concat_meets ⟨_,ho,rfl⟩ ⟨_,ho2,rfl⟩ noFill_tuple_add seq_tuple_add PySem.F.slot_tuple_add PySem.F.entry_tuple_add (PySem.F.args_tuple_add_2 _ _)
     (tuple_addW2 t b vs.toArray ws.toArray n n2 dd dd2 sl sl2 (by simpa using hv) (by simpa using hw) (by rw[List.size_toArray,List.size_toArray]; exact hsz)) ⟨ho,ho2,?_⟩
   rw[e];exact h2 hw
noncomputable def sIx (n d:Nat):Option Int->Nat
 | none=>d
 | some v=>if v<0 then (v+(n:Int)).toNat else min v.toNat n
theorem gU (n d:Nat):sIx n d none=d:=rfl
theorem ee (n d k:Nat):sIx n d (some (k:Int))=min k n:=by show (if (k:Int)<0 then ((k:Int)+(n:Int)).toNat else min (k:Int).toNat n)=min k n;rw[if_neg (by omega),Int.toNat_natCast]
theorem zv (n d:Nat)(hd:d<=n)(o:Option Int):sIx n d o<=n:=by
 cases o with
 | none=>exact hd
 | some v=>
   show (if v<0 then (v+(n:Int)).toNat else min v.toNat n)<=n;by_cases hv:v<0
   . rw[if_pos hv]; omega
   . rw[if_neg hv]; exact Nat.min_le_right _ _
theorem rJ (v:Int)(n d:Nat):(if v<0 then max (v+(n:Int)) 0 else min v (n:Int))=((sIx n d (some v):Nat):Int):=by
 show (if v<0 then max (v+(n:Int)) 0 else min v (n:Int))=(((if v<0 then (v+(n:Int)).toNat else min v.toNat n):Nat):Int);by_cases hv:v<0
 . simp only[if_pos hv]; omega
 . simp only[if_neg hv]; omega
theorem pB (lo hi:Option Int)(n:Nat):Builtin.Slice.sliceAdjust lo hi 1 (n:Int)=(((sIx n 0 lo:Nat):Int),((sIx n n hi:Nat):Int)):=by
 have h1:¬((1:Int)<0):=by omega
 unfold Builtin.Slice.sliceAdjust;simp only[h1,if_false];refine Prod.ext ?_ ?_
 . cases lo with
   | none=>rfl
   | some v=>exact rJ v n 0
 . cases hi with
   | none=>rfl
   | some v=>exact rJ v n n
theorem p6 (i j:Nat):Builtin.Slice.slicePlaces (i:Int) (j:Int) 1=j-i:=by
 unfold Builtin.Slice.slicePlaces;have h1:(1:Int)>0:=by omega
 simp only[h1,if_true,Int.ediv_one];split <;> omega
theorem jh {v:Value}{o:Option Int}{Q:Option Int->Shared->Prop}(p:IsPart v o)(h:Q o s):wpAny (model prog w) A (Builtin.Slice.slicePartIndex v) Q E s:=by
 cases p with
 | none=>exact slicePart_none h
 | int i t=>exact slicePart_int h
theorem iy {sl:Addr}{vl vu:Value}{lo hi:Option Int}{n:Nat}{Q:Int×Int×Nat->Shared->Prop}(hs:s.heap.IsSliceOf sl vl vu .none)(pl:IsPart vl lo)(pu:IsPart vu hi)
   (h:Q (((sIx n 0 lo:Nat):Int),1,sIx n n hi-sIx n 0 lo) s):wpAny (model prog w) A (Builtin.Slice.sliceApplied (.ref sl) (pure (n:Int))) Q E s:=by
 obtain⟨os,hos,hcs,hds⟩:=id hs;unfold Builtin.Slice.sliceApplied Builtin.Slice.sliceFields;refine wpAny_bind (wpAny_bind (wpAny_field hos hds (x:=vl) rfl (wpAny_bind (wpAny_field hos hds (x:=vu) rfl (wpAny_bind (wpAny_field hos hds (x:=.none) rfl (wpAny_pure ?_)))))));refine wpAny_bind (slicePart_none ?_);show wpAny _ _ (if ((1:Int)==0)=true then _ else _) _ _ s;rw[if_neg (by decide)];refine wpAny_bind (jh pl (wpAny_bind (jh pu (wpAny_bind (wpAny_pure ?_)))));show wpAny _ _ (match Builtin.Slice.sliceAdjust lo hi 1 (n:Int) with | (lo,hi)=>pure (lo,(1:Int),Builtin.Slice.slicePlaces lo hi 1)) _ _ s;rw[pB lo hi n];show wpAny _ _ (pure (((sIx n 0 lo:Nat):Int),(1:Int),Builtin.Slice.slicePlaces ((sIx n 0 lo:Nat):Int) ((sIx n n hi:Nat):Int) 1)) _ _ s;rw[p6];exact wpAny_pure h
theorem tF (xs:Array Value)(i k:Nat):((List.range k).filterMap λ(m:Nat)=>xs[((i:Int)+(m:Int)*1).toNat]?).toArray=((xs.toList.drop i).take k).toArray:=by
 have e:(λ(m:Nat)=>xs[((i:Int)+(m:Int)*1).toNat]?)=λm=>xs[i+m]?:=by
   funext m;have:((i:Int)+(m:Int)*1).toNat=i+m:=by omega
   rw[this]
 rw[e];have:=pick_run xs i k;rw[List.filterMap_map]at this;have e2:((λx=>xs[x]?)∘λx=>i+x)=λm=>xs[i+m]?:=rfl;rw[e2]at this;rw[this]
theorem gA {t sl:Addr}{items:Array Value}{vl vu:Value}{lo hi:Option Int}{Q:Value->Shared->Prop}(ht:IsTup s.heap t items)(hs:s.heap.IsSliceOf sl vl vu .none)(pl:IsPart vl lo)(pu:IsPart vu hi)
   (hw:¬(sIx items.size 0 lo=0/\sIx items.size items.size hi=items.size))
   (h:Q (.ref s.heap.objs.size) { s with heap:=s.heap.push { cls:=.type "tuple",data:=.seq ((items.toList.drop (sIx items.size 0 lo)).take (sIx items.size items.size hi-sIx items.size 0 lo)).toArray } })
   (hsz:items.size<=sizeLine):wpAny (model prog w) A (getItem (.ref t) (.ref sl)) Q E s:=by
 have htake:sizeOk (.seq ((items.toList.drop (sIx items.size 0 lo)).take (sIx items.size items.size hi-sIx items.size 0 lo)).toArray):=by show ((items.toList.drop (sIx items.size 0 lo)).take (sIx items.size items.size hi-sIx items.size 0 lo)).toArray.size<=sizeLine;rw[List.size_toArray,List.length_take,List.length_drop,Array.length_toList];omega
 have hj:sIx items.size items.size hi<=items.size:=zv _ _ (Nat.le_refl _) hi;obtain⟨os,hos,hcs,hds⟩:=id hs;have hTs:s.TypeIs (.ref sl) "slice":=⟨os,hos,hcs⟩;unfold getItem
 try with_reducible refine wpAny_holding ?_
 first | refine wpAny_bind (wpAny_pure ?_) | skip
 refine wpAny_bind (wpAny_sequenceKey ht.typeIs (by decide) ?_)
 refine wpAny_bind (wpAny_callSpecial?_slot (name:=Str.ofString "__getitem__") ht.typeIs PyProof.Rows.slot_tuple_getitem
   (wpAny_call_entry PyProof.Rows.slot_tuple_getitem ht.typeIs entry_tuple_getitem ?_ (args_tuple_getitem _ _)))
 show wpAny _ _ (Builtin.Tuple.tupleItemsOf (.ref t) >>= _) _ _ s;refine wpAny_bind (tupleItemsOf_ ht ?_);refine wpAny_bind (wpAny_typeOf hTs ?_);rw[if_pos (by decide)];refine wpAny_bind (iy hs pl pu ?_);have hno:¬((((sIx items.size 0 lo:Nat):Int)==0&&(1:Int)==1&&(sIx items.size items.size hi-sIx items.size 0 lo)==items.size)=true):=by intro q;rw[Bool.and_eq_true,Bool.and_eq_true]at q;have q1:((sIx items.size 0 lo:Nat):Int)=0:=eq_of_beq q.1.1;have q2:sIx items.size items.size hi-sIx items.size 0 lo=items.size:=eq_of_beq q.2;exact hw ⟨by omega,by omega⟩
 show wpAny _ _ (if (((sIx items.size 0 lo:Nat):Int)==0&&(1:Int)==1&&(sIx items.size items.size hi-sIx items.size 0 lo)==items.size)=true then _ else _) _ _ s;rw[if_neg hno,tF]
 first
   | exact wpAny_bind (m:=Builtin.Tuple.tupleExact _) (wpAny_newObj_type (wpAny_pure ⟨_,rfl,wpAny_pure h⟩) htake)
   | exact wpAny_bind (m:=Builtin.Tuple.tupleExact _) (wpAny_newObj_type (wpAny_bind (wpAny_pure (wpAny_pure ⟨_,rfl,wpAny_pure h⟩))) htake)
   | exact wpAny_bind (wpAny_bind (m:=Builtin.Tuple.tupleExact _) (wpAny_newObj_type (wpAny_pure (wpAny_pure ⟨_,rfl,wpAny_pure h⟩)) htake))
   | exact wpAny_bind (wpAny_bind (m:=Builtin.Tuple.tupleExact _) (wpAny_newObj_type (wpAny_pure ⟨_,rfl,wpAny_pure h⟩) htake))
end
end HT
namespace L2
open PySem PySem.Spec PyProof.Rows
noncomputable abbrev TO:=St->Hp->(Option Int->Hp->Prop)->Prop
def PO (X:Cx)(e:Option Expr)(t:TO):Prop:=
 ∀(pins:List (Addr×Obj)) (s:Shared) (σ:St) (H:Hp) (Q:Option Int->Hp->Prop),Inv X pins σ H s->t σ H Q ->
   wpAny (model X.prog X.w) X.A (evalPart e X.env) (λu s'=>∃o H',Inv X pins σ H' s'/\IsPart u o/\Q o H') X.xe s
def wt:TO:=λ_ H Q=>Q none H
def BA (t:TE):TO:=λσ H Q=>t σ H λx H1=>∃i,x=.int i/\Q (some i) H1
section
variable {X:Cx}{e:Expr}{te:TE}{lo hi:Option Expr}{tl th:TO}{pos p2:Pos}
theorem xm:PO X none wt:=by intro pins s σ H Q I h;rw[evalPart_none];exact wpAny_pure ⟨none,H,I,.none,h⟩
theorem x5 (h:PE X e te):PO X (some e) (BA te):=by intro pins s σ H Q I hw;rw[evalPart_some];refine thn (h pins s σ H _ I hw) λu s1 ⟨x,H1,I1,r1,q1⟩=>?_;obtain⟨i,rfl,q⟩:=q1;obtain⟨t,rfl⟩:=r1;exact⟨some i,H1,I1,.int i t,q⟩
def SlR (X:Cx)(r:V->Option Int->Option Int->Hp->VK->Prop):Prop:=
 ∀(pins:List (Addr×Obj)) (s:Shared) (σ:St) (H:Hp) (x:V) (v vl vu:Value) (lo hi:Option Int) (sl:Addr) (Q:VK),Inv X pins σ H s->RelV x v->s.heap.IsSliceOf sl vl vu .none->IsPart vl lo->IsPart vu hi->r x lo hi H Q ->
   ∃T id,typeLookup (.type T) "__getitem__" = pure (some (.builtin id))/\s.TypeIs v T/\wpAny (model X.prog X.w) X.A (getItem v (.ref sl)) (EP X pins σ Q) X.xe s
def tSl (r:V->Option Int->Option Int->Hp->VK->Prop)(te:TE)(tl th:TO):TE:=λσ H Q=>te σ H λx H1=>tl σ H1 λl H2=>th σ H2 λu H3=>r x l u H3 Q
theorem nY {r:V->Option Int->Option Int->Hp->VK->Prop}(hr:SlR X r)(he:PE X e te)(hl:PO X lo tl)(hu:PO X hi th):PE X (.Subscript e (.Slice lo hi none p2) pos) (tSl r te tl th):=by intro pins s σ H Q I h;refine Subscript_ (thn (he pins s σ H _ I h) λv s1 ⟨x,H1,I1,r1,q1⟩=>?_);refine wpAny_Slice (thn (hl pins s1 σ H1 _ I1 q1) λvl s2 ⟨l,H2,I2,pl,q2⟩=>thn (hu pins s2 σ H2 _ I2 q2) λvu s3 ⟨u,H3,I3,pu,q3⟩=>?_);rw[evalPart_none];refine wpAny_pure ?_;have I4:Inv X pins σ H3 { s3 with heap:=s3.heap.push { cls:=.type "slice",data:=.fields #[vl,vu,.none] } }:=I3.kept (t':=s3.toks) λb ob q=>Heap.get?_push_of_some _ q;obtain⟨T,id,hT,ht,hg⟩:=hr pins { s3 with heap:=s3.heap.push { cls:=.type "slice",data:=.fields #[vl,vu,.none] } } σ H3 x v vl vu l u s3.heap.objs.size Q I4 r1 (Heap.IsSliceOf.new ..) pl pu q3;show wpAny (model X.prog X.w) X.A (subscriptTail e (.Slice lo hi none p2) v (.ref s3.heap.objs.size)) (EP X pins σ Q) X.xe { s3 with heap:=s3.heap.push { cls:=.type "slice",data:=.fields #[vl,vu,.none] } };exact tail_any (ops:=[.ref s3.heap.objs.size,v]) ht hT hg (by with_unfolding_all rfl)
noncomputable def jJ (xs:List V)(lo hi:Option Int):List V:=(xs.drop (HT.sIx xs.length 0 lo)).take (HT.sIx xs.length xs.length hi-HT.sIx xs.length 0 lo)
theorem iO (xs:List V)(lo hi:Option Int):(jJ xs lo hi).length<=xs.length:=by unfold jJ;rw[List.length_take,List.length_drop];omega
noncomputable def CU (K:PySem.W.Frag):V->Option Int->Option Int->Hp->VK->Prop:=λx lo hi H Q=>∃a xs,x=.ref a/\SqT K H a xs /\
 ¬(HT.sIx xs.length 0 lo=0/\HT.sIx xs.length xs.length hi=xs.length)/\∀p,H p=none->Q (.ref p) (upd H p (.tup (jJ xs lo hi)))
theorem yM:SlR X (CU X.K):=by
 intro pins s σ H x v vl vu lo hi sl Q I rx hs pl pu h;obtain⟨a,xs,rfl,hx,hw,q⟩:=h;cases rx;obtain⟨its,r,ht,hz⟩:=I.tuple hx;have hlen:its.toArray.size=xs.length:=by rw[List.size_toArray]; exact r.length.symm
 refine⟨"tuple",_,PyProof.Rows.slot_tuple_getitem.lookup,ht.typeIs,?_⟩;refine HT.gA ht hs pl pu (by rw[hlen]; exact hw) ?_ (by rw[hlen]; exact hz);rw[hlen];refine⟨.ref s.heap.objs.size,_,I.laid (t':=s.toks) (o:=.tup (jJ xs lo hi)) (λb ob q=>Heap.get?_push_of_some _ q) (Nat.le_refl _) ?_,rfl,q _ (I.hok.fresh (Nat.le_refl _))⟩;exact⟨Nat.le_trans (iO xs lo hi) hz,_,(r.drop (HT.sIx xs.length 0 lo)).take (HT.sIx xs.length xs.length hi-HT.sIx xs.length 0 lo),IsTup.new _ _⟩
noncomputable def BO (K:PySem.W.Frag):R2:=λx y H Q=>∃a b xs ys,x=.ref a/\y=.ref b/\SqT K H a xs/\SqT K H b ys/\xs≠[]/\xs.length+ys.length<=sizeLine /\
 (ys=[]->Q (.ref a) H)/\(ys≠[]->∀p,H p=none->Q (.ref p) (upd H p (.tup (xs++ys))))
theorem Vals.mB {xs:List V}{us:List Value}(r:Vals xs us):us=[]↔xs=[]:=by
 cases r with
 | nil=>simp
 | cons _ _=>simp
theorem wV:OpR X (binaryOp .Add) (BO X.K):=by intro pins s σ H x y v u Q I rx ry h;obtain⟨a,b,xs,ys,rfl,rfl,ha,hb,hx,hz,q1,q2⟩:=h;cases rx;cases ry;obtain⟨its,r1,p1,_⟩:=I.tuple ha;obtain⟨its2,r2,p2,_⟩:=I.tuple hb;refine HT.xt p1 p2 (λz=>hx (r1.mB.mp z)) (λz=>⟨.ref a,H,I,rfl,q1 (r2.mB.mp z)⟩) (λz=>?_) (by rw[<- r1.length,<- r2.length]; exact hz);refine⟨.ref s.heap.objs.size,_,I.laid (t':=s.toks) (o:=.tup (xs++ys)) (λb ob q=>Heap.get?_push_of_some _ q) (Nat.le_refl _) ?_,rfl,q2 (λw=>z (r2.mB.mpr w)) _ (I.hok.fresh (Nat.le_refl _))⟩;exact⟨by rw[List.length_append]; exact hz,_,r1.append r2,IsTup.new _ _⟩
end
noncomputable def ixN (n:Nat)(i:Int):Option Nat:=if 0<=i then (if i<n then some i.toNat else none) else if -(n:Int)<=i then some (i+n).toNat else none
noncomputable def atI {α:Type}(xs:List α)(i:Int):Option α:=(ixN xs.length i).bind λj=>xs[j]?
theorem qD {n:Nat}{i:Int}{j:Nat}(h:ixN n i=some j):seqIndex? i n=some j/\j<n/\-(n:Int)<=i/\i<n:=by
 unfold ixN at h;by_cases h0:0<=i
 . rw[if_pos h0]at h;by_cases h1:i<n
   . rw[if_pos h1]at h;have e:i.toNat=j:=Option.some.inj h;exact⟨by rw[seqIndex_of h0 h1,e],by omega,by omega,h1⟩
   . rw[if_neg h1]at h; cases h
 . rw[if_neg h0]at h;by_cases h1:-(n:Int)<=i
   . rw[if_pos h1]at h;have e:(i+n).toNat=j:=Option.some.inj h;exact⟨by rw[seqIndex_neg (by omega) h1,e],by omega,h1,by omega⟩
   . rw[if_neg h1]at h; cases h
theorem rE {α:Type}{xs:List α}{i:Int}{v:α}(h:atI xs i=some v):∃j,seqIndex? i xs.length=some j/\xs[j]?=some v/\j<xs.length/\-(xs.length:Int)<=i/\i<xs.length:=by
 unfold atI at h;cases e:ixN xs.length i with
 | none=>rw[e]at h; cases h
 | some j=>rw[e]at h;obtain⟨h1,h2,h3,h4⟩:=qD e;exact⟨j,h1,h,h2,h3,h4⟩
def i8 (b:Expr):Prop:=∀o i,subscripted b false o i=operate [o,i] (getItem o i)
def IxR (X:Cx)(r:R2):Prop:=
 ∀(value slice:Expr) (pins:List (Addr×Obj)) (s:Shared) (σ:St) (H:Hp) (x y:V) (v u:Value) (Q:VK),Inv X pins σ H s->RelV x v->RelV y u->r x y H Q ->
   subscripted slice false v u=operate [v,u] (getItem v u)->wpAny (model X.prog X.w) X.A (subscriptTail value slice v u) (EP X pins σ Q) X.xe s
def MtR (X:Cx)(id:String)(r:V->List V->Hp->VK->Prop):Prop:=
 ∀(pins:List (Addr×Obj)) (s:Shared) (σ:St) (H:Hp) (x:V) (xs:List V) (v:Value) (us:List Value) (Q:VK),Inv X pins σ H s->RelV x v->Vals xs us->r x xs H Q ->
   wpAny (model X.prog X.w) X.A (call (.builtin id) (v::us)) (EP X pins σ Q) X.xe s
section
variable {X:Cx}{a b:Expr}{ta tb:TE}{pos:Pos}
theorem yw {r:R2}(hr:IxR X r)(ha:PE X a ta)(hb:PE X b tb)(hs:i8 b):PE X (.Subscript a b pos) (tOp r ta tb):=by intro pins s σ H Q I h;exact Subscript_ (yZ ha hb I h λv u s2 x y H2 I2 rx ry q=>hr a b pins s2 σ H2 x y v u Q I2 rx ry q (hs _ _))
noncomputable def CZ (K:PySem.W.Frag):R2:=λx y H Q=>∃p xs i v,x=.ref p/\y=.int i/\SqL K H p xs/\atI xs i=some v/\Q v H
noncomputable def Dn (K:PySem.W.Frag):R2:=λx y H Q=>∃p xs i v,x=.ref p/\y=.int i/\SqT K H p xs/\atI xs i=some v/\Q v H
theorem qK:IxR X (CZ X.K):=by
 intro value slice pins s σ H x y v u Q I rx ry h hs;obtain⟨p,xs,i,z,rfl,rfl,hq,he,q⟩:=h;cases rx;obtain⟨t,rfl⟩:=ry;obtain⟨its,r,pl,hz⟩:=I.list hq;obtain⟨j,h1,h2,h3,h4,h5⟩:=rE he;obtain⟨w,ew,rw'⟩:=r.get h2;have hl:=r.length;have hn:=mR;have fin:EP X pins σ Q w s:=⟨z,H,I,rw',q⟩;by_cases h0:0<=i
 . have hj:i.toNat=j:=by rw[seqIndex_of h0 h5]at h1;exact Option.some.inj h1
   exact item_listR pl.isList h0 (by omega) (by rw[hj]; simpa using ew) fin hs
 . have hj:(i+(its.toArray.size:Int)).toNat=j:=by rw[seqIndex_neg (by omega) h4]at h1;rw[List.size_toArray,<- hl];exact Option.some.inj h1
   exact subscriptTail_builtinR (x:=w) pl.isList.typeIs slot_list_getitem.lookup
     (wpAny_getItem_list_neg (Q:=λr s'=>r=w/\EP X pins σ Q r s') pl.isList (by omega) (by rw[List.size_toArray] <;> omega) (by omega) (by rw[hj]; simpa using ew) ⟨rfl,fin⟩) hs
theorem Ar:IxR X (Dn X.K):=by
 intro value slice pins s σ H x y v u Q I rx ry h hs;obtain⟨p,xs,i,z,rfl,rfl,hq,he,q⟩:=h;cases rx;obtain⟨t,rfl⟩:=ry;obtain⟨its,r,pl,hz⟩:=I.tuple hq;obtain⟨j,h1,h2,h3,h4,h5⟩:=rE he;obtain⟨w,ew,rw'⟩:=r.get h2;have hl:=r.length;have hn:=mR;have fin:EP X pins σ Q w s:=⟨z,H,I,rw',q⟩
 exact subscriptTail_builtinR (x:=w) pl.typeIs slot_tuple_getitem.lookup
   (getItem_tuple (j:=j) (Q:=λr s'=>r=w/\EP X pins σ Q r s') pl (by omega) (by omega) (by rw[List.size_toArray,<- hl]; exact h1) (by simpa using ew) ⟨rfl,fin⟩) hs
theorem p8 (its:List Value)(n j:Nat)(u:Value):Obj.mapSeq (·.setIfInBounds j u) { cls:=.type "list",data:=.seq its.toArray n }={ cls:=.type "list",data:=.seq (its.set j u).toArray n }:=by simp[Obj.mapSeq]
theorem Inv.lst {pins:List (Addr×Obj)}{σ:St}{H:Hp}{s:Shared}{p:Addr}{xs:List V}(I:Inv X pins σ H s)(h:H p=some (.lst xs)):
   ∃(its:List Value) (n:Nat),Vals xs its/\s.heap.get? p=some { cls:=.type "list",data:=.seq its.toArray n }/\xs.length<=sizeLine:=by
 obtain⟨z,its,n,r,e⟩:=I.hok p _ h;exact⟨its,n,r,e,z⟩
theorem Inv.A3 {pins:List (Addr×Obj)}{σ:St}{H:Hp}{s:Shared}{p:Addr}{xs ys:List V}{its its':List Value}{n n':Nat}{f:Obj->Obj}(I:Inv X pins σ H s)(h:H p=some (.lst xs))
   (ho:s.heap.get? p=some { cls:=.type "list",data:=.seq its.toArray n }) (hf:f { cls:=.type "list",data:=.seq its.toArray n }={ cls:=.type "list",data:=.seq its'.toArray n' }) (r:Vals ys its') (hz:ys.length<=sizeLine) (t:Nat) :
   Inv X pins σ (upd H p (.lst ys)) { s with heap:=s.heap.update p f,toks:=t }:=by
 have e:(s.heap.update p f).get? p=some { cls:=.type "list",data:=.seq its'.toArray n' }:=by rw[Heap.get?_update_self f ho (by rw[hf] <;> rfl),hf]
 refine I.write (x:=p) (e:=p) (by rw[h]; trivial) (.inl rfl) (λb u hb q=>(Heap.get?_update_other _ _ (Ne.symm hb)).trans q) ⟨_,e⟩ ?_;exact⟨hz,its',n',r,e⟩
noncomputable def Cu:V->V->V->Hp->(Hp->Prop)->Prop:=λo i v H Q=>∃p xs k j,o=.ref p/\i=.int k/\H p=some (.lst xs)/\ixN xs.length k=some j/\Q (upd H p (.lst (xs.set j v)))
theorem set_list:Cc X Cu:=by
 intro pins s σ H o i v ov iv u Q I ro ri rv h;obtain⟨p,xs,k,j,rfl,rfl,hp,hj,q⟩:=h;cases ro;obtain⟨t,rfl⟩:=ri;obtain⟨its,n,r,ho,hz⟩:=I.lst hp;obtain⟨h1,h2,h3,h4⟩:=qD hj;have hl:=r.length;have hn:=mR;have I':Inv X pins σ (upd H p (.lst (xs.set j v))) { s with heap:=s.heap.update p (Obj.mapSeq (·.setIfInBounds j u)) }:=I.A3 hp ho (p8 its n j u) (r.set rv j) (by rw[List.length_set]; exact hz) s.toks;by_cases h0:0<=k
 . have hk:k.toNat=j:=by rw[seqIndex_of h0 h4]at h1;exact Option.some.inj h1
   exact PySem.W.ki_setAt ho h0 (by omega) (by rw[List.size_toArray,<- hl]; exact h4) (by rw[hk]; exact⟨_,I',q⟩)
 . have hk:(k+(its.toArray.size:Int)).toNat=j:=by rw[seqIndex_neg (by omega) h3]at h1;rw[List.size_toArray,<- hl];exact Option.some.inj h1
   exact PySem.W.ki_setBack ho (by omega) (by rw[List.size_toArray,<- hl]; exact h3) (by omega) (by rw[hk]; exact⟨_,I',q⟩)
theorem lF (lo hi:Option Int)(n:Nat):(sliceBounds lo hi none n).1=((HT.sIx n 0 lo:Nat):Int)/\(sliceBounds lo hi none n).2.1=((HT.sIx n n hi:Nat):Int)/\(sliceBounds lo hi none n).2.2=1:=by
 refine⟨?_,?_,rfl⟩
 . cases lo with
   | none=>simp[sliceBounds,HT.sIx]
   | some i=>
     simp only[sliceBounds,HT.sIx,Option.getD_none,show (1:Int)>0 by decide,if_true];by_cases h:i<0
     . simp only[h,if_true] <;> omega
     . simp only[h,if_false] <;> omega
 . cases hi with
   | none=>simp[sliceBounds,HT.sIx]
   | some i=>
     simp only[sliceBounds,HT.sIx,Option.getD_none,show (1:Int)>0 by decide,if_true];by_cases h:i<0
     . simp only[h,if_true] <;> omega
     . simp only[h,if_false] <;> omega
theorem kx (its:List Value)(lo hi:Option Int):slicePick its.toArray lo hi none=((its.drop (HT.sIx its.length 0 lo)).take (HT.sIx its.length its.length hi-HT.sIx its.length 0 lo)).toArray:=by obtain⟨h1,h2,h3⟩:=lF lo hi its.toArray.size;unfold slicePick;rw[h1,h2,h3];simp only[sliceRange_one,pick_run,List.size_toArray] <;> rfl
noncomputable def CS (K:PySem.W.Frag):V->Option Int->Option Int->Hp->VK->Prop:=λx lo hi H Q=>∃a xs,x=.ref a/\SqL K H a xs/\∀p,H p=none->Q (.ref p) (upd H p (.lst (jJ xs lo hi)))
theorem xX:SlR X (CS X.K):=by intro pins s σ H x v vl vu lo hi sl Q I rx hs pl pu h;obtain⟨a,xs,rfl,hx,q⟩:=h;cases rx;obtain⟨its,r,ht,hz⟩:=I.list hx;have hlen:=r.length;refine⟨"list",_,slot_list_getitem.lookup,ht.isList.typeIs,?_⟩;refine wpAny_getItem_list_slice ht.isList hs pl pu .none (by simp) ?_ (by rw[List.size_toArray] <;> omega);rw[kx,<- hlen];refine⟨.ref s.heap.objs.size,_,I.laid (t':=s.toks) (o:=.lst (jJ xs lo hi)) (λb ob q=>Heap.get?_push_of_some _ q) (Nat.le_refl _) ?_,rfl,q _ (I.hok.fresh (Nat.le_refl _))⟩;exact⟨Nat.le_trans (iO xs lo hi) hz,_,0,(r.drop (HT.sIx xs.length 0 lo)).take (HT.sIx xs.length xs.length hi-HT.sIx xs.length 0 lo),Heap.get?_push_size _ rfl⟩
theorem gm:eQ X (.builtin "len") (λxs H Q=>∃p ys,xs=[.ref p]/\(SqL X.K H p ys\/SqT X.K H p ys)/\Q (.int ys.length) H):=by
 intro pins s σ H xs us Q I r h;obtain⟨p,ys,rfl,hq,q⟩:=h;obtain⟨u,rfl,rx⟩:=vals1 r;cases rx;have hn:=mR;rcases hq with hq | hq
 . obtain⟨its,r',pl,hz⟩:=I.list hq;have hlen:=r'.length;exact Calls.call_len_list pl.isList (by simp only[List.size_toArray] <;> omega) ⟨.int ys.length,H,I.tok _,⟨s.toks+1,by rw[List.size_toArray,hlen]⟩,q⟩
 . obtain⟨its,r',pl,hz⟩:=I.tuple hq;have hlen:=r'.length;exact len_tuple pl (by simp only[List.size_toArray] <;> omega) ⟨.int ys.length,H,I.tok _,⟨s.toks+1,by rw[List.size_toArray,hlen]⟩,q⟩
theorem gS:eQ X (.type "list") (λxs H Q=>∃p ys,xs=[.ref p]/\(SqL X.K H p ys\/SqT X.K H p ys)/\∀l,H l=none->Q (.ref l) (upd H l (.lst ys))):=by
 intro pins s σ H xs us Q I r h;obtain⟨p,ys,rfl,hq,q⟩:=h;obtain⟨u,rfl,rx⟩:=vals1 r;cases rx
 have fin:∀(its:List Value),Vals ys its->ys.length<=sizeLine->∀(h':Heap) (c':Nat),(∀b o',s.heap.get? b=some o'->h'.get? b=some o') ->
     h'.get? s.heap.objs.size=some { cls:=.type "list",dict:=none,data:=.seq its.toArray c',slots:=#[] }->EP X pins σ Q (.ref s.heap.objs.size) { s with heap:=h' }:=λits r' hz h' c' kp e=>
   ⟨.ref s.heap.objs.size,_,I.laid (t':=s.toks) kp (Nat.le_refl _) (show bA X.prog X.w _ h' _ (.lst ys) from⟨hz,its,c',r',e⟩),rfl,q _ (I.hok.fresh (Nat.le_refl _))⟩
 rcases hq with hq | hq
 . obtain⟨its,r',pl,hz⟩:=I.list hq;have hlen:=r'.length;obtain⟨o,ho,hc,n,hd⟩:=pl.isList;exact call_list_seq p (.inl rfl) ho hc hd (λh' c' kp e=>fin its r' hz h' c' kp e) (by simp only[List.size_toArray] <;> omega)
 . obtain⟨its,r',pl,hz⟩:=I.tuple hq;have hlen:=r'.length;obtain⟨o,ho,hc,n,hd⟩:=pl;exact call_list_seq p (.inr rfl) ho hc hd (λh' c' kp e=>fin its r' hz h' c' kp e) (by simp only[List.size_toArray] <;> omega)
def tyV (K:PySem.W.Frag)(T:String)(x:V)(H:Hp):Prop:=match x with
 | .str _=>T = "str"
 | .int _=>T = "int"
 | .ref p=>(T = "list" /\ ∃xs,SqL K H p xs)\/(T = "tuple" /\ ∃o,K.lookup p=some o/\o.cls=.type "tuple" /\ o.dict=none) \/
     (T = "dict" /\ ((∃kvs,H p=some (.dK kvs))\/∃kvs,H p=some (.dT kvs)))\/(T = "set" /\ ∃S n,H p=some (.set S n))
 | _=>False
theorem AY {pins:List (Addr×Obj)}{σ:St}{H:Hp}{s:Shared}{T:String}{x:V}{v:Value}(I:Inv X pins σ H s)(r:RelV x v)(ty:tyV X.K T x H):
   s.TypeIs v T/\∀a,v=.ref a->∃ob,s.heap.get? a=some ob/\ob.dict=none:=by
 cases x with
 | str z=>obtain⟨t,rfl⟩:=r;cases (show T = "str" from ty);exact⟨typeIs_str s z t,λ_ e=>nomatch e⟩
 | int i=>obtain⟨t,rfl⟩:=r;cases (show T = "int" from ty);exact⟨typeIs_int s i t,λ_ e=>nomatch e⟩
 | ref p=>
   cases r;rcases ty with ⟨rfl,xs,hq⟩ | ⟨rfl,o,hk,hc,hd⟩ | ⟨rfl,hk⟩ | ⟨rfl,S,n,hk⟩
   . obtain⟨its,_,pl,_⟩:=I.list hq;refine⟨pl.isList.typeIs,λa e=>?_⟩;cases e;obtain⟨o,n,e,c,hd,_⟩:=pl;exact⟨o,e,hd⟩
   . refine⟨⟨o,I.kIn p o hk,hc⟩,λa e=>?_⟩;cases e;exact⟨o,I.kIn _ o hk,hd⟩
   . have z:∃o,s.heap.get? p=some o/\o.ExactDict:=by
       rcases hk with ⟨kvs,hk⟩ | ⟨kvs,hk⟩
       . obtain⟨_,_,_,_,o,_,_,e,ex,_⟩:=I.hok p _ hk;exact⟨o,e,ex⟩
       . obtain⟨_,_,_,_,o,_,_,e,ex,_⟩:=I.hok p _ hk;exact⟨o,e,ex⟩
     obtain⟨o,e,ex⟩:=z;refine⟨⟨o,e,ex.1⟩,λa e2=>?_⟩;cases e2;exact⟨o,e,ex.2.1⟩
   . obtain⟨o,_,_,_,e,ex,_⟩:=I.hok p _ hk;refine⟨⟨o,e,ex.1⟩,λa e2=>?_⟩;cases e2;exact⟨o,e,ex.2.1⟩
 | _=>exact False.elim ty
def tBM (K:PySem.W.Frag)(T:String)(r:V->List V->Hp->VK->Prop)(to:TE)(t:TA):TE:=λσ H Q=>to σ H λx H1=>tyV K T x H1/\t σ H1 λxs H2=>r x xs H2 Q
variable {o e:Expr}{es:List Expr}{to:TE}{t:TA}{name:Str}{apos cpos:Pos}{T id:String}{r:V->List V->Hp->VK->Prop}
theorem qz (pa:PlainAttrs T)(slot:Slot T name id)(hty:typeOf (.builtin id)=pure (.type "method_descriptor"))(hm:MtR X id r)(ho:PE X o to)(ha:PA X (e::es) t)
   (hbase:attributeBase o name X.env (eval o X.env)=eval o X.env:=by rfl)
   (hfew:((backTo cpos (starEach (e::es) X.env)).all (λx=>!x.1)&&(backToKw cpos (keywordEach [] X.env)).all (λx=>x.1.isSome)
     && decide ((e::es).length+([]:List Keyword).length+(if ([]:List Keyword).isEmpty then 0 else 1)<30))=true:=by rfl)
   (hline:(apos.endLine==cpos.line)=true:=by rfl) (hs:starEach (e::es) X.env=(false,eval e X.env)::starEach es X.env:=by rfl) (hplain:(backTo cpos (starEach es X.env)).any (·.1)=false:=by rfl) :
   PE X (.Call (.Attribute o name apos) (e::es) [] cpos) (tBM X.K T r to t):=by
 intro pins s σ H Q I h;refine wpAny_Call_method_late hbase hfew hline rfl (thn (ho pins s σ H _ I h) λv s1 ⟨x,H1,I1,r1,ty,q1⟩=>?_);obtain⟨h1,h2⟩:=AY I1 r1 ty;refine⟨T,id,pa,slot,hty,h1,h2,?_⟩;have hA:=ha cpos pins s1 σ H1 _ I1 q1;rw[hs]at hA ⊢;refine Calls.callWith_builtin (by show (false||(backTo cpos (starEach es X.env)).any (·.1))=false; rw[hplain] <;> rfl) (Calls.evalArgs_plain ?_);exact thn hA λus s2 ⟨vs,H2,I2,r2,q2⟩=>hm pins s2 σ H2 x vs v us Q I2 r1 r2 q2
end
def MtM (X:Cx)(id:String)(r:V->List V->Hp->VK->Prop):Prop:=
 ∀(pins:List (Addr×Obj)) (s:Shared) (σ:St) (H:Hp) (x:V) (xs:List V) (v:Value) (us:List Value) (Q:VK),Inv X pins σ H s->RelV x v->Vals xs us->r x xs H Q ->
   wpAny (model X.prog X.w) X.A (call (.builtin id) (v::us)) (EP X pins σ Q) X.xe s
theorem Vals.one:∀{x:V} {us:List Value},Vals [x] us->∃u,us=[u]/\RelV x u
 | _,_,.cons r .nil=>⟨_,rfl,r⟩
section
variable {X:Cx}{pins:List (Addr×Obj)}{σ:St}{H:Hp}{s:Shared}{l:Addr}{xs ys:List V}
theorem Inv.Cr {its its':List Value}{n:Nat}{f:Array Value->Array Value}{t':Nat}(I:Inv X pins σ H s)(hH:H l=some (.lst xs))
   (e:s.heap.get? l=some { cls:=.type "list",data:=.seq its.toArray n }) (hf:f its.toArray=its'.toArray) (hv:Vals ys its') (hz:ys.length<=sizeLine) :
   Inv X pins σ (upd H l (.lst ys)) { s with heap:=s.heap.update l (Obj.mapSeq f),toks:=t' }:=by
 have q:=PySem.IsL.update e f;rw[hf]at q;refine I.write (x:=l) (e:=l) (by rw[hH]; exact trivial) (.inl rfl) (λb' u hb hu=>(Heap.get?_update_other s.heap (Obj.mapSeq f) (Ne.symm hb)).trans hu) ⟨_,q⟩ ?_;exact⟨hz,its',_,hv,q⟩
theorem Inv.Di {its:List Value}{t':Nat}(I:Inv X pins σ H s)(hv:Vals ys its)(hz:ys.length<=sizeLine):
   Inv X pins σ (upd H s.heap.objs.size (.lst ys)) { s with heap:=s.heap.push { cls:=.type "list",data:=.seq its.toArray },toks:=t' }:=
 I.laid (λ_ _ q=>Heap.get?_push_of_some _ q) (Nat.le_refl _) ⟨hz,its,0,hv,Heap.get?_push_size _ rfl⟩
theorem Inv.fresh (I:Inv X pins σ H s):H s.heap.objs.size=none:=I.hok.fresh (Nat.le_refl _)
theorem Inv.yY (I:Inv X pins σ H s)(hH:H l=some (.lst xs)):xs.length<=sizeLine/\∃(its:List Value) (n:Nat),Vals xs its/\xs.length=its.length/\s.heap.get? l=some { cls:=.type "list",data:=.seq its.toArray n }:=by obtain⟨z,its,n,r,e⟩:=I.hok l _ hH;exact⟨z,its,n,r,r.length,e⟩
theorem uA {n:Nat}(h:n<=sizeLine):Builtin.List.listTooLong n=false:=by unfold Builtin.List.listTooLong;exact decide_eq_false (by omega)
end
section
variable {X:Cx}
noncomputable def w4:V->List V->Hp->VK->Prop:=λx vs H Q=>∃l xs y,x=.ref l/\vs=[y]/\H l=some (.lst xs)/\xs.length<sizeLine/\Q .non (upd H l (.lst (xs++[y])))
theorem dW:MtM X "list.append" w4:=by intro pins s σ H x vs v us Q I rx rv h;obtain⟨l,xs,y,rfl,rfl,hH,hz,q⟩:=h;cases rx;obtain⟨u,rfl,ru⟩:=rv.one;obtain⟨z,its,n,r,hl,e⟩:=I.yY hH;refine call_meets F.slot_list_append ⟨_,e,rfl⟩ F.entry_list_append (F.args_list_append_2 _ _) (PySem.list_append l its.toArray n u (by rw[List.size_toArray]; omega)) ⟨e,?_⟩;refine⟨.non,_,I.Cr (its':=its++[u]) hH e (by simp) (r.append (.cons ru .nil)) ?_,rfl,q⟩;rw[List.length_append,List.length_singleton];omega
noncomputable def xo:V->List V->Hp->VK->Prop:=λx vs H Q=>∃l b xs zs,x=.ref l/\vs=[.ref b]/\H l=some (.lst xs)/\H b=some (.lst zs)/\xs.length+zs.length<=sizeLine/\Q .non (upd H l (.lst (xs++zs)))
theorem sD:MtM X "list.extend" xo:=by
 intro pins s σ H x vs v us Q I rx rv h;obtain⟨l,b,xs,zs,rfl,rfl,hH,hB,hz,q⟩:=h;cases rx;obtain⟨u,rfl,ru⟩:=rv.one;cases ru;obtain⟨z,its,n,r,hl,e⟩:=I.yY hH;obtain⟨z2,its2,n2,r2,hl2,e2⟩:=I.yY hB;have hsz:its.toArray.size+its2.toArray.size<=sizeLine:=by rw[List.size_toArray,List.size_toArray]; omega
 have hlong:¬(!its.toArray.isEmpty&&Builtin.List.listTooLong (its.toArray.size+its2.toArray.size))=true:=by rw[uA hsz,Bool.and_false];exact Bool.false_ne_true
 refine call_meets F.slot_list_extend ⟨_,e,rfl⟩ F.entry_list_extend (F.args_list_extend_2 _ _)
   (AutoSeq1.list_extend_list_list_0 l its.toArray n b its2.toArray n2 hlong (by rw[List.size_toArray]; omega) (by omega)) ⟨e,e2,?_⟩
 refine⟨.non,_,I.Cr (its':=its++its2) hH e (by simp) (r.append r2) ?_,rfl,q⟩;rw[List.length_append];omega
end
end L2
namespace Att
open PySem PySem.W PySem.Calls PyProof.Rows
theorem iZ {P:Params}{h:Heap}:∀(ns:List Int) (vs:List Value),WellAll P h vs (ns.map WData.int)->IntsAre vs ns:=by
 intro ns;induction ns with
 | nil=>intro vs w;rw[List.map_nil]at w;cases w;exact .nil
 | cons n ns ih=>
   intro vs w;rw[List.map_cons]at w;cases w with
   | cons a b=>cases a;exact .cons _ _ (ih _ b)
theorem tj {l:OpenLaw}{n:Nat}(hn:l.most=some n){P:Params}{h:Heap}{args:List WData}{vals:List Value}
   (hpre:l.row.toRowW.claim.pre args=true) (hwl:WellAll P h vals args) :
   ∃a vs ns,vals=[Value.ref a]/\args=[WData.list (ns.map WData.int)]/\h.get? a=some { cls:=.type "list",data:=.seq vs.toArray }/\IntsAre vs ns/\ns.length<=n:=by
 have hsh:WShape.hasAll [] args [.list .int]=true:=(pre_splitW hpre).1;have hc:l.pre.holds [] { args:=args }=true:=(pre_splitW hpre).2;obtain⟨d,r,rfl,h1,h2⟩:=hasAllW_cons hsh;obtain rfl:=hasAllW_nil h2;obtain⟨xs,rfl,h3⟩:=hasW_list h1;obtain⟨ns,rfl⟩:=items_int h3
 have hlen:ns.length<=n:=by
   unfold OpenLaw.pre at hc;have h4:(WTm.not (.lt (.lit (.int (n:Int))) (.len (.arg 0)))).holds [] { args:=[.list (ns.map .int)] }=true:=by have h4:=(holds_andW hc).1;rw[hn]at h4;exact h4
   have h5:=condW_of h4 (w_not (w_lt w_lit (w_len_list (w_arg rfl))));rw[List.length_map]at h5;refine Nat.le_of_not_lt λq=>?_;have q':(n:Int)<((ns.length:Nat):Int):=by omega
   first
     | (rw[decide_eq_true q']at h5; exact absurd h5 (by decide))
     | (simp at h5; omega)
 cases hwl with
 | cons w1 w2=>
   cases w2;cases w1 with
   | list ho hall=>exact⟨_,_,ns,rfl,rfl,ho,iZ ns _ hall,hlen⟩
theorem sY (l:OpenLaw)(args:List WData):l.row.toRowW.claim.post args (.bool true) args=true:=
 postW_of (r:=l.row.toRowW) (X:=(true==true))
   (show WShape.has [] (.bool true) .bool=true by first | rfl | decide | simp[WShape.has,WShape.arms,WShape.armsAll])
   (show (WTm.eq .res (.lit (.bool true))).value [] { args:=args,res:=some (.bool true),after:=args }=some (.bool (true==true)) from w_eq_bool (w_res rfl) w_lit) rfl
theorem nQ {l:OpenLaw}{n:Nat}{q:Program}{loose:List Str}{XP:(Str->Option Value)->Heap->Prop}{YP:World->Heap->Prop}{d:DefRec}
   (hn:l.most=some n) (hdf:d.params.defaults=[])
   (call:∀(w:World) (s₀ s₁:Shared) (mg mb:Str->Option Value) (fa:Addr) (o:Obj) (pm cd doc:Value) (a:Addr) (vs:List Value) (ns:List Int),
     Ground q loose [] XP w s₀ mg mb s₁.heap->YP w s₁.heap ->
     s₁.heap.get? fa=some o->o.data=.func (docDef d.name d.params d.body d.scope pm cd doc)->s₁.heap.CodeRec cd d.name->mg d.name=some (.ref fa) ->
     s₁.heap.get? a=some { cls:=.type "list",data:=.seq vs.toArray }->IntsAre vs ns->ns.length<=n->s₁.gens=#[] ->
     codeAny (model l.prog w) callerA (.call (.ref fa) ⟨[.ref a],[]⟩) (λr s'=>r=.ok (.ret (.bool true))/\OldK s₁.heap s'.heap/\s'.os=s₁.os/\AllBare s'.gens) s₁) :
   WalkO q loose XP YP l.row.toRowW d [] (λf vs=>PySem.call f vs):=by
 intro w s₀ s₁ mg mb G Y fa o pm cd doc dV kV ho hd hcd hD hmg hg args vals as hpre hlay hrd hwl hlo;obtain rfl:dV=.none:=Dflts.none hD hdf;obtain rfl:kV=.none:=Dflts.noKw hD;obtain⟨a,vs,ns,rfl,rfl,hobj,hints,hlen⟩:=tj hn hpre hwl;refine enter_call (codeAny_mono (call w s₀ s₁ mg mb fa o pm cd doc a vs ns G Y ho (fd_plain hd) hcd hmg hobj hints hlen hg) λr s' hq=>?_);obtain⟨rfl,h2,h3,h4⟩:=hq;exact⟨.inl ⟨.bool true,.bool true,[],rfl,λ_=>rfl,.bool true,sY l _,λ_=>⟨List.Pairwise.nil,λ_ hm=>(nomatch hm)⟩⟩,h2,h3,h4⟩
end Att
namespace L2
open PySem PySem.Spec PyProof.Rows
theorem kK:∀{vs:List Value} {ns:List Int},IntsAre vs ns->Vals (ns.map V.int) vs
 | _,_,.nil=>.nil
 | _,_,.cons n t h=>.cons ⟨t,rfl⟩ (kK h)
def Ae (H:Hp):Prop:=∀b,H b=none\/∃o xs,H b=some (.frz o (.lst xs))
theorem vU {P:Program}{w:World}{K:PySem.W.Frag}{mg mb:Str->Option Value}{CX:CXT}{k:Nat}{fa a:Addr}{fd:FuncData}{x:Str}{sp:Sp}{s₁:Shared}{vs:List Value}{ns:List Int}
   (KX:K.In s₁.heap) (hns:s₁.heap.Ns mainGlobals mg) (hb:s₁.heap.Ns builtinsNs mb) (hbb:∀x:Str,x ≠ "__name__" -> mb x=bootBuiltins x) (hlim:s₁.heap.NoLimit) (hg:s₁.gens=#[])
   (ha:s₁.heap.get? a=some { cls:=.type "list",data:=.seq vs.toArray }) (hi:IntsAre vs ns) (hl:ns.length<=sizeLine) (hr:e7 k callerA)
   (F:∀base:Heap,K.In base->base.Ns mainGlobals mg->a4 P w K mg base CX k fa fd [x] sp) (hbind:∀(s:Shared) (u:Value),BindsTo s fd ⟨[u],[]⟩ [(x,u)])
   (hsp:∀H:Hp,Ae H->SqL K H a (ns.map V.int)->sp [.ref a] H (λv _=>v=.bl true) λ_ _ _=>False)
   (hCX:∀H e s',CX [] H s₁ (λ_ _ _=>False) e s'->False) :
   codeAny (model P w) callerA (.call (.ref fa) ⟨[.ref a],[]⟩) (λr s'=>r=.ok (.ret (.bool true))/\OldK s₁.heap s'.heap/\s'.os=s₁.os/\AllBare s'.gens) s₁:=by
 have rv:=kK hi;have lenV:=hi.length
 have core:∀H:Hp,Ae H->SqL K H a (ns.map V.int)->HOk P w H s₁.heap->(∀b,H b≠none->b=a)->(H a≠none->K.lookup a=none) ->
     codeAny (model P w) callerA (.call (.ref fa) ⟨[.ref a],[]⟩) (λr s'=>r=.ok (.ret (.bool true))/\OldK s₁.heap s'.heap/\s'.os=s₁.os/\AllBare s'.gens) s₁:=by
   intro H hO hS hok hA hK;have base_of:∀{b:Addr} {o:Obj},s₁.heap.get? b=some o->H b=none->(mD s₁.heap H).get? b=some o:=λe n=>uH e n
   have noA:∀{b:Addr} {o:Obj} {es:Array DictEntry} {ep:Nat},s₁.heap.get? b=some o->o.data=.dict es ep->H b=none:=λ{b o es ep} e d=>by
     cases q:H b with
     | none=>rfl
     | some u=>have e':b=a:=hA b (by rw[q]; simp);subst e';rw[ha]at e; cases e;have d':Data.seq vs.toArray _=Data.dict es ep:=d;cases d'
   have nsK:∀{b:Addr} {m:Str->Option Value},s₁.heap.Ns b m->(mD s₁.heap H).Ns b m:=λ{b m} ⟨o,es,ep,e,d,r⟩=>⟨o,es,ep,base_of e (noA e d),d,r⟩
   have hKb:K.In (mD s₁.heap H):=λb o e=>base_of (KX b o e) (by
     cases q:H b with
     | none=>rfl
     | some u=>
       have e':b=a:=hA b (by rw[q]; simp);subst e';rw[hK (by rw[q]; simp)]at e; cases e)
   have hM:Mod K mg (mD s₁.heap H):=⟨hKb,nsK hns,⟨mb,nsK hb,hbb⟩,let ⟨mc,h1,h2⟩:=hlim; ⟨mc,nsK h1,h2⟩⟩;have e0:xi P w K mg (mD s₁.heap H) callerA [] s₁ H:=⟨rfl,hM,λb o e=>xp e,Nat.le_of_eq (sF _ _),trivial,λb hb=>absurd (show b∈([]:List Addr) from hb) (by simp),hok,.of_eq hg⟩;refine codeAny_mono ((F _ hKb (nsK hns)).run callerA [] s₁ H ⟨[.ref a],[]⟩ [.ref a] [.ref a] _ _ hr e0 (hbind s₁ (.ref a)) (.cons rfl .nil) (hsp H hO hS)) λr s' h=>?_;cases r with
   | error e=>exact(hCX H e s' h).elim
   | ok fl=>
     cases fl with
     | next=>exact False.elim h
     | brk=>exact False.elim h
     | cont=>exact False.elim h
     | ret u=>
       obtain⟨v,H',os,bare,un,hok',r',q⟩:=h;have q':v=.bl true:=q;subst q';obtain rfl:u=Value.bool true:=r';refine⟨rfl,OldK.of_keep λb o e=>?_,os,bare⟩;cases q:H b with
       | none=>exact un.keep b o e q (by intro z; exact absurd (show b∈([]:List Addr) from z) (by simp)) (by simp)
       | some u=>
         rcases hO b with z | ⟨ob,xs,z⟩
         . rw[q]at z; cases z
         . have z2:=un.frzs b ob _ z;obtain⟨e1,_⟩:=hok b _ z;obtain⟨e2,_⟩:=hok' b _ z2;rw[e]at e1; cases e1;exact e2
 cases hk:K.lookup a with
 | some o=>have e:=KX a o hk;rw[ha]at e;cases e;refine core (λ_=>none) (λ_=>.inl rfl) (.inr ⟨_,vs.toArray,_,hk,rfl,rfl,rfl,by rw[List.size_toArray,lenV]; exact hl,by simpa using rv⟩) (λb u z=>by have z':(none:Option HO)=some u:=z; cases z') (λb z=>absurd rfl z) λz=>absurd rfl z
 | none=>
   refine core (λb=>if b=a then some (.frz { cls:=.type "list",data:=.seq vs.toArray } (.lst (ns.map V.int))) else none) (λb=>?_) (.inl (.inr ⟨{ cls:=.type "list",data:=.seq vs.toArray },if_pos rfl⟩)) (λb u z=>?_) (λb z=>?_) λ_=>hk
   . by_cases hb:b=a
     . exact .inr ⟨_,_,if_pos hb⟩
     . exact .inl (if_neg hb)
   . by_cases hb:b=a
     . have z':=(if_pos hb).symm.trans z;cases z';subst hb;exact⟨ha,by rw[List.length_map]; exact hl,vs,_,rv,ha⟩
     . have z':=(if_neg hb).symm.trans z;cases z'
   . by_cases hb:b=a
     . exact hb
     . exact absurd (if_neg hb) z
theorem xv {l:PySem.W.OpenLaw}{n k:Nat}{q:Program}{loose:List Str}{XP:(Str->Option Value)->Heap->Prop}{YP:World->Heap->Prop}{d:DefRec}{K:Params->PySem.W.Frag}{CX:World->CXT}{sp:World->Sp}{x:Str}
   (hn:l.most=some n) (hn2:n<=sizeLine) (hdf:d.params.defaults=[]) (hr:e7 k callerA)
   (hY:∀(w:World) (h:Heap),YP w h->(K w.params).In h)
   (F:∀(w:World) (mg:Str->Option Value) (fa:Addr) (h:Heap),(K w.params).In h->h.Ns mainGlobals mg->mg d.name=some (.ref fa) ->
     ∃fd:FuncData,(∀(s:Shared) (u:Value),BindsTo s fd ⟨[u],[]⟩ [(x,u)]) /\
       ∀base:Heap,(K w.params).In base->base.Ns mainGlobals mg->a4 l.prog w (K w.params) mg base (CX w) k fa fd [x] (sp w))
   (hsp:∀(w:World) (H:Hp) (a:Addr) (ns:List Int),ns.length<=n->Ae H->SqL (K w.params) H a (ns.map V.int)->sp w [.ref a] H (λv _=>v=.bl true) λ_ _ _=>False)
   (hCX:∀(w:World) (H:Hp) (s:Shared) (e:Value) (s':Shared),CX w [] H s (λ_ _ _=>False) e s'->False) :
   PySem.W.WalkO q loose XP YP l.row.toRowW d [] (λf vs=>PySem.call f vs):=by
 refine Att.nQ hn hdf λw s₀ s₁ mg mb fa o pm cd doc a vs ns G Y ho hd hcd hmg hobj hints hlen hg=>?_;have KX:=hY w _ Y;obtain⟨fd,hb,hF⟩:=F w mg fa _ KX G.T.g hmg;exact vU KX G.T.g G.T.b G.T.builtins G.T.nolimit hg hobj hints (Nat.le_trans hlen hn2) hr hF hb (λH hO hS=>hsp w H a ns hlen hO hS) λH e s'=>hCX w H s₁ e s'
noncomputable def d8 (s:Stmt):Arguments:=match s with
 | .FunctionDef _ a _ _ _ _ _ _ _ _=>a
 | _=>{ posonlyargs:=[],args:=[],vararg:=none,kwonlyargs:=[],kw_defaults:=[],kwarg:=none,defaults:=[] }
noncomputable def cH (s:Stmt):List Stmt:=match s with
 | .FunctionDef _ _ b _ _ _ _ _ _ _=>b
 | _=>[]
noncomputable def ak (s:Stmt):Scope:=match s with
 | .FunctionDef _ _ _ _ _ _ sc _ _ _=>sc
 | _=>{ kind:=.function,names:=[],isGenerator:=false,isCoroutine:=false }
noncomputable abbrev CX0:CXT:=λ_ _ _ _ _ _=>False
noncomputable abbrev E0:XK:=λ_ _ _=>False
theorem yt {X:Cx}:Passes CX0 X E0:=λ_ _ _ _ _ _ _ h=>h.elim
structure Fun (K:PySem.W.Frag)(x qual:Str)(st:Stmt)(f:Addr)(fd:FuncData):Prop where
 ex:∃(oc:Value) (od:Option Addr) (dV kV doc pm:Value) (an:Option Addr) (cdv ct:Value) (osl:Array (Option Value)),
   fd=PySem.W.fnOf x qual (d8 st) (cH st) (ak st) dV kV doc pm an cdv ct/\K.lookup f=some ⟨oc,od,.func fd,osl⟩/\PySem.W.codeIn K cdv qual=true
 kp:PySem.W.keepIn K (.ref f)=true
section
variable {P:Program}{w:World}{K:PySem.W.Frag}{mg:Str->Option Value}{base:Heap}
theorem Fun.ok {x qual:Str}{st:Stmt}{f:Addr}{fd:FuncData}{N ps:List Str}{k:Nat}{sp:Sp}(F:Fun K x qual st f fd)(S:aF N ps (ak st))(len:∀vs H Q E,sp vs H Q E->vs.length=ps.length)
   (hbody:∀(cdv:Value) (A:Around) (outer:List Env) (s:Shared) (H:Hp) (vs:List V) (Q:VK) (E:XK),e7 k (A.deeper (envOfC qual (ak st) s.heap.objs.size f cdv))->sp vs H Q E ->
     ∃t,PSs (oX CX0 P w K mg base N qual (ak st) f cdv A outer s H E).nox (cH st) t/\t { nx:=λ_ H'=>Q .non H',rt:=Q } (start N vs) H):a4 P w K mg base CX0 (k+1) f fd ps sp:=by
 obtain⟨oc,od,dV,kV,doc,pm,an,cdv,ct,osl,rfl,lk,hcd⟩:=F.ex;refine Cy lk hcd S len λA outer s H vs Q E hr hsp=>?_;obtain⟨t,h,q⟩:=hbody cdv A outer s H vs Q E hr hsp;exact⟨t,h.nox,q⟩
theorem Fun.binds {x qual:Str}{st:Stmt}{f:Addr}{fd:FuncData}{ps:List Str}(_:Fun K x qual st f fd)(h:∀us:List Value,us.length=ps.length->bindArgs fd ⟨us,[]⟩=pure (ps.zip us)):Binds K fd ps []:=.all h
theorem uv {x qual:Str}{st:Stmt}{f:Addr}{oc:Value}{od an:Option Addr}{osl:Array (Option Value)}{dV kV doc pm cdv ct:Value}(l:K.lookup f=some ⟨oc,od,.func (PySem.W.fnOf x qual (d8 st) (cH st) (ak st) dV kV doc pm an cdv ct),osl⟩)
   (c:PySem.W.codeIn K cdv qual=true) (k:PySem.W.keepIn K (.ref f)=true):Fun K x qual st f (PySem.W.fnOf x qual (d8 st) (cH st) (ak st) dV kV doc pm an cdv ct):=⟨⟨oc,od,dV,kV,doc,pm,an,cdv,ct,osl,rfl,l,c⟩,k⟩
end
theorem hX {n:Nat}(h:n<=1000):n<sizeLine:=Nat.lt_of_le_of_lt h (by decide)
section
variable {X:Cx}
theorem pv (i:Nat){x:Str}{pos:Pos}(hN:X.N[i]?=some x:=by rfl)(hv:Vis X.env.scope x:=by first | exact Or.inl rfl | exact Or.inr (Or.inl rfl) | exact Or.inr (Or.inr rfl))(hd:(x==("__debug__" : Str))=false:=by decide)
   (hcd:(x==("__classdict__" : Str))=false:=by decide):PE X (.Name x pos) (B1 i):=bI hN hv hd hcd
end
theorem pY {A B:Prop}(h:B):if false=true then A else B:=by rw[if_neg Bool.false_ne_true];exact h
theorem oj {A B:Prop}(h:A):if true=true then A else B:=by rw[if_pos rfl];exact h
def ah (H H':Hp):Prop:=∀b o,H b=some o->H' b=some o
theorem ah.refl (H:Hp):ah H H:=λ_ _ h=>h
theorem ah.trans {H H1 H2:Hp}(a:ah H H1)(b:ah H1 H2):ah H H2:=λc o h=>b c o (a c o h)
theorem ah.free {H H':Hp}(e:ah H H'){l:Addr}(h:H' l=Option.none):H l=Option.none:=by
 cases q:H l with
 | none=>rfl
 | some o=>rw[e l o q]at h;cases h
theorem ah.seq {K:PySem.W.Frag}{H H':Hp}{a:Addr}{xs:List V}(e:ah H H')(h:SqL K H a xs):SqL K H' a xs:=by
 rcases h with (h | ⟨o,h⟩) | h
 . exact .inl (.inl (e _ _ h))
 . exact .inl (.inr ⟨o,e _ _ h⟩)
 . exact .inr h
end L2
set_option linter.all false
set_option maxRecDepth 100000
namespace Ev
open PySem PySem.Spec PyProof.Rows L2
structure Bx where
 p:PySem.W.Frag->Hp->Addr->Prop
 mono:∀{K:PySem.W.Frag} {H H':Hp} {a:Addr},ah H H'->p K H a->p K H' a
 isd:∀{K:PySem.W.Frag} {H:Hp} {a:Addr},p K H a->∃o:HO,H a=some o/\∀(P:Program) (w:World) (H':Hp) (h:Heap),bA P w H' h a o->∃ob,h.get? a=some ob/\ob.cls=.type "dict"
inductive D where
 | non | bl (b:Bool) | int (i:Int) | str (x:Str) | tup (xs:List D) | lst (xs:List D) | box (x:Bx)
noncomputable instance:Inhabited D:=⟨.non⟩
mutual
inductive Den (K:PySem.W.Frag)(H:Hp):V->D->Prop where
 | non:Den K H .non .non
 | bl {b:Bool}:Den K H (.bl b) (.bl b)
 | int {i:Int}:Den K H (.int i) (.int i)
 | str {x:Str}:Den K H (.str x) (.str x)
 | tup {a:Addr} {vs:List V} {ds:List D} (h:SqT K H a vs) (r:aq K H vs ds):Den K H (.ref a) (.tup ds)
 | lst {a:Addr} {vs:List V} {ds:List D} (h:SqL K H a vs) (r:aq K H vs ds):Den K H (.ref a) (.lst ds)
 | box {a:Addr} {x:Bx} (h:x.p K H a):Den K H (.ref a) (.box x)
inductive aq (K:PySem.W.Frag)(H:Hp):List V->List D->Prop where
 | nil:aq K H [] []
 | cons {v:V} {d:D} {vs:List V} {ds:List D} (h:Den K H v d) (r:aq K H vs ds):aq K H (v::vs) (d::ds)
end
section
variable {K:PySem.W.Frag}{H H':Hp}
theorem aU (e:ah H H'){a:Addr}{xs:List V}(h:SqT K H a xs):SqT K H' a xs:=by
 rcases h with (h | ⟨o,h⟩) | h
 . exact .inl (.inl (e _ _ h))
 . exact .inl (.inr ⟨o,e _ _ h⟩)
 . exact .inr h
theorem aO (e:ah H H'){a:Addr}{xs:List V}(h:SqL K H a xs):SqL K H' a xs:=e.seq h
mutual
theorem Den.mono (e:ah H H'):∀{v:V} {d:D},Den K H v d->Den K H' v d
 | _,_,.non=>.non
 | _,_,.bl=>.bl
 | _,_,.int=>.int
 | _,_,.str=>.str
 | _,_,.tup h r=>.tup (aU e h) (aq.mono e r)
 | _,_,.lst h r=>.lst (aO e h) (aq.mono e r)
 | _,_,.box (x:=x) h=>.box (x.mono e h)
theorem aq.mono (e:ah H H'):∀{vs:List V} {ds:List D},aq K H vs ds->aq K H' vs ds
 | _,_,.nil=>.nil
 | _,_,.cons h r=>.cons (Den.mono e h) (aq.mono e r)
end
theorem aq.length:∀{vs:List V} {ds:List D},aq K H vs ds->vs.length=ds.length
 | _,_,.nil=>rfl
 | _,_,.cons _ r=>congrArg (·+1) r.length
theorem aq.get:∀{vs:List V} {ds:List D} {i:Nat} {d:D},aq K H vs ds->ds[i]?=some d->∃v,vs[i]?=some v/\Den K H v d
 | _,_,_,_,.nil,e=>by simp at e
 | _,_,0,_,.cons h _,e=>by simp at e; subst e; exact⟨_,rfl,h⟩
 | _,_,i+1,d,.cons _ r,e=>by obtain⟨v,h1,h2⟩:=aq.get (i:=i) (d:=d) r (by simpa using e);exact⟨v,by simpa using h1,h2⟩
theorem aq.append:∀{xs ys:List V} {ds es:List D},aq K H xs ds->aq K H ys es->aq K H (xs++ys) (ds++es)
 | _,_,_,_,.nil,s=>s
 | _,_,_,_,.cons h r,s=>.cons h (aq.append r s)
theorem aq.take:∀{xs:List V} {ds:List D} (n:Nat),aq K H xs ds->aq K H (xs.take n) (ds.take n)
 | _,_,0,_=>.nil
 | _,_,_+1,.nil=>.nil
 | _,_,n+1,.cons h r=>.cons h (aq.take n r)
theorem aq.drop:∀{xs:List V} {ds:List D} (n:Nat),aq K H xs ds->aq K H (xs.drop n) (ds.drop n)
 | _,_,0,r=>r
 | _,_,_+1,.nil=>.nil
 | _,_,n+1,.cons _ r=>aq.drop n r
end
def aD (i j:Int):Prop:=i.natAbs.log2<64\/j.natAbs.log2<64\/(i.natAbs.log2<1000000/\j.natAbs.log2<1000000)
def aH (j:Int):Prop:=j≠0/\j.natAbs.log2<9000
theorem ai {H:Hp}{p:Addr}(h:H p=none)(o:HO):ah H (upd H p o):=λb u q=>by rw[au (aS q h)]; exact q
noncomputable def Ite (K:PySem.W.Frag)(a:Addr):L2.It:=⟨λi H=>∃xs x,SqL K H a xs/\xs[i]?=some x,λi H v H'=>∃p x,H p=none/\v=.ref p/\H'=upd H p (.tup [.int (i:Nat),x])/\∀xs,SqL K H a xs->xs[i]?=some x,λi H=>∃xs,SqL K H a xs/\xs.length<=i⟩
theorem sP {P:Program}{w:World}{K:PySem.W.Frag}{ts:List Expr}{q:Nat}{tp:Pos}(a e it:Addr)(hne:e≠it):
   Turn P w K false (.Tuple ts q tp) (Ite K a) [e,it] e (λi h=>(∃old,IsEnum h e it (i:Nat) old)/\h.IsListIter it a i) where
 mem:=by simp
 obj:=λi h st b hb=>by
   obtain⟨⟨old,h1⟩,o,h2,h3,h4⟩:=st;rcases List.mem_cons.mp hb with rfl | hb
   . exact⟨_,h1,λv z=>nomatch z⟩
   . have z:b=it:=by simpa using hb
     subst z;exact⟨o,h2,λv z=>by rw[h4]at z; cases z⟩
 keep:=λi h h' st k=>by obtain⟨⟨old,h1⟩,o,h2,h3,h4⟩:=st;exact⟨⟨old,k e (by simp) _ h1⟩,o,k it (by simp) o h2,h3,h4⟩
 item:=by
   intro X hP hw hK hc i pins s σ H E I hf st hg;subst hP hw hK;obtain⟨xs,x,hq,hx⟩:=hg;obtain⟨its,rv,p,hz⟩:=I.list hq;obtain⟨u,hu,ru⟩:=rv.get hx;obtain⟨⟨old,h1⟩,h2⟩:=st;have fe:=hf e (by simp);have fi:=hf it (by simp);refine wpAny_pyNext_enum_item h1 h2 p.isList (x:=u) (by simpa using hu) hne λh' g1 g2 g3 g4 g5=>⟨_,rfl,?_⟩;refine wpAny_letOwnedTupleGo_enum (s:={ s with heap:=h',toks:=s.toks+1 }) g1 λh2' k1 k2=>?_;have hn:H s.heap.objs.size=none:=I.hok.fresh (Nat.le_refl _);have le1:e<s.heap.objs.size:=Heap.lt_size h1;have le2:it<s.heap.objs.size:=by obtain⟨o,z,_⟩:=h2; exact Heap.lt_size z
   have kp:∀b o,b≠e->b≠it->s.heap.get? b=some o->h2'.get? b=some o:=λb o b1 b2 z=>(k2.2 b b1).trans (g5 b o b1 b2 z);have nt:h2'.get? s.heap.objs.size=some { cls:=.type "tuple",data:=.seq #[.int (i:Nat) s.toks,u] }:=(k2.2 _ (Nat.ne_of_gt le1)).trans g3;have ne1:∀b v,H b=some v->b≠e:=λb v z q=>by rw[q,fe.1]at z; cases z
   have ne2:∀b v,H b=some v->b≠it:=λb v z q=>by rw[q,fi.1]at z; cases z
   have hok0:HOk X.prog X.w H h2':=λb v z=>(I.hok b v z).kf (λc v' hc' q=>kp c v' (by
       rcases hc' with hc' | hc'
       . rw[hc']; exact ne1 b v z
       . exact ne1 c _ hc') (by
       rcases hc' with hc' | hc'
       . rw[hc']; exact ne2 b v z
       . exact ne2 c _ hc') q) (λ_ q=>q) λ_ _ q=>q
   have hok1:HOk X.prog X.w (upd H s.heap.objs.size (.tup [.int (i:Nat),x])) h2':=λb v z=>by
     by_cases hb:b=s.heap.objs.size
     . subst hb;rw[aB]at z; cases z;exact⟨(by show 2<=sizeLine; decide),[.int (i:Nat) s.toks,u],.cons ⟨_,rfl⟩ (.cons ru .nil),_,nt,rfl,_,rfl⟩
     . rw[au hb]at z;exact(hok0 b v z).kf (λc v' _ q=>q) (λc q=>by rw[au (aS q hn)]; exact q) λc ys q=>by rw[au (aS q hn)]; exact q
   have I1:Inv X pins σ (upd H s.heap.objs.size (.tup [.int (i:Nat),x])) { s with heap:=h2',toks:=s.toks+1 }:=by
     refine I.step (g':=s.gens) (d':=s.drawn) (ch:=[e,it]) (λb hb=>?_) (λb o _ _ hc' z _=>kp b o (λq=>hc' (by simp[q])) (λq=>hc' (by simp[q])) z)
       (λb o _ _ hc' z _=>⟨o.slots,kp b o (λq=>hc' (by simp[q])) (λq=>hc' (by simp[q])) z⟩)
       (λb o hc' z n=>by rw[au (Nat.ne_of_lt (Heap.lt_size z))]; exact n) (λb o hc' z=>⟨o,kp b o (λq=>hc' (by simp[q])) (λq=>hc' (by simp[q])) z⟩)
       (λb ys z=>by rw[au (aS z hn)]; exact z) (λb o u z=>by rw[au (aS z hn)]; exact z) (λb ps z=>⟨#[],by rw[au (aS z hn),z]; simp⟩) (λm hm=>?_) hok1 I.bare
     . rcases List.mem_cons.mp hb with rfl | hb
       . exact⟨fe.2.2.2.1,fe.2.1,fe.2.2.2.2.1,fe.2.2.2.2.2⟩
       . have z:b=it:=by simpa using hb
         subst z;exact⟨fi.2.2.2.1,fi.2.1,fi.2.2.2.2.1,fi.2.2.2.2.2⟩
     . obtain⟨o,es,ep,ho,r⟩:=hm;exact⟨o,es,ep,kp _ o (Ne.symm fe.2.1) (Ne.symm fi.2.1) ho,r⟩
   refine⟨.ref s.heap.objs.size,_,I1,rfl,⟨s.heap.objs.size,x,hn,rfl,rfl,λys hy=>by rw[I.fu hy hq]; exact hx⟩,⟨⟨_,k1⟩,?_⟩,λb hb=>?_⟩
   . obtain⟨o,z1,z2,z3⟩:=g2;exact⟨o,(k2.2 it (Ne.symm hne)).trans z1,z2,z3⟩
   . rcases List.mem_cons.mp hb with rfl | hb
     . rw[au (Nat.ne_of_lt le1)]; exact fe.1
     . have z:b=it:=by simpa using hb
       subst z;rw[au (Nat.ne_of_lt le2)]; exact fi.1
 done:=by intro X hP hw hK hc i pins s σ H E I hf st hg;subst hP hw hK;obtain⟨xs,hq,hx⟩:=hg;obtain⟨its,rv,p,hz⟩:=I.list hq;obtain⟨⟨old,h1⟩,h2⟩:=st;obtain⟨f0,f1,f2,f3,f4,f5⟩:=hf it (by simp);have hl:=rv.length;exact wpAny_pyNext_enum_end (I.ok.hd hc.calm) h1 h2 p.isList (by simp; omega) λh' eb=>⟨rfl,I.turned (t':=s.toks) (λb o hb z=>eb b o hb z) f0 f1 f3 f4 f5⟩
 self:=λ_ _ _ _ _ st h=>by obtain⟨⟨old,h1⟩,_⟩:=st;exact wpAny_pyIter_enum h1 h
section
variable {X:Cx}
def yQ (K:PySem.W.Frag)(ta:TA):TI:=λσ H R=>ta σ H λvs H1=>∃a,vs=[.ref a]/\(∃xs,SqL K H1 a xs)/\R (Ite K a) H1
theorem tu:bootBuiltins "enumerate" = some (.type "enumerate"):=by decide +kernel
theorem lG {ts:List Expr}{q:Nat}{tp:Pos}{a:Expr}{ta:TA}{p pos:Pos}(hc:X.calm=true)(hg:Gl X "enumerate")(hm:X.mg "enumerate" = none)(ha:PA X [a] ta)(hs:starEach [a] X.env=[(false,eval a X.env)]):
   PI X (.Tuple ts q tp) (.Call (.Name "enumerate" p) [a] [] pos) (yQ X.K ta):=by
 intro pins s σ H R I h;refine Call_ (dN I hg hm tu (PyProof.Rows.callWith_type1 (thn (ha pos pins s σ H _ I h) λus s1 ⟨vs,H1,I1,r1,q1⟩=>?_) hs rfl));obtain⟨l,e,⟨xs,hq⟩,q⟩:=q1;subst e;obtain⟨u,rfl,ru⟩:=vals1 r1;cases ru;obtain⟨its,rv,pl,hz⟩:=I1.list hq;refine call_enumerate_list pl.isList λh' g1 g2 g3 g4=>?_;refine wpAny_pyIter_enum (s:={ s1 with heap:=h' }) g1 ?_;have I2:Inv X pins σ H1 { s1 with heap:=h' }:=I1.kept (t':=s1.toks) g4;have n1:H1 (s1.heap.objs.size+1)=none:=I1.hok.fresh (by omega);have n2:H1 s1.heap.objs.size=none:=I1.hok.fresh (Nat.le_refl _);refine⟨false,s1.heap.objs.size+1,[s1.heap.objs.size+1,s1.heap.objs.size],_,_,H1,rfl,I2,.inl hc,sP l (s1.heap.objs.size+1) s1.heap.objs.size (Nat.succ_ne_self _),⟨⟨_,g1⟩,g2⟩,λb hb=>?_,q⟩;rcases List.mem_cons.mp hb with rfl | hb
 . exact I1.jX (by omega) n1
 . have z:b=s1.heap.objs.size:=by simpa using hb
   subst z;exact I1.jX (Nat.le_refl _) n2
end
noncomputable def Itz (K:PySem.W.Frag)(a b:Addr):L2.It:=
 ⟨λi H=>∃xs ys x y,SqL K H a xs/\SqL K H b ys/\xs[i]?=some x/\ys[i]?=some y,
  λi H v H'=>∃p x y,H p=none/\v=.ref p/\H'=upd H p (.tup [x,y])/\(∀xs,SqL K H a xs->xs[i]?=some x)/\∀ys,SqL K H b ys->ys[i]?=some y,
  λi H=>∃xs ys,SqL K H a xs/\SqL K H b ys/\(xs.length<=i\/ys.length<=i)⟩
def zSt (a b z TI TO i1 i2:Addr)(i:Nat)(h:Heap):Prop:=IsZip h z TI TO .none/\IsPair h TI (.ref i1) (.ref i2)/\(∃u v,IsPair h TO u v)/\h.IsListIter i1 a i/\h.IsListIter i2 b i
theorem lb {h:Heap}{a b z TI TO i1 i2:Addr}{i:Nat}{xs ys:Array Value}(n:TI≠TO)(m:i1≠i2)(s:zSt a b z TI TO i1 i2 i h)(l1:h.IsList a xs)(l2:h.IsList b ys):ZipApart z TI TO i1 i2 a b:=by
 obtain⟨h1,h2,⟨u,v,h3⟩,⟨o4,h4,c4,d4⟩,⟨o5,h5,c5,d5⟩⟩:=s;obtain⟨o6,h6,c6,n6,d6⟩:=l1;obtain⟨o7,h7,c7,n7,d7⟩:=l2;have kk:∀{x y:Addr} {o p:Obj},h.get? x=some o->h.get? y=some p->o.cls≠p.cls->x≠y:=λe1 e2 c q=>by subst q; rw[e1]at e2; cases e2; exact c rfl
 have cz:∀{s t:String},s≠t->Value.type s≠Value.type t:=λn q=>n (by cases q; rfl);refine⟨kk h2 h1 (cz (by decide)),kk h3 h1 (cz (by decide)),kk h4 h1 ?_,kk h5 h1 ?_,n,kk h2 h4 ?_,kk h2 h5 ?_,kk h3 h4 ?_,kk h3 h5 ?_,m,kk h6 h1 ?_,kk h6 h3 ?_,kk h6 h4 ?_,kk h6 h5 ?_,kk h7 h1 ?_,kk h7 h3 ?_,kk h7 h4 ?_,kk h7 h5 ?_⟩
 all_goals first | (rw[c4]; exact cz (by decide)) | (rw[c5]; exact cz (by decide)) | (rw[c6]; exact cz (by decide)) | (rw[c7]; exact cz (by decide)) | (rw[c6,c4]; exact cz (by decide)) | (rw[c6,c5]; exact cz (by decide)) | (rw[c7,c4]; exact cz (by decide)) | (rw[c7,c5]; exact cz (by decide))
theorem vX {P:Program}{w:World}{K:PySem.W.Frag}{ts:List Expr}{q:Nat}{tp:Pos}(a b z TI TO i1 i2:Addr)(nT:TI≠TO)(nI:i1≠i2):
   Turn P w K false (.Tuple ts q tp) (Itz K a b) [z,TI,TO,i1,i2] z (zSt a b z TI TO i1 i2) where
 mem:=by simp
 obj:=λi h st c hb=>by
   obtain⟨h1,h2,⟨u,v,h3⟩,⟨o4,h4,c4,d4⟩,⟨o5,h5,c5,d5⟩⟩:=st;simp only[List.mem_cons,List.not_mem_nil,or_false]at hb;rcases hb with rfl | rfl | rfl | rfl | rfl
   . exact⟨_,h1,λv z=>nomatch z⟩
   . exact⟨_,h2,λv z=>nomatch z⟩
   . exact⟨_,h3,λv z=>nomatch z⟩
   . exact⟨_,h4,λv z=>by rw[d4]at z; cases z⟩
   . exact⟨_,h5,λv z=>by rw[d5]at z; cases z⟩
 keep:=λi h h' st k=>by obtain⟨h1,h2,⟨u,v,h3⟩,⟨o4,h4,c4,d4⟩,⟨o5,h5,c5,d5⟩⟩:=st;exact⟨k z (by simp) _ h1,k TI (by simp) _ h2,⟨u,v,k TO (by simp) _ h3⟩,⟨o4,k i1 (by simp) _ h4,c4,d4⟩,⟨o5,k i2 (by simp) _ h5,c5,d5⟩⟩
 item:=by
   intro X hP hw hK hc i pins s σ H E I hf st hg;subst hP hw hK;obtain⟨xs,ys,x,y,hq1,hq2,hx,hy⟩:=hg;obtain⟨its1,rv1,p1,hz1⟩:=I.list hq1;obtain⟨its2,rv2,p2,hz2⟩:=I.list hq2;obtain⟨u1,hu1,ru1⟩:=rv1.get hx;obtain⟨u2,hu2,ru2⟩:=rv2.get hy;have D:=lb nT nI st p1.isList p2.isList;obtain⟨h1,h2,⟨u,v,h3⟩,h4,h5⟩:=st;refine wpAny_pyNext_zip_item D h1 h2 h3 h4 h5 p1.isList p2.isList (x:=u1) (y:=u2) (by simpa using hu1) (by simpa using hu2) λh' g1 g2 g3 g4 g5 g6 g7=>⟨_,rfl,?_⟩;refine wpAny_letOwnedTupleGo_zip (s:={ s with heap:=h' }) g1 λh2' k1 k2=>?_;have hn:H s.heap.objs.size=none:=I.hok.fresh (Nat.le_refl _);have le1:z<s.heap.objs.size:=Heap.lt_size h1;have lt2:TI<s.heap.objs.size:=Heap.lt_size h2;have lt3:TO<s.heap.objs.size:=Heap.lt_size h3;have lt4:i1<s.heap.objs.size:=by obtain⟨o,z,_⟩:=h4; exact Heap.lt_size z
   have lt5:i2<s.heap.objs.size:=by obtain⟨o,z,_⟩:=h5; exact Heap.lt_size z
   have kp:∀c o,c≠z->c≠TO->c≠i1->c≠i2->s.heap.get? c=some o->h2'.get? c=some o:=λc o b1 b2 b3 b4 e=>(k2.2 c b1).trans (g7 c o b1 b2 b3 b4 e);have nt:IsPair h2' s.heap.objs.size u1 u2:=(k2.2 _ (Nat.ne_of_gt le1)).trans g5;have ne:∀c,c∈[z,TI,TO,i1,i2]->∀d v,H d=some v->d≠c:=λc hc d v e q=>by have:=(hf c hc).1;rw[q,this]at e; cases e
   have hok0:HOk X.prog X.w H h2':=λd v e=>(I.hok d v e).kf (λc v' hc' q=>kp c v'
       (by rcases hc' with hc' | hc'
           . rw[hc']; exact ne z (by simp) d v e
           . exact ne z (by simp) c _ hc')
       (by rcases hc' with hc' | hc'
           . rw[hc']; exact ne TO (by simp) d v e
           . exact ne TO (by simp) c _ hc')
       (by rcases hc' with hc' | hc'
           . rw[hc']; exact ne i1 (by simp) d v e
           . exact ne i1 (by simp) c _ hc')
       (by rcases hc' with hc' | hc'
           . rw[hc']; exact ne i2 (by simp) d v e
           . exact ne i2 (by simp) c _ hc') q) (λ_ q=>q) λ_ _ q=>q
   have hok1:HOk X.prog X.w (upd H s.heap.objs.size (.tup [x,y])) h2':=λd v e=>by
     by_cases hb:d=s.heap.objs.size
     . subst hb;rw[aB]at e; cases e;exact⟨(by show 2<=sizeLine; decide),[u1,u2],.cons ru1 (.cons ru2 .nil),_,nt,rfl,_,rfl⟩
     . rw[au hb]at e;exact(hok0 d v e).kf (λc v' _ q=>q) (λc q=>by rw[au (aS q hn)]; exact q) λc ys q=>by rw[au (aS q hn)]; exact q
   have I1:Inv X pins σ (upd H s.heap.objs.size (.tup [x,y])) { s with heap:=h2' }:=by
     refine I.step (t':=s.toks) (g':=s.gens) (d':=s.drawn) (ch:=[z,TO,i1,i2]) (λc hb=>?_) (λc o _ _ hc' e _=>kp c o (λq=>hc' (by simp[q])) (λq=>hc' (by simp[q])) (λq=>hc' (by simp[q])) (λq=>hc' (by simp[q])) e)
       (λc o _ _ hc' e _=>⟨o.slots,kp c o (λq=>hc' (by simp[q])) (λq=>hc' (by simp[q])) (λq=>hc' (by simp[q])) (λq=>hc' (by simp[q])) e⟩)
       (λc o hc' e n=>by rw[au (Nat.ne_of_lt (Heap.lt_size e))]; exact n) (λc o hc' e=>⟨o,kp c o (λq=>hc' (by simp[q])) (λq=>hc' (by simp[q])) (λq=>hc' (by simp[q])) (λq=>hc' (by simp[q])) e⟩)
       (λc ys e=>by rw[au (aS e hn)]; exact e) (λc o u e=>by rw[au (aS e hn)]; exact e) (λc ps e=>⟨#[],by rw[au (aS e hn),e]; simp⟩) (λm hm=>?_) hok1 I.bare
     . have hb':c∈[z,TI,TO,i1,i2]:=by simp only[List.mem_cons,List.not_mem_nil,or_false]at hb ⊢;rcases hb with h | h | h | h <;> simp[h]
       have fe:=hf c hb';exact⟨fe.2.2.2.1,fe.2.1,fe.2.2.2.2.1,fe.2.2.2.2.2⟩
     . obtain⟨o,es,ep,ho,r⟩:=hm;exact⟨o,es,ep,kp _ o (Ne.symm (hf z (by simp)).2.1) (Ne.symm (hf TO (by simp)).2.1) (Ne.symm (hf i1 (by simp)).2.1) (Ne.symm (hf i2 (by simp)).2.1) ho,r⟩
   refine⟨.ref s.heap.objs.size,_,I1,rfl,⟨s.heap.objs.size,x,y,hn,rfl,rfl,λzs hy'=>by rw[I.fu hy' hq1]; exact hx,λzs hy'=>by rw[I.fu hy' hq2]; exact hy⟩,⟨k1,?_,⟨u1,u2,(k2.2 TO D.TOz).trans g2⟩,?_,?_⟩,λc hb=>?_⟩
   . exact kp TI _ D.TIz D.TITO D.TIi1 D.TIi2 h2
   . obtain⟨o,z1,z2,z3⟩:=g3;exact⟨o,(k2.2 i1 D.i1z).trans z1,z2,z3⟩
   . obtain⟨o,z1,z2,z3⟩:=g4;exact⟨o,(k2.2 i2 D.i2z).trans z1,z2,z3⟩
   . have fc:=(hf c hb).1;have lt:c<s.heap.objs.size:=by simp only[List.mem_cons,List.not_mem_nil,or_false]at hb;rcases hb with rfl | rfl | rfl | rfl | rfl <;> assumption
     rw[au (Nat.ne_of_lt lt)];exact fc
 done:=by
   intro X hP hw hK hc i pins s σ H E I hf st hg;subst hP hw hK;obtain⟨xs,ys,hq1,hq2,hx⟩:=hg;obtain⟨its1,rv1,p1,hz1⟩:=I.list hq1;obtain⟨its2,rv2,p2,hz2⟩:=I.list hq2;have D:=lb nT nI st p1.isList p2.isList;obtain⟨h1,h2,⟨u,v,h3⟩,h4,h5⟩:=st;have hl1:=rv1.length;have hl2:=rv2.length
   refine wpAny_pyNext_zip_end (I.ok.hd hc.calm) D h1 h2 h3 h4 h5 p1.isList p2.isList (by
     rcases hx with hx | hx
     . left; simp; omega
     . right; simp; omega) λh' eb=>⟨rfl,?_⟩
   have ne:∀c,c∈[z,TI,TO,i1,i2]->∀d v,H d=some v->d≠c:=λc hc d v e q=>by have:=(hf c hc).1;rw[q,this]at e; cases e
   have hok0:HOk X.prog X.w H h':=λd v e=>(I.hok d v e).kf (λc v' hc' q=>eb c v'
       (by rcases hc' with hc' | hc'
           . rw[hc']; exact ne z (by simp) d v e
           . exact ne z (by simp) c _ hc')
       (by rcases hc' with hc' | hc'
           . rw[hc']; exact ne TO (by simp) d v e
           . exact ne TO (by simp) c _ hc')
       (by rcases hc' with hc' | hc'
           . rw[hc']; exact ne i1 (by simp) d v e
           . exact ne i1 (by simp) c _ hc')
       (by rcases hc' with hc' | hc'
           . rw[hc']; exact ne i2 (by simp) d v e
           . exact ne i2 (by simp) c _ hc') q) (λ_ q=>q) λ_ _ q=>q
   refine I.step (t':=s.toks) (g':=s.gens) (d':=s.drawn) (ch:=[z,TO,i1,i2]) (λc hb=>?_) (λc o _ _ hc' e _=>eb c o (λq=>hc' (by simp[q])) (λq=>hc' (by simp[q])) (λq=>hc' (by simp[q])) (λq=>hc' (by simp[q])) e)
       (λc o _ _ hc' e _=>⟨o.slots,eb c o (λq=>hc' (by simp[q])) (λq=>hc' (by simp[q])) (λq=>hc' (by simp[q])) (λq=>hc' (by simp[q])) e⟩)
       (λc o hc' e n=>n) (λc o hc' e=>⟨o,eb c o (λq=>hc' (by simp[q])) (λq=>hc' (by simp[q])) (λq=>hc' (by simp[q])) (λq=>hc' (by simp[q])) e⟩)
       (λc ys e=>e) (λc o u e=>e) (λc ps e=>⟨#[],by rw[e]; simp⟩) (λm hm=>?_) hok0 I.bare
   . have hb':c∈[z,TI,TO,i1,i2]:=by simp only[List.mem_cons,List.not_mem_nil,or_false]at hb ⊢;rcases hb with h | h | h | h <;> simp[h]
     have fe:=hf c hb';exact⟨fe.2.2.2.1,fe.2.1,fe.2.2.2.2.1,fe.2.2.2.2.2⟩
   . obtain⟨o,es,ep,ho,r⟩:=hm;exact⟨o,es,ep,eb _ o (Ne.symm (hf z (by simp)).2.1) (Ne.symm (hf TO (by simp)).2.1) (Ne.symm (hf i1 (by simp)).2.1) (Ne.symm (hf i2 (by simp)).2.1) ho,r⟩
 self:=λ_ _ _ _ _ st h=>wpAny_pyIter_zip st.1 h
section
variable {X:Cx}
def zK (K:PySem.W.Frag)(ta:TA):TI:=λσ H R=>ta σ H λvs H1=>∃a b,vs=[.ref a,.ref b]/\(∃xs,SqL K H1 a xs)/\(∃ys,SqL K H1 b ys)/\R (Itz K a b) H1
theorem o9 {ts:List Expr}{q:Nat}{tp:Pos}{a b:Expr}{ta:TA}{p pos:Pos}(hc:X.calm=true)(hg:Gl X "zip")(hm:X.mg "zip" = none)(ha:PA X [a,b] ta)(hs:starEach [a,b] X.env=(false,eval a X.env)::starEach [b] X.env)(hs2:starEach [b] X.env=[(false,eval b X.env)]):
   PI X (.Tuple ts q tp) (.Call (.Name "zip" p) [a,b] [] pos) (zK X.K ta):=by
 intro pins s σ H R I h;refine Call_ (dN I hg hm boot_zip (PyProof.Rows.callWith_type1 (thn (ha pos pins s σ H _ I h) λus s1 ⟨vs,H1,I1,r1,q1⟩=>?_) hs (by rw[hs2]; rfl)));obtain⟨l,l',e,⟨xs,hq1⟩,⟨ys,hq2⟩,q⟩:=q1;subst e;obtain⟨u,u',rfl,ru,ru'⟩:=vals2 r1;cases ru;cases ru';obtain⟨its1,rv1,pl1,hz1⟩:=I1.list hq1;obtain⟨its2,rv2,pl2,hz2⟩:=I1.list hq2;refine call_zip_2 pl1.isList pl2.isList λh' g1 g2 g3 g4 g5 g6 g7=>?_;refine wpAny_pyIter_zip (s:={ s1 with heap:=h' }) g1 ?_;have I2:Inv X pins σ H1 { s1 with heap:=h' }:=I1.kept (t':=s1.toks) g7;have nn:∀j,H1 (s1.heap.objs.size+j)=none:=λj=>I1.hok.fresh (by omega);refine⟨false,s1.heap.objs.size+4,[s1.heap.objs.size+4,s1.heap.objs.size+2,s1.heap.objs.size+3,s1.heap.objs.size,s1.heap.objs.size+1],_,_,H1,rfl,I2,.inl hc,vX l l' (s1.heap.objs.size+4) (s1.heap.objs.size+2) (s1.heap.objs.size+3) s1.heap.objs.size (s1.heap.objs.size+1) (by simp) (Ne.symm (Nat.succ_ne_self _)),⟨g1,g2,⟨_,_,g3⟩,g4,g5⟩,λc hb=>?_,q⟩
 have hb':∃j,c=s1.heap.objs.size+j:=by
   simp only[List.mem_cons,List.not_mem_nil,or_false]at hb;rcases hb with h | h | h | h | h
   . exact⟨_,h⟩
   . exact⟨_,h⟩
   . exact⟨_,h⟩
   . exact⟨0,h⟩
   . exact⟨_,h⟩
 obtain⟨j,rfl⟩:=hb';exact I1.jX (Nat.le_add_right _ _) (nn j)
end
noncomputable def Itv (K:PySem.W.Frag)(a:Addr)(n:Nat):L2.It:=⟨λi H=>i<n/\∃xs x,SqL K H a xs/\xs[n-1-i]?=some x,λi H x H'=>H'=H/\∀xs,SqL K H a xs->xs[n-1-i]?=some x,λi _=>n<=i⟩
theorem u5 {P:Program}{w:World}{K:PySem.W.Frag}{tg:Expr}(a it:Addr)(n:Nat):
   Turn P w K false tg (Itv K a n) [it] it (λi h=>i<=n/\h.IsRevIter it a ((n:Int)-1-(i:Int))) where
 mem:=by simp
 obj:=λi h st b hb=>by
   have e:b=it:=by simpa using hb
   subst e;obtain⟨o,e,c,d⟩:=st.2;exact⟨o,e,λv z=>by rw[d]at z; cases z⟩
 keep:=λi h h' st k=>⟨st.1,st.2.at λo e=>k it (by simp) o e⟩
 item:=by intro X hP hw hK hc i pins s σ H E I hf st hg;subst hP hw hK;obtain⟨hi,xs,x,hq,hx⟩:=hg;obtain⟨its,rv,p,hz⟩:=I.list hq;obtain⟨u,hu,ru⟩:=rv.get hx;obtain⟨f0,f1,f2,f3,f4,f5⟩:=hf it (by simp);have st2:=st.2;rw[show (n:Int)-1-(i:Int)=((n-1-i:Nat):Int) by omega]at st2;refine wpAny_pyNext_rev_item st2 p.isList (x:=u) (by simpa using hu) λh' st' sb=>?_;have I1:Inv X pins σ H { s with heap:=h' }:=I.turned (t':=s.toks) (λb o hb e=>(sb.2 b hb).trans e) f0 f1 f3 f4 f5;obtain⟨o,e,c,d⟩:=id st';refine⟨u,rfl,jM (s:={ s with heap:=h' }) e c d (by decide) ⟨x,H,I1,ru,⟨rfl,λys hy=>by rw[I.fu hy hq]; exact hx⟩,⟨hi,?_⟩,λb hb=>(hf b hb).1⟩⟩;rw[show (n:Int)-1-((i+1:Nat):Int)=((n-1-i:Nat):Int)-1 by omega];exact st'
 done:=by intro X hP hw hK hc i pins s σ H E I hf st hg;subst hP hw hK;obtain⟨f0,f1,f2,f3,f4,f5⟩:=hf it (by simp);have st2:=st.2;have hg:n<=i:=hg;rw[show (n:Int)-1-(i:Int)=-1 by have:=st.1; omega]at st2;exact wpAny_pyNext_rev_end (I.ok.hd hc.calm) st2 λh' eb=>⟨rfl,I.turned (t':=s.toks) (λb o hb e=>eb b o hb e) f0 f1 f3 f4 f5⟩
 self:=λ_ _ _ _ _ st h=>wpAny_pyIter_revIter st.2 h
section
variable {X:Cx}{tg:Expr}
def yN (K:PySem.W.Frag)(ta:TA):TI:=λσ H R=>ta σ H λvs H1=>∃a xs,vs=[.ref a]/\SqL K H1 a xs/\R (Itv K a xs.length) H1
theorem oM:bootBuiltins "reversed" = some (.type "reversed"):=by decide +kernel
theorem oP {a:Expr}{ta:TA}{p pos:Pos}(hc:X.calm=true)(hg:Gl X "reversed")(hm:X.mg "reversed" = none)(ha:PA X [a] ta)(hs:starEach [a] X.env=[(false,eval a X.env)]):PI X tg (.Call (.Name "reversed" p) [a] [] pos) (yN X.K ta):=by
 intro pins s σ H R I h;refine Call_ (dN I hg hm oM (PyProof.Rows.callWith_type1 (thn (ha pos pins s σ H _ I h) λus s1 ⟨vs,H1,I1,r1,q1⟩=>?_) hs rfl));obtain⟨l,xs,e,hq,q⟩:=q1;subst e;obtain⟨u,rfl,ru⟩:=vals1 r1;cases ru;obtain⟨its,rv,pl,hz⟩:=I1.list hq;have hl:=rv.length;refine call_reversed_list pl.isList ?_;have st:({ s1 with heap:=s1.heap.push (revObj l ((its.toArray.size:Int)-1)) }:Shared).heap.IsRevIter s1.heap.objs.size l ((its.toArray.size:Int)-1):=⟨_,Heap.get?_push_size _ rfl,rfl,rfl⟩;refine wpAny_pyIter_revIter st ?_;refine⟨false,s1.heap.objs.size,[s1.heap.objs.size],_,_,H1,rfl,I1.kept (t':=s1.toks) (λb o e=>Heap.get?_push_of_some _ e),.inl hc,u5 l _ xs.length,⟨Nat.zero_le _,?_⟩,λb hb=>?_,q⟩
 . rw[show (xs.length:Int)-1-((0:Nat):Int)=(its.toArray.size:Int)-1 by rw[List.size_toArray,<- hl]; omega];exact st
 . have e:b=s1.heap.objs.size:=by simpa using hb
   subst e;exact I1.jX (Nat.le_refl _) (I1.hok.fresh (Nat.le_refl _))
end
theorem uJ:∀(names:List (Str×NameKind)) (n:Nat) (acc:List (Str×Addr)) (x:Str) (c:Addr),(cellsFrom n names acc).lookup x=some c->n<=c\/acc.lookup x=some c
 | [],_,_,_,_,h=>.inr h
 | (y,k)::r,n,acc,x,c,h=>by
   unfold cellsFrom at h;split at h
   . rcases uJ r (n+1) _ x c h with q | q
     . exact .inl (by omega)
     . rw[List.lookup_cons]at q;split at q
       . cases q; exact .inl (Nat.le_refl _)
       . exact .inr q
   . exact uJ r n acc x c h
theorem j6:∀(names:List (Str×NameKind)) (n:Nat) (acc:List (Str×Addr)) (x:Str),(x,NameKind.cell)∉names->(cellsFrom n names acc).lookup x=acc.lookup x
 | [],_,_,_,_=>rfl
 | (y,k)::r,n,acc,x,h=>by
   have h1:(x,NameKind.cell)∉r:=λz=>h (List.mem_cons_of_mem _ z);unfold cellsFrom;split
   . rename_i hk;rw[j6 r _ _ x h1,List.lookup_cons];have:(x==y)=false:=by rw[beq_eq_false_iff_ne];rintro rfl;exact h (by rw[eq_of_beq hk]; exact List.mem_cons_self)
     rw[this]
   . exact j6 r n acc x h1
theorem lW:∀(names:List (Str×NameKind)) (n:Nat) (acc:List (Str×Addr)) (x:Str),(x,NameKind.cell)∈names->∃c,(cellsFrom n names acc).lookup x=some c/\n<=c
 | (y,k)::r,n,acc,x,h=>by
   unfold cellsFrom;by_cases hr:(x,NameKind.cell)∈r
   . split
     . obtain⟨c,e,l⟩:=lW r (n+1) ((y,n)::acc) x hr;exact⟨c,e,by omega⟩
     . exact lW r n acc x hr
   . rcases List.mem_cons.mp h with q | q
     . cases q;rw[if_pos (by rfl),j6 r _ _ _ hr];exact⟨n,by simp[List.lookup_cons],Nat.le_refl _⟩
     . exact absurd q hr
theorem pM:∀(names:List (Str×NameKind)) (n:Nat) (acc:List (Str×Addr)),(∀x c,acc.lookup x=some c->c<n)->(∀x y c,acc.lookup x=some c->acc.lookup y=some c->x=y) ->
   ∀x y c,(cellsFrom n names acc).lookup x=some c->(cellsFrom n names acc).lookup y=some c->x=y
 | [],_,_,_,h=>h
 | (z,k)::r,n,acc,hl,h=>by
   unfold cellsFrom;split
   . refine pM r (n+1) _ (λx c e=>?_) (λx y c e1 e2=>?_)
     . rw[List.lookup_cons]at e;split at e
       . cases e; exact Nat.lt_succ_self _
       . exact Nat.lt_succ_of_lt (hl x c e)
     . rw[List.lookup_cons]at e1 e2;split at e1
       . rename_i q1;cases e1;split at e2
         . rename_i q2;exact(eq_of_beq q1).trans (eq_of_beq q2).symm
         . exact absurd (hl y _ e2) (Nat.lt_irrefl _)
       . split at e2
         . cases e2;exact absurd (hl x _ e1) (Nat.lt_irrefl _)
         . exact h x y c e1 e2
   . exact pM r n acc hl h
theorem l4:∀(names:List (Str×NameKind)) (h:Heap) (acc:List (Str×Addr)),(∀x c,acc.lookup x=some c->∃v,h.IsCell c v)->∀x c,(cellsFrom h.objs.size names acc).lookup x=some c->∃v,(pushCells h names).IsCell c v
 | [],_,_,ha,x,c,e=>ha x c e
 | (z,k)::r,h,acc,ha,x,c,e=>by
   unfold cellsFrom at e;unfold pushCells;split at e
   . rename_i hk;rw[if_pos hk];refine l4 r _ ((z,h.objs.size)::acc) (λy d q=>?_) x c (by rw[Heap.size_push]; exact e);rw[List.lookup_cons]at q;split at q
     . cases q;exact⟨none,_,Heap.get?_push_size _ rfl,rfl⟩
     . obtain⟨v,o,ho,hd⟩:=ha y d q;exact⟨v,o,Heap.get?_push_of_some _ ho,hd⟩
   . rename_i hk;rw[if_neg hk];exact l4 r h acc ha x c e
noncomputable def cP (env:PySem.Env):List (Str×NameKind)->List (Str×Addr)->List (Str×Addr)
 | [],acc=>acc
 | (n,k)::r,acc=>if k==.free then (match env.cells.lookup n with | some c=>cP env r ((n,c)::acc) | none=>cP env r acc) else cP env r acc
theorem jk (env:PySem.Env):∀(names:List (Str×NameKind)) (acc:List (Str×Addr)),(∀x∈names,x.2=.free->∃c,env.cells.lookup x.1=some c) ->
   (forIn (m:=Sem) names acc λx cs=>do
     let (name,kind):=x
     if kind==.free then do
       let c <- cellOf env name
       pure (ForInStep.yield ((name,c)::cs))
     else pure (ForInStep.yield cs))=pure (cP env names acc)
 | [],acc,_=>rfl
 | (n,k)::r,acc,h=>by
   rw[List.forIn_cons];unfold cP;by_cases hk:(k==.free)=true
   . obtain⟨c,hc⟩:=h (n,k) List.mem_cons_self (eq_of_beq hk);simp only[hk,if_true,cellOf,hc,pure_bind];exact jk env r _ λx hx=>h x (List.mem_cons_of_mem _ hx)
   . simp only[hk,Bool.false_eq_true,if_false,pure_bind];exact jk env r _ λx hx=>h x (List.mem_cons_of_mem _ hx)
theorem qN {env:PySem.Env}{scope:Scope}(h:∀x∈scope.names,x.2=.free->∃c,env.cells.lookup x.1=some c):closureFor scope env=pure (cP env scope.names []):=by unfold closureFor;have:=jk env scope.names [] h;simp only[bind_pure];exact this
theorem dZ (env:PySem.Env):∀(names:List (Str×NameKind)) (acc:List (Str×Addr)) (x:Str) (c:Addr),(∀y d,acc.lookup y=some d->env.cells.lookup y=some d)->(cP env names acc).lookup x=some c->env.cells.lookup x=some c
 | [],_,x,c,ha,h=>ha x c h
 | (n,k)::r,acc,x,c,ha,h=>by
   unfold cP at h;split at h
   . split at h
     . rename_i c' hc;refine dZ env r _ x c (λy d q=>?_) h;rw[List.lookup_cons]at q;split at q
       . rename_i qq;cases q;rw[eq_of_beq qq]; exact hc
       . exact ha y d q
     . exact dZ env r acc x c ha h
   . exact dZ env r acc x c ha h
theorem cT (env:PySem.Env):∀(names:List (Str×NameKind)) (acc:List (Str×Addr)) (x:Str) (c:Addr),(∀y d,acc.lookup y=some d->env.cells.lookup y=some d)->env.cells.lookup x=some c->((x,NameKind.free)∈names\/acc.lookup x=some c)->(cP env names acc).lookup x=some c
 | [],_,x,c,_,_,h=>h.elim (λz=>absurd z (by simp)) id
 | (n,k)::r,acc,x,c,ha,hc,h=>by
   unfold cP;split
   . split
     . rename_i c' hc';refine cT env r _ x c (λy d q=>?_) hc ?_
       . rw[List.lookup_cons]at q;split at q
         . rename_i qq;cases q;rw[eq_of_beq qq]; exact hc'
         . exact ha y d q
       . by_cases q:x=n
         . subst q;rw[hc]at hc'; cases hc';exact .inr (by simp[List.lookup_cons])
         . rcases h with h | h
           . rcases List.mem_cons.mp h with z | z
             . cases z; exact absurd rfl q
             . exact .inl z
           . refine .inr ?_;rw[List.lookup_cons,beq_eq_false_iff_ne.mpr q];exact h
     . rename_i hc';refine cT env r acc x c ha hc ?_;rcases h with h | h
       . rcases List.mem_cons.mp h with z | z
         . cases z; rw[hc]at hc'; cases hc'
         . exact .inl z
       . exact .inr h
   . rename_i hk;refine cT env r acc x c ha hc ?_;rcases h with h | h
     . rcases List.mem_cons.mp h with z | z
       . cases z; exact absurd rfl hk
       . exact .inl z
     . exact .inr h
theorem kM {M:Model}{A:Around}{E:Value->Shared->Prop}{s:Shared}{scope:Scope}{cl:List (Str×Addr)}{env:PySem.Env}{Q:PySem.Env->Shared->Prop}
   (h:Q (newEnv scope s.heap.objs.size env.globals (cellsFrom (s.heap.objs.size+1) scope.names cl) env.qual none .none (some env) builtinsNs) { s with heap:=pushCells (s.heap.push { cls:=.type "dict",data:=.dict #[] }) scope.names }) :
   wpAny M A (newFunctionEnv scope env.globals cl [] env.qual none .none (some env)) Q E s:=by
 simp only[newFunctionEnv,Option.isSome_some,if_true];refine wpAny_bind (wpAny_alloc ?_);refine wpAny_bind (wpAny_layCells _ (λname kind cells=>by cases hkc:kind==NameKind.cell <;> simp[hkc]) _ _ _ _ ?_);rw[show ({ s with heap:=s.heap.push { cls:=.type "dict",data:=.dict #[] } }:Shared).heap.objs.size=s.heap.objs.size+1 from Heap.size_push ..];exact wpAny_bind (wpAny_pure (wpAny_pure h))
noncomputable def aM (X:Cx)(s:Shared)(H:Hp)(scope:Scope)(N:List Str)(fp:List Addr):Cx:=
 { prog:=X.prog,w:=X.w,K:=X.K,mg:=X.mg,base:=X.base,A:=X.A,N:=N,s₀:=s,H₀:=H
   env:=compEnvC scope (cellsFrom (s.heap.objs.size+1+1) scope.names (cP X.env scope.names [])) (s.heap.objs.size+1) X.env
   outer:=X.stack,stack:=X.stack,ex:=fp,fn:=λx=>decide ((x,NameKind.cell)∈scope.names),calm:=X.calm,pn:=[],xe:=λ_ _=>False }
noncomputable def eZ (σ:L2.St)(caps:List (Option Nat)):L2.St:=caps.map λo=>o.bind λi=>(σ[i]?).join
structure dt (X:Cx)(scope:Scope)(N:List Str)(caps:List (Option Nat)):Prop where
 kind:scope.kind=.function
 loc:∀x∈scope.names,x.2=.local->scope.names.lookup x.1=some .local
 fre:∀x∈scope.names,x.2=.free->X.env.kindOf x.1=some .cell
 one:∀x,(x,NameKind.free)∈scope.names->(x,NameKind.cell)∉scope.names
 noboth:∀x,(x,NameKind.free)∈scope.names->(x,NameKind.local)∉scope.names
 len:N.length=caps.length+1
 cap:∀(j i:Nat),caps[j]?=some (some i)->∃x,N[j]?=some x/\X.N[i]?=some x/\(x,NameKind.free)∈scope.names
 acc:∃z,N[caps.length]?=some z/\¬Vis (relabel scope X.env) z
section
variable {X:Cx}{pins:List (Addr×Obj)}{σ:L2.St}{H:Hp}{s:Shared}{scope:Scope}{N:List Str}{caps:List (Option Nat)}{fp:List Addr}
theorem d9 {env:PySem.Env}{x:Str}{names:List (Str×NameKind)}(h:∀y,(y,NameKind.free)∈names->env.kindOf y=some .cell)(hk:env.scope.kind=.function){k:NameKind}
   (e:(names.map λ(n,k)=>if (k==NameKind.free&&env.scope.kind==.function&&env.kindOf n==some .cell) then (n,NameKind.cell) else (n,k)).lookup x=some k) :
   (x,k)∈names\/((x,NameKind.free)∈names/\k=.cell):=by
 induction names with
 | nil=>cases e
 | cons p r ih=>
   obtain⟨n,q⟩:=p;rw[List.map_cons]at e;have hr:∀y,(y,NameKind.free)∈r->env.kindOf y=some .cell:=λy hy=>h y (List.mem_cons_of_mem _ hy);have sub:((x,k)∈r\/((x,NameKind.free)∈r/\k=.cell))->(x,k)∈(n,q)::r\/((x,NameKind.free)∈(n,q)::r/\k=.cell):=λz=>z.elim (λy=>.inl (List.mem_cons_of_mem _ y)) λy=>.inr ⟨List.mem_cons_of_mem _ y.1,y.2⟩;dsimp only at e;split at e
   . rename_i c;rw[List.lookup_cons]at e;split at e
     . rename_i qq;cases e;rw[Bool.and_eq_true,Bool.and_eq_true]at c;rw[eq_of_beq qq,eq_of_beq c.1.1];exact .inr ⟨List.mem_cons_self,rfl⟩
     . exact sub (ih hr e)
   . rename_i c;rw[List.lookup_cons]at e;split at e
     . rename_i qq;cases e;rw[eq_of_beq qq];exact .inl List.mem_cons_self
     . exact sub (ih hr e)
theorem fZ (I:Inv X pins σ H s)(c:dt X scope N caps):∀x∈scope.names,x.2=.free->∃d,X.env.cells.lookup x.1=some d:=λx hx hf=>I.ok.has x.1 (.inl (c.fre x hx hf))
theorem mS (I:Inv X pins σ H s)(hf:∀b∈fp,ku X pins H b)(ho:∀b∈fp,∃o,s.heap.get? b=some o)(c:dt X scope N caps):
   Inv (aM X s H scope N fp) [] (eZ σ caps++[some (.ref s.heap.objs.size)]) (upd H s.heap.objs.size (.lst []))
     { s with heap:=pushCells ((s.heap.push { cls:=.type "list",data:=.seq ([]:List Value).toArray }).push { cls:=.type "dict",data:=.dict #[] }) scope.names }:=by
 have hcl:∀x d,(cP X.env scope.names []).lookup x=some d->X.env.cells.lookup x=some d:=λx d=>dZ X.env scope.names [] x d (λy d z=>by simp at z);have kp:∀b o,s.heap.get? b=some o->(pushCells ((s.heap.push { cls:=.type "list",data:=.seq ([]:List Value).toArray }).push { cls:=.type "dict",data:=.dict #[] }) scope.names).get? b=some o:=λb o e=>pushCells_keeps _ _ b o (Heap.get?_push_of_some _ (Heap.get?_push_of_some _ e));have sz2:((s.heap.push { cls:=.type "list",data:=.seq ([]:List Value).toArray }).push { cls:=.type "dict",data:=.dict #[] }).objs.size=s.heap.objs.size+1+1:=by rw[Heap.size_push,Heap.size_push]
 have oldc:∀x d,X.env.cells.lookup x=some d->d<s.heap.objs.size:=λx d e=>by obtain⟨v,o,q,_⟩:=I.cell x d e;exact Heap.lt_size q
 have cel:∀x d,(aM X s H scope N fp).env.cells.lookup x=some d->s.heap.objs.size+1+1<=d\/X.env.cells.lookup x=some d:=λx d e=>by
   rcases uJ _ _ _ x d e with q | q
   . exact .inl q
   . exact .inr (hcl x d q)
 have ok:(aM X s H scope N fp).Ok:=by
   refine⟨I.ok.mod,c.kind,I.ok.glob,I.ok.blt,Nat.le_succ _,?_,?_,?_,I.ok.hd,I.ok.frames,.inl rfl,?_,I.bs,Nat.le_trans I.ok.bsz I.sz,?_,?_,I.stack,I.qv⟩
   . exact pM _ _ _ (λx d e=>Nat.lt_of_lt_of_le (oldc x d (hcl x d e)) (by omega)) λx y d e1 e2=>I.ok.inj x y d (hcl x d e1) (hcl y d e2)
   . intro x hx;have hfk:∀y,(y,NameKind.free)∈scope.names->X.env.kindOf y=some .cell:=λy hy=>c.fre _ hy rfl
     have fre:(x,NameKind.free)∈scope.names->∃d,(aM X s H scope N fp).env.cells.lookup x=some d:=λhm=>by
       obtain⟨d,hd⟩:=fZ I c _ hm rfl
       exact⟨d,by
         show (cellsFrom _ scope.names _).lookup x=_;rw[j6 _ _ _ x (c.one x hm)];exact cT X.env scope.names [] x d (λy e z=>by simp at z) hd (.inl hm)⟩
     have own:(x,NameKind.cell)∈scope.names->∃d,(aM X s H scope N fp).env.cells.lookup x=some d:=λhm=>by obtain⟨d,e,_⟩:=lW scope.names (s.heap.objs.size+1+1) (cP X.env scope.names []) x hm;exact⟨d,e⟩
     rcases hx with hx | hx
     . rcases d9 hfk I.ok.kind (show (scope.names.map _).lookup x=some .cell from hx) with q | q
       . exact own q
       . exact fre q.1
     . rcases d9 hfk I.ok.kind (show (scope.names.map _).lookup x=some .free from hx) with q | q
       . exact fre q
       . exact fre q.1
   . intro x d hfn e;have hm:(x,NameKind.cell)∈scope.names:=of_decide_eq_true hfn;obtain⟨d',e',l⟩:=lW scope.names (s.heap.objs.size+1+1) (cP X.env scope.names []) x hm;have e2:(cellsFrom (s.heap.objs.size+1+1) scope.names (cP X.env scope.names [])).lookup x=some d:=e;rw[e']at e2; cases e2;exact Nat.le_trans (Nat.le_trans (Nat.le_succ _) (Nat.le_succ _)) l
   . intro b hb;obtain⟨o,q⟩:=ho b hb;have bl:=Heap.lt_size q;refine⟨λz=>?_,λx d e z=>?_⟩
     . have z':b=s.heap.objs.size+1:=z;rw[z']at bl;exact absurd bl (Nat.not_lt.mpr (Nat.le_succ _))
     . subst z;rcases cel x d e with q | q
       . exact absurd (Nat.lt_of_lt_of_le bl (Nat.le_trans (Nat.le_trans (Nat.le_succ _) (Nat.le_succ _)) q)) (Nat.lt_irrefl _)
       . exact(hf d hb).2.2.2.2.1 x d q rfl
   . intro b o e hb;rcases(hf b hb).2.2.2.1 with q | q
     . exact I.ok.noex b o e q
     . have:=Nat.lt_of_lt_of_le (Heap.lt_size e) I.ok.bsz;exact absurd (Nat.lt_of_lt_of_le this q) (Nat.lt_irrefl _)
   . intro b hb hm;rcases List.mem_cons.mp (I.pD b hm) with q | q
     . exact(hf b hb).2.1 q
     . exact(hf b hb).2.2.1 q
 have hD:(pushCells ((s.heap.push { cls:=.type "list",data:=.seq ([]:List Value).toArray }).push { cls:=.type "dict",data:=.dict #[] }) scope.names).get? s.heap.objs.size=some { cls:=.type "list",data:=.seq ([]:List Value).toArray }:=pushCells_keeps _ _ _ _ (Heap.get?_push_of_some _ (Heap.get?_push_size _ rfl));have fr:∀a,s.heap.objs.size<=a->a≠s.heap.objs.size->(upd H s.heap.objs.size (.lst [])) a=none:=λa h1 h2=>by rw[au h2]; exact I.hok.fresh h1
 refine⟨ok,rfl,I.bare,Un.laid kp (Nat.le_refl _) (I.hok.fresh (Nat.le_refl _)),⟨λ_=>none,?_,λi x v e1 e2 e3=>?_⟩,λx d e=>?_,?_,λx d e=>?_,λp hp=>absurd (show p∈([]:List (Addr×Obj)) from hp) (by simp),?_,?_⟩
 . have:=Heap.Ns.new (s.heap.push { cls:=.type "list",data:=.seq ([]:List Value).toArray }) (.type "dict");rw[Heap.size_push]at this;exact this.keeps (pushCells_keeps _ _)
 . by_cases hi:i<caps.length
   . rw[List.getElem?_append_left (by unfold eZ; rw[List.length_map]; exact hi)]at e2;unfold eZ at e2;rw[List.getElem?_map]at e2;cases hc:caps[i]? with
     | none=>rw[hc]at e2; cases e2
     | some o=>
       rw[hc]at e2;cases o with
       | none=>cases e2
       | some j=>
         have e2':(σ[j]?).join=some v:=Option.some.inj e2
         have e4:σ[j]?=some (some v):=by
           cases q:σ[j]? with
           | none=>rw[q]at e2'; cases e2'
           | some y=>rw[q]at e2'; exact congrArg some e2'
         obtain⟨x',g1,g2,g3⟩:=c.cap i j hc;rw[show (aM X s H scope N fp).N=N from rfl,g1]at e1;cases e1;have hkc:=c.fre _ g3 rfl;obtain⟨m,_,hl⟩:=I.loc;obtain⟨u,ru,look⟩:=hl j x v g2 e4 (.inr (.inl hkc));refine⟨u,ru,?_⟩;rcases look with ⟨k,_⟩ | ⟨k,d,hd,hcell⟩
         . rw[hkc]at k; cases k
         . have e5:(aM X s H scope N fp).env.cells.lookup x=some d:=by show (cellsFrom _ scope.names _).lookup x=_;rw[j6 _ _ _ x (c.one x g3)];exact cT X.env scope.names [] x d (λy e z=>by simp at z) hd (.inl g3)
           have hcell':Heap.IsCell (pushCells ((s.heap.push { cls:=.type "list",data:=.seq ([]:List Value).toArray }).push { cls:=.type "dict",data:=.dict #[] }) scope.names) d (some u):=by obtain⟨o,q1,q2⟩:=hcell;exact⟨o,kp _ _ q1,q2⟩
           refine .inr ⟨?_,d,e5,hcell'⟩;rcases e3 with e3 | e3 | e3
           . exfalso;rcases d9 (λy hy=>c.fre _ hy rfl) I.ok.kind (show (scope.names.map _).lookup x=some .local from e3) with q | q
             . have q1:=c.loc _ q rfl;exact c.noboth x g3 q
             . cases q.2
           . exact .inl e3
           . exact .inr e3
   . exfalso;obtain⟨z,z1,z2⟩:=c.acc;have hl:i<N.length:=(List.getElem?_eq_some_iff.mp e1).1;have:i=caps.length:=by have:=c.len; omega
     subst this;rw[show (aM X s H scope N fp).N=N from rfl,z1]at e1;cases e1;exact z2 e3
 . rw[show (aM X s H scope N fp).env.cells=cellsFrom (s.heap.objs.size+1+1) scope.names (cP X.env scope.names []) from rfl,<- sz2]at e;refine l4 scope.names _ _ (λy d' q=>?_) x d e;obtain⟨v,o,q1,q2⟩:=I.cell y d' (hcl y d' q);exact⟨v,o,Heap.get?_push_of_some _ (Heap.get?_push_of_some _ q1),q2⟩
 . exact fr _ (Nat.le_succ _) (Nat.succ_ne_self _)
 . rcases cel x d e with q | q
   . exact fr d (by omega) (by intro z; omega)
   . rw[au (Nat.ne_of_lt (oldc x d q))]; exact I.freeC x d q
 . exact I.hok.laid kp (Nat.le_refl _) ⟨Nat.zero_le _,[],0,.nil,hD⟩
 . rw[List.length_append];unfold eZ;rw[List.length_map,show (aM X s H scope N fp).N=N from rfl,c.len];rfl
end
def PTs (X:Cx)(ifs:List Expr)(t:TT):Prop:=
 ∀(pins:List (Addr×Obj)) (s:Shared) (σ:L2.St) (H:Hp) (Q:Bool->Hp->Prop),Inv X pins σ H s->t σ H Q ->
   wpAny (model X.prog X.w) X.A (forIn ifs true λc r=>if r=true then do let ok <- isTrue c X.env (eval c X.env); pure (ForInStep.yield ok) else pure (ForInStep.yield r)) (TP X pins σ Q) X.xe s
section
variable {prog:Program}{w:World}{A:Around}{R:Result->Shared->Prop}{s:Shared}
theorem kh {elt target iter:Expr}{ifs:List Expr}{scope:Scope}{pos:Pos}{it acc:Value}{env:PySem.Env}(Iv:Nat->Shared->Prop)
   (step:∀n s,Iv n s->wpAny (model prog w) A (pyNext it) (λr s₁=>match r with
     | none=>R (.ok .next) s₁
     | some v=>wpAny (model prog w) A (letOwnedTupleGo target it v) (λ_ s₀=>wpAny (model prog w) A (assign target env v) (λ_ s₂=>
         wpAny (model prog w) A (forIn ifs true λc r=>if r=true then do let ok <- isTrue c env (eval c env); pure (ForInStep.yield ok) else pure (ForInStep.yield r)) (λok s₃=>
           if ok=true then wpAny (model prog w) A (eval elt env) (λx s₄=>
             wpAny (model prog w) A (call (.builtin "list.append") [acc,x]) (λ_ s₅=>∃m,m<n/\Iv m s₅) (λ_ _=>False) s₄) (λ_ _=>False) s₃
           else ∃m,m<n/\Iv m s₃) (λ_ _=>False) s₂) (λ_ _=>False) s₀) (λ_ _=>False) s₁) (λ_ _=>False) s)
   (n:Nat) (h:Iv n s):codeAny (model prog w) A (.compLoop (.ListComp elt [⟨target,iter,ifs,0⟩] scope pos) 0 it acc env) R s:=by
 have no:∀{α:Type} {t:Sem α} {Q:α->Shared->Prop} {s:Shared} {E:Value->Shared->Prop},wpAny (model prog w) A t Q (λ_ _=>False) s->wpAny (model prog w) A t Q E s:=λh=>wpAny_mono h (λ_ _ q=>q) λ_ _ q=>q.elim;refine codeAny_loop rfl Iv (λn s hI=>?_) n h;show wpAny _ A (Sem.onRaise (compTurn (.ListComp elt [⟨target,iter,ifs,0⟩] scope pos) 0 it acc env) (λx=>do noteFrame x env; theTreesLotGoes x)) _ _ s;refine wpAny_noted ?_;rw[compTurn_list];refine wpAny_bind (wpAny_standAt (wpAny_bind (thn (no (step n s hI)) λr s₁ h₁=>?_)));cases r with
 | none=>exact wpAny_pure h₁
 | some v=>
   refine wpAny_bind (thn (no h₁) λ_ s₀ h₀=>wpAny_bind (thn (no h₀) λ_ s₂ h₂=>wpAny_bind (thn (no h₂) λok s₃ h₃=>?_)));cases ok with
   | false=>exact wpAny_pure ⟨rfl,h₃⟩
   | true=>exact wpAny_bind (wpAny_bind (thn (no h₃) λx s₄ h₄=>wpAny_bind (thn (no h₄) λ_ s₅ h₅=>wpAny_pure (wpAny_pure ⟨rfl,h₅⟩))))
end
theorem qQ {X:Cx}{kd:Bool}{pins:List (Addr×Obj)}{σ:L2.St}{H:Hp}{s:Shared}{scope:Scope}{N:List Str}{fp:List Addr}(h:Ck kd X)(I:Inv X pins σ H s):Ck kd (aM X s H scope N fp):=by
 rcases h with h | ⟨hk,q,o,u,vs,e1,e2,e3,e4⟩
 . exact .inl h
 . exact .inr ⟨hk,q,o,u,vs,e1,I.base.frzs q o u e2,e3,e4⟩
def da (In:TG->TT->TE->Prop)(caps:List (Option Nat))(wi:TI):TE:=λσ H Q=>wi σ H λJ H1=>∃g tt te,In g tt te/\∀D,H1 D=none ->
 ∃Z:Nat->Nat->L2.St->Hp->Prop,(∃m,Z 0 m (eZ σ caps++[some (.ref D)]) (upd H1 D (.lst [])))/\∀i m σ' H',Z i m σ' H' ->
   (J.stop i H'/\Q (.ref D) H')\/(J.go i H'/\∀x H2,J.yld i H' x H2->g x σ' H2 λσ2 H3=>tt σ2 H3 λb H4=>
     if b=true then te σ2 H4 λv H5=>∃vs m',H5 D=some (.lst vs)/\vs.length<sizeLine/\m'<m/\Z (i+1) m' σ2 (upd H5 D (.lst (vs++[v]))) else ∃m',m'<m/\Z (i+1) m' σ2 H4)
theorem cQ {X:Cx}{elt tg iter:Expr}{ifs:List Expr}{scope:Scope}{N:List Str}{caps:List (Option Nat)}{pos:Pos}{wi:TI}{In:TG->TT->TE->Prop}(c:dt X scope N caps)(hi:PI X tg iter wi)
   (hs:∀x,foldedSetIterable iter X.env x=pure x)
   (hin:∀g tt te,In g tt te->∀s H fp,PG (aM X s H scope N fp) tg g/\PTs (aM X s H scope N fp) ifs tt/\PE (aM X s H scope N fp) elt te) :
   PE X (.ListComp elt [⟨tg,iter,ifs,0⟩] scope pos) (da In caps wi):=by
 intro pins s σ H Q I h;rw[eval_ListComp];have hcl:=qN (fZ I c);refine wpAny_comprehension_free (use:=none) (g:=⟨tg,iter,ifs,0⟩) (gs:=[]) rfl hs hcl c.kind c.loc ?_;show wpAny _ _ (eval iter X.env) _ _ s;refine thn (hi pins s σ H _ I h) λv s1 h1=>thn h1 λitv s2 h2=>?_;obtain⟨kd,it,fp,tn,J,H2,e,I2,hck,T,st2,f2,g,tt,te,hI,q⟩:=h2;have hc:=qQ (scope:=scope) (N:=N) (fp:=fp) hck I2;subst e;obtain⟨Z,⟨m0,z0⟩,turn⟩:=q s2.heap.objs.size (I2.hok.fresh (Nat.le_refl _));have ho:∀b∈fp,∃o,s2.heap.get? b=some o:=λb hb=>let ⟨o,e,_⟩:=T.obj _ _ st2 b hb; ⟨o,e⟩
 have I4:=mS (scope:=scope) (N:=N) (caps:=caps) I2 f2 ho c;obtain⟨hg,ht,he⟩:=hin g tt te hI s2 H2 fp;refine wpAny_newObj_type (kM ?_) (by show 0<=sizeLine; decide);have hC:(s2.heap.push { cls:=.type "list",dict:=none,data:=.seq ([]:List Value).toArray }).objs.size=s2.heap.objs.size+1:=Heap.size_push ..;dsimp only;rw[hC];have kp:∀b o,s2.heap.get? b=some o->(pushCells ((s2.heap.push { cls:=.type "list",data:=.seq ([]:List Value).toArray }).push { cls:=.type "dict",data:=.dict #[] }) scope.names).get? b=some o:=λb o e=>pushCells_keeps _ _ b o (Heap.get?_push_of_some _ (Heap.get?_push_of_some _ e));have st4:tn 0 (pushCells ((s2.heap.push { cls:=.type "list",data:=.seq ([]:List Value).toArray }).push { cls:=.type "dict",data:=.dict #[] }) scope.names):=T.keep _ _ _ st2 λb _ o e=>kp b o e;have stat:∀{H':Hp},(∀b∈fp,H' b=none)->∀b∈fp,ku (aM X s2 H2 scope N fp) [] H' b:=λhn b hb=>⟨hn b hb,(I4.ok.exf b hb).1,I4.ok.exfs b hb,.inl hb,(I4.ok.exf b hb).2,λp hp=>absurd (show p∈([]:List (Addr×Obj)) from hp) (by simp)⟩;have fr4:∀b∈fp,(upd H2 s2.heap.objs.size (.lst [])) b=none:=λb hb=>by obtain⟨o,e⟩:=ho b hb;rw[au (Nat.ne_of_lt (Heap.lt_size e))]; exact(f2 b hb).1
 have loop:codeAny (model X.prog X.w) X.A (.compLoop (.ListComp elt [⟨tg,iter,ifs,0⟩] scope pos) 0 (.ref it) (.ref s2.heap.objs.size) (aM X s2 H2 scope N fp).env)
     (compPost (model X.prog X.w) X.A X.xe none (EP X pins σ Q) (.ref s2.heap.objs.size) (s2.heap.objs.size+1))
     { s2 with heap:=pushCells ((s2.heap.push { cls:=.type "list",data:=.seq ([]:List Value).toArray }).push { cls:=.type "dict",data:=.dict #[] }) scope.names }:=by
   refine kh (λn s'=>∃i σ' H',Inv (aM X s2 H2 scope N fp) [] σ' H' s'/\tn i s'.heap/\(∀b∈fp,H' b=none)/\Z i n σ' H') ?_ m0 ⟨0,_,_,I4,st4,fr4,z0⟩;rintro n s3 ⟨i,σ3,H3,I3,st3,fr3,w3⟩;rcases turn i n σ3 H3 w3 with ⟨stop,qn⟩ | ⟨go,step⟩
   . refine thn (T.done (aM X s2 H2 scope N fp) rfl rfl rfl hc i [] s3 σ3 H3 _ I3 (stat fr3) st3 stop) λr s5 ⟨hr,I5⟩=>?_;subst hr;obtain⟨m,hn,_⟩:=id I5.loc;refine⟨m,hn,λh' sb=>⟨.ref s2.heap.objs.size,H3,?_,rfl,qn⟩⟩;have lt:∀b o,s2.heap.get? b=some o->b≠s2.heap.objs.size+1:=λb o e=>Nat.ne_of_lt (Nat.lt_succ_of_lt (Heap.lt_size e));have u:=I5.base
     have u':Un (frs X.stack) fp H2 H3 s2.heap h':=⟨λb o e n1 n2 n3=>(sb.2 b (lt b o e)).trans (u.keep b o e n1 n2 n3),λb o e n1 n2 n3=>let ⟨sl,z⟩:=u.slot b o e n1 n2 n3; ⟨sl,(sb.2 b (lt b o e)).trans z⟩,
       u.free,λb o e n1=>let ⟨o',z⟩:=u.there b o e n1; ⟨o',(sb.2 b (lt b o e)).trans z⟩,u.tups,u.frzs,u.tbls⟩
     have fC:H3 (s2.heap.objs.size+1)=none:=I5.free;refine I2.yk (s':={ s5 with heap:=h' }) I5.os u' (λb o e=>(I5.hok b o e).kf (λd v hd z=>(sb.2 d ?_).trans z) (λ_ z=>z) λ_ _ z=>z) I5.bare λb hb=>⟨(f2 b hb).2.2.2.1,(f2 b hb).2.1,(f2 b hb).2.2.2.2.1,(f2 b hb).2.2.2.2.2⟩;rcases hd with hd | hd
     . rw[hd]; exact aS e fC
     . exact aS hd fC
   . refine thn (T.item (aM X s2 H2 scope N fp) rfl rfl rfl hc i [] s3 σ3 H3 _ I3 (stat fr3) st3 go) λr s4 ⟨u,hr,h4⟩=>?_;subst hr;refine thn h4 λ_ s5 ⟨x,H5,I5,r5,y5,st5,fr5⟩=>?_;have I5':=I5.pinned (stat fr5) (T.obj _ _ st5);refine thn (hg _ s5 σ3 H5 x u _ I5' r5 (step x H5 y5)) λ_ s6 ⟨σ6,H6,I6,q6⟩=>?_
     have again:∀{s7:Shared} {σ7:L2.St} {H7:Hp} {m':Nat},Inv (aM X s2 H2 scope N fp) ([]++gh fp s5.heap) σ7 H7 s7->m'<n->Z (i+1) m' σ7 H7 ->
         ∃m,m<n/\∃i σ' H',Inv (aM X s2 H2 scope N fp) [] σ' H' s7/\tn i s7.heap/\(∀b∈fp,H' b=none)/\Z i m σ' H':=λ{s7 σ7 H7 m'} I7 hm z7=>by
       refine⟨m',hm,i+1,σ7,H7,I7.dX,T.keep _ _ _ st5 λb hb o e=>(I7.pin (b,o) (List.mem_append_right _ (List.mem_append_right _ (cf hb e)))).1,λb hb=>?_,z7⟩;obtain⟨o,e,d⟩:=T.obj _ _ st5 b hb;exact(I7.pin (b,o) (List.mem_append_right _ (List.mem_append_right _ (cf hb e)))).2.1
     refine thn (ht _ s6 σ6 H6 _ I6 q6) λok s7 ⟨H7,I7,q7⟩=>?_;cases ok with
     | false=>rw[if_neg (by decide)]at q7;obtain⟨m',hm,z7⟩:=q7;exact again I7 hm z7
     | true=>rw[if_pos rfl]at q7;refine thn (he _ s7 σ6 H7 _ I7 q7) λv' s8 ⟨v,H8,I8,r8,vs,m',q8,l8,hm,z8⟩=>?_;refine thn (dW (X:=aM X s2 H2 scope N fp) _ s8 σ6 H8 (.ref s2.heap.objs.size) [v] (.ref s2.heap.objs.size) [v'] (λ_ H9=>H9=upd H8 s2.heap.objs.size (.lst (vs++[v]))) I8 rfl (.cons r8 .nil) ⟨_,vs,v,rfl,rfl,q8,l8,rfl⟩) λ_ s9 ⟨_,H9,I9,_,e9⟩=>?_;subst e9;exact again I9 hm z8
 exact codeAny_compStart_list loop (T.self _ 0 _ _ _ st4 loop)
end Ev
namespace Hy
open PySem PySem.Spec PyProof.Rows L2
open Ev (D Den aq)
open Classical in
noncomputable def hd (H:Hp)(M:Addr->Prop):Hp:=λb=>if M b then none else H b
theorem ag {H:Hp}{M:Addr->Prop}{b:Addr}{o:HO}:hd H M b=some o↔¬M b/\H b=some o:=by
 unfold hd;by_cases h:M b
 . rw[if_pos h]; exact⟨λz=>(nomatch z),λz=>absurd h z.1⟩
 . rw[if_neg h]; exact⟨λz=>⟨h,z⟩,λz=>z.2⟩
theorem av {H H':Hp}{M M':Addr->Prop}(e:ah H H')(m:∀b,M' b->M b):ah (hd H M) (hd H' M'):=λb _ h=>ag.mpr ⟨λz=>(ag.mp h).1 (m b z),e b _ (ag.mp h).2⟩
theorem aN {H:Hp}{M:Addr->Prop}:ah (hd H M) H:=λ_ _ h=>(ag.mp h).2
inductive Nd where
 | d (x:D) | l (xs:List Nd) | t (xs:List Nd)
structure Ex where
 p:PySem.W.Frag->Hp->HO->Addr->Prop
 mono:∀{K:PySem.W.Frag} {G G':Hp} {o:HO} {a:Addr},ah G G'->p K G o a->p K G' o a
 ext:∀{K:PySem.W.Frag} {G:Hp} {o:HO} {a:Addr},p K G o a->(∃φ,o=.ext φ)\/(∃ob φ,o=.frz ob (.ext φ))\/∃kvs,o=.dK kvs\/∃ob,o=.frz ob (.dK kvs)
inductive Sl where
 | un | d (x:D) | o (xs:List D) | n (t:Nd) | x (E:Ex)
mutual
inductive bN (K:PySem.W.Frag)(G H:Hp):V->List Addr->Nd->Prop where
 | d {u:V} {x:D} (h:Den K G u x):bN K G H u [] (.d x)
 | l {a:Addr} {vs:List V} {bs:List Addr} {xs:List Nd} (h:H a=some (.lst vs)) (r:aQ K G H vs bs xs):bN K G H (.ref a) (a::bs) (.l xs)
 | t {a:Addr} {vs:List V} {bs:List Addr} {xs:List Nd} (h:H a=some (.tup vs)) (r:aQ K G H vs bs xs):bN K G H (.ref a) (a::bs) (.t xs)
inductive aQ (K:PySem.W.Frag)(G H:Hp):List V->List Addr->List Nd->Prop where
 | nil:aQ K G H [] [] []
 | cons {v:V} {vs:List V} {b1 b2:List Addr} {s:Nd} {ss:List Nd} (h:bN K G H v b1 s) (r:aQ K G H vs b2 ss):aQ K G H (v::vs) (b1++b2) (s::ss)
end
noncomputable def bY (K:PySem.W.Frag)(G H:Hp)(v:Option V)(bs:List Addr):Sl->Prop
 | .un=>bs=[]
 | .d x=>bs=[]/\∃u,v=some u/\Den K G u x
 | .o xs=>∃a vs,bs=[a]/\v=some (.ref a)/\H a=some (.lst vs)/\aq K G vs xs
 | .n t=>bs.Nodup/\∃u,v=some u/\bN K G H u bs t
 | .x E=>∃a o,bs=[a]/\v=some (.ref a)/\H a=some o/\E.p K G o a
section
variable {K:PySem.W.Frag}{G G' H H':Hp}
mutual
theorem bN.frame (g:ah G G'):∀{u:V} {bs:List Addr} {t:Nd},(∀b∈bs,H' b=H b)->bN K G H u bs t->bN K G' H' u bs t
 | _,_,_,_,.d h=>.d (h.mono g)
 | _,_,_,e,.l h r=>.l (by rw[e _ (List.mem_cons_self ..)]; exact h) (aQ.frame g (λb hb=>e b (List.mem_cons_of_mem _ hb)) r)
 | _,_,_,e,.t h r=>.t (by rw[e _ (List.mem_cons_self ..)]; exact h) (aQ.frame g (λb hb=>e b (List.mem_cons_of_mem _ hb)) r)
theorem aQ.frame (g:ah G G'):∀{vs:List V} {bs:List Addr} {xs:List Nd},(∀b∈bs,H' b=H b)->aQ K G H vs bs xs->aQ K G' H' vs bs xs
 | _,_,_,_,.nil=>.nil
 | _,_,_,e,.cons h r=>.cons (bN.frame g (λb hb=>e b (List.mem_append_left _ hb)) h) (aQ.frame g (λb hb=>e b (List.mem_append_right _ hb)) r)
end
mutual
theorem bN.some_of:∀{u:V} {bs:List Addr} {t:Nd},bN K G H u bs t->∀b∈bs,∃o,H b=some o
 | _,_,_,.d _,_,z=>nomatch z
 | _,_,_,.l h r,b,z=>(List.mem_cons.mp z).elim (λe=>e▸⟨_,h⟩) λz=>aQ.some_of r b z
 | _,_,_,.t h r,b,z=>(List.mem_cons.mp z).elim (λe=>e▸⟨_,h⟩) λz=>aQ.some_of r b z
theorem aQ.some_of:∀{vs:List V} {bs:List Addr} {xs:List Nd},aQ K G H vs bs xs->∀b∈bs,∃o,H b=some o
 | _,_,_,.nil,_,z=>nomatch z
 | _,_,_,.cons h r,b,z=>(List.mem_append.mp z).elim (λz=>bN.some_of h b z) λz=>aQ.some_of r b z
end
theorem bN.mono (g:ah G G')(e:ah H H'){u:V}{bs:List Addr}{t:Nd}(h:bN K G H u bs t):bN K G' H' u bs t:=h.frame g λb hb=>by obtain⟨o,q⟩:=h.some_of b hb;rw[q,e b o q]
theorem bY.mono (g:ah G G')(e:ah H H'){v:Option V}{bs:List Addr}:∀{s:Sl},bY K G H v bs s->bY K G' H' v bs s
 | .un,h=>h
 | .d _,⟨h,u,e1,h2⟩=>⟨h,u,e1,h2.mono g⟩
 | .o _,⟨a,vs,h1,h2,h3,h4⟩=>⟨a,vs,h1,h2,e _ _ h3,h4.mono g⟩
 | .n _,⟨h0,u,h1,h2⟩=>⟨h0,u,h1,h2.mono g e⟩
 | .x E,⟨a,o,h1,h2,h3,h4⟩=>⟨a,o,h1,h2,e _ _ h3,E.mono g h4⟩
end
def own (A:Addr->Prop)(B:Nat->List Addr)(b:Addr):Prop:=A b\/∃i,b∈B i
noncomputable def vw (C:Bool)(A:Addr->Prop)(B:Nat->List Addr):Addr->Prop:=match C with
 | true=>own A B
 | false=>A
structure Sta (K:PySem.W.Frag)(A:Addr->Prop)(H₀:Hp)(τ:List Sl)(B:Nat->List Addr)(σ:L2.St)(H:Hp):Prop where
 same:ah H₀ H
 len:σ.length=τ.length
 sl:∀i s,τ[i]?=some s->bY K (hd H (own A B)) H (σ[i]?).join (B i) s
 fr:∀i b,b∈B i->H₀ b=none
 uq:∀i j b,b∈B i->b∈B j->i=j
 ad:∀b,A b->∃o,H₀ b=some o
 bd:∀i b,b∈B i->∃o,H b=some o
noncomputable def upB (B:Nat->List Addr)(i:Nat)(bs:List Addr):Nat->List Addr:=λj=>if j=i then bs else B j
section
variable {K:PySem.W.Frag}{A:Addr->Prop}{H₀ H H':Hp}{τ:List Sl}{B:Nat->List Addr}{σ:L2.St}
theorem Sta.dm (S:Sta K A H₀ τ B σ H)(b:Addr)(h:own A B b):∃o,H b=some o:=h.elim (λz=>let ⟨o,q⟩:=S.ad b z; ⟨o,S.same _ _ q⟩) λ⟨i,z⟩=>S.bd i b z
theorem Sta.mono (S:Sta K A H₀ τ B σ H)(e:ah H H'):Sta K A H₀ τ B σ H' where
 same:=S.same.trans e
 len:=S.len
 sl:=λi s h=>(S.sl i s h).mono (av e λ_ z=>z) e
 fr:=S.fr
 uq:=S.uq
 ad:=S.ad
 bd:=λi b h=>let ⟨o,q⟩:=S.bd i b h; ⟨o,e _ _ q⟩
theorem aP {i j:Nat}{bs:List Addr}{b:Addr}(h:b∈upB B i bs j):(j=i/\b∈bs)\/(j≠i/\b∈B j):=by
 unfold upB at h;by_cases e:j=i
 . rw[if_pos e]at h; exact .inl ⟨e,h⟩
 . rw[if_neg e]at h; exact .inr ⟨e,h⟩
theorem Sta.set (S:Sta K A H₀ τ B σ H)(e:ah H H'){i:Nat}{v:V}{s:Sl}{bs:List Addr}(hf:∀b∈bs,H b=none/\∃o,H' b=some o)(h:bY K (hd H' λb=>own A B b\/b∈bs) H' (some v) bs s):
   Sta K A H₀ (τ.set i s) (upB B i bs) (σ.set i (some v)) H':=by
 have sub:∀b,own A (upB B i bs) b->own A B b\/b∈bs:=λb z=>z.elim (λz=>.inl (.inl z)) λ⟨j,z⟩=>(aP z).elim (λz=>.inr z.2) λz=>.inl (.inr ⟨j,z.2⟩);have some_of:∀b j,b∈B j->∃o,H b=some o:=λb j z=>S.dm b (.inr ⟨j,z⟩);refine⟨S.same.trans e,by rw[List.length_set,List.length_set,S.len],λj t hj=>?_,λj b hb=>?_,λj k b h1 h2=>?_,S.ad,λj b hb=>?_⟩
 . by_cases ej:j=i
   . subst ej
     have hl:j<τ.length:=by
       have:=(List.getElem?_eq_some_iff.mp hj).1
       rwa [List.length_set]at this
     rw[List.getElem?_set_self hl]at hj;cases hj;rw[List.getElem?_set_self (by rw[S.len]; exact hl)];unfold upB;rw[if_pos rfl];exact h.mono (av (ah.refl _) sub) (ah.refl _)
   . rw[List.getElem?_set_ne (λz=>ej z.symm)]at hj;rw[List.getElem?_set_ne (λz=>ej z.symm)];unfold upB;rw[if_neg ej];have q:=S.sl j t hj;refine q.mono (λb o z=>?_) e;obtain⟨z1,z2⟩:=ag.mp z;refine ag.mpr ⟨λy=>?_,e _ _ z2⟩;rcases sub b y with y | y
     . exact z1 y
     . rw[(hf b y).1]at z2; cases z2
 . rcases aP hb with ⟨_,z⟩ | ⟨_,z⟩
   . exact S.same.free (hf b z).1
   . exact S.fr j b z
 . rcases aP h1 with ⟨e1,z1⟩ | ⟨e1,z1⟩ <;> rcases aP h2 with ⟨e2,z2⟩ | ⟨e2,z2⟩
   . exact e1.trans e2.symm
   . obtain⟨o,q⟩:=some_of b k z2; rw[(hf b z1).1]at q; cases q
   . obtain⟨o,q⟩:=some_of b j z1; rw[(hf b z2).1]at q; cases q
   . exact S.uq j k b z1 z2
 . rcases aP hb with ⟨_,z⟩ | ⟨_,z⟩
   . exact(hf b z).2
   . obtain⟨o,q⟩:=S.bd j b z; exact⟨o,e _ _ q⟩
theorem Sta.less (S:Sta K A H₀ τ B σ H){i:Nat}{s:Sl}{bs:List Addr}(hb:∀b∈bs,b∈B i)(h:∀G:Hp,ah (hd H (own A B)) G->(∀b o,b∈B i->b∉bs->H b=some o->G b=some o)->bY K G H (σ[i]?).join bs s):Sta K A H₀ (τ.set i s) (upB B i bs) σ H:=by
 have sub:∀b,own A (upB B i bs) b->own A B b:=λb z=>z.elim .inl λ⟨j,z⟩=>(aP z).elim (λz=>.inr ⟨i,hb b z.2⟩) λz=>.inr ⟨j,z.2⟩;refine⟨S.same,by rw[List.length_set,S.len],λj t hj=>?_,λj b h=>?_,λj k b h1 h2=>?_,S.ad,λj b h=>(aP h).elim (λz=>S.bd i b (hb b z.2)) λz=>S.bd j b z.2⟩
 . by_cases ej:j=i
   . subst ej
     have hl:j<τ.length:=by
       have:=(List.getElem?_eq_some_iff.mp hj).1
       rwa [List.length_set]at this
     rw[List.getElem?_set_self hl]at hj;cases hj;unfold upB;rw[if_pos rfl];refine h _ (av (ah.refl _) sub) λb o z1 z2 z3=>ag.mpr ⟨λy=>?_,z3⟩;rcases y with y | ⟨m,y⟩
     . obtain⟨_,q⟩:=S.ad b y;rw[S.fr j b z1]at q; cases q
     . rcases aP y with ⟨e,y⟩ | ⟨e,y⟩
       . exact z2 y
       . exact e (S.uq m j b y z1)
   . rw[List.getElem?_set_ne (λz=>ej z.symm)]at hj;unfold upB;rw[if_neg ej];exact(S.sl j t hj).mono (av (ah.refl _) sub) (ah.refl _)
 . rcases aP h with ⟨e,z⟩ | ⟨_,z⟩
   . exact S.fr i b (hb b z)
   . exact S.fr j b z
 . rcases aP h1 with ⟨e1,z1⟩ | ⟨e1,z1⟩ <;> rcases aP h2 with ⟨e2,z2⟩ | ⟨e2,z2⟩
   . exact e1.trans e2.symm
   . exact absurd (S.uq k i b z2 (hb b z1)) e2
   . exact absurd (S.uq j i b z1 (hb b z2)) e1
   . exact S.uq j k b z1 z2
end
end Hy
namespace Hy
open PySem PySem.Spec PyProof.Rows L2
open Ev (D Den aq aD aH ai aU aO)
def Fr (H H':Hp)(bs:List Addr):Prop:=∀b∈bs,H b=none/\∃o,H' b=some o
def dE (K:PySem.W.Frag)(C:Bool)(τ:List Sl)(s:Sl):TE:=λσ H Q=>∃A H₀ B,Sta K A H₀ τ B σ H /\
 ∀v H' bs,ah H H'->Fr H H' bs->bY K (hd H' λb=>vw C A B b\/b∈bs) H' (some v) bs s->Q v H'
def dA (K:PySem.W.Frag)(C:Bool)(τ:List Sl)(ds:List D):TA:=λσ H Q=>∃A H₀ B,Sta K A H₀ τ B σ H /\
 ∀vs H',ah H H'->aq K (hd H' (vw C A B)) vs ds->Q vs H'
def dT (K:PySem.W.Frag)(τ:List Sl)(c:Bool):TT:=λσ H Q=>∃A H₀ B,Sta K A H₀ τ B σ H/\∀H',ah H H'->Q c H'
structure Po where
 nx:List Sl->Prop
 rt:Sl->Prop
 bk:List Sl->Prop:=λ_=>False
 ct:List Sl->Prop:=λ_=>False
 xc:Hp->Prop:=λ_=>True
structure Meets (K:PySem.W.Frag)(A:Addr->Prop)(H₀:Hp)(N:Po)(D:Ends):Prop where
 nx:∀τ B σ H,N.nx τ->Sta K A H₀ τ B σ H->D.nx σ H
 bk:∀τ B σ H,N.bk τ->Sta K A H₀ τ B σ H->D.bk σ H
 ct:∀τ B σ H,N.ct τ->Sta K A H₀ τ B σ H->D.ct σ H
 rt:∀v H bs s,N.rt s->ah H₀ H->Fr H₀ H bs->bY K (hd H λb=>A b\/b∈bs) H (some v) bs s->D.rt v H
 xc:∀H,ah H₀ H->N.xc H
def dS (K:PySem.W.Frag)(τ:List Sl)(N:Po):TS:=λD σ H=>∃A H₀ B,Sta K A H₀ τ B σ H/\Meets K A H₀ N D
theorem peW {X:Cx}{e:Expr}{t t':TE}(h:PE X e t)(f:∀σ H Q,t' σ H Q->t σ H Q):PE X e t':=λpins s σ H Q I q=>h pins s σ H Q I (f σ H Q q)
theorem ptW {X:Cx}{e:Expr}{t t':TT}(h:PT X e t)(f:∀σ H Q,t' σ H Q->t σ H Q):PT X e t':=λpins s σ H Q I q=>h pins s σ H Q I (f σ H Q q)
theorem pwW {X:Cx}{e:Expr}{t t':TT}(h:PW X e t)(f:∀σ H Q,t' σ H Q->t σ H Q):PW X e t':=λwh pins s σ H Q I q=>h wh pins s σ H Q I (f σ H Q q)
theorem paW {X:Cx}{e:List Expr}{t t':TA}(h:PA X e t)(f:∀σ H Q,t' σ H Q->t σ H Q):PA X e t':=λp pins s σ H Q I q=>h p pins s σ H Q I (f σ H Q q)
theorem psW {X:Cx}{e:Stmt}{t t':TS}(h:PS X e t)(f:∀D σ H,t' D σ H->t D σ H):PS X e t':=λpins s σ H D I q=>h pins s σ H D I (f D σ H q)
theorem gM {X:Cx}{e:List Stmt}{t t':TS}(h:PSs X e t)(f:∀D σ H,t' D σ H->t D σ H):PSs X e t':=λpins s σ H D I q=>h pins s σ H D I (f D σ H q)
section
variable {K:PySem.W.Frag}{C:Bool}{τ:List Sl}{A:Addr->Prop}{H₀ H H':Hp}{B:Nat->List Addr}{σ:L2.St}{x y z:D}{Q:VK}
theorem iB {b:Addr}(h:vw C A B b):own A B b:=by
 cases C with
 | true=>exact h
 | false=>exact .inl h
theorem Sta.vd (S:Sta K A H₀ τ B σ H)(b:Addr)(h:vw C A B b):∃o,H b=some o:=S.dm b (iB h)
theorem aT (S:Sta K A H₀ τ B σ H)(k:∀v H',ah H H'->Den K (hd H' (vw C A B)) v x->Q v H'):dE K C τ (.d x) σ H Q:=
 ⟨A,H₀,B,S,λv H' bs e _ ⟨hb,u,eu,h⟩=>by
   cases eu;exact k v H' e (h.mono (av (ah.refl _) λ_ z=>.inl z))⟩
theorem c9 (h:dE K C τ (.d x) σ H Q):∃A H₀ B,Sta K A H₀ τ B σ H/\∀v H',ah H H'->Den K (hd H' (vw C A B)) v x->Q v H':=by obtain⟨A,H₀,B,S,k⟩:=h;exact⟨A,H₀,B,S,λv H' e d=>k v H' [] e (λ_ z=>nomatch z) ⟨rfl,v,rfl,d.mono (av (ah.refl _) λ_ z=>z.elim id λz=>nomatch z)⟩⟩
theorem eP {ds:List D}{Q:List V->Hp->Prop}(S:Sta K A H₀ τ B σ H)(k:∀vs H',ah H H'->aq K (hd H' (vw C A B)) vs ds->Q vs H'):dA K C τ ds σ H Q:=⟨A,H₀,B,S,k⟩
theorem jF {M:Addr->Prop}{p:Addr}{o:HO}(hM:∀b,M b->∃o,H b=some o)(hp:H p=none):hd (upd H p o) M p=some o:=ag.mpr ⟨λz=>(by obtain⟨o,q⟩:=hM p z; rw[hp]at q; cases q),aB⟩
mutual
noncomputable def ndD:Nd->D
 | .d x=>x
 | .l xs=>.lst (mr xs)
 | .t xs=>.tup (mr xs)
noncomputable def mr:List Nd->List D
 | []=>[]
 | x::xs=>ndD x::mr xs
end
noncomputable def fzD:Sl->Option D
 | .un=>none
 | .d x=>some x
 | .o xs=>some (.lst xs)
 | .n t=>some (ndD t)
 | .x _=>none
mutual
theorem bN.den {G G':Hp}(g:ah G G'):∀{u:V} {bs:List Addr} {t:Nd},(∀b∈bs,∀o,H b=some o->G' b=some o)->bN K G H u bs t->Den K G' u (ndD t)
 | _,_,_,_,.d h=>h.mono g
 | _,_,_,e,.l h r=>.lst (SqL.of (e _ (List.mem_cons_self ..) _ h)) (aQ.den g (λb hb=>e b (List.mem_cons_of_mem _ hb)) r)
 | _,_,_,e,.t h r=>.tup (SqT.of (e _ (List.mem_cons_self ..) _ h)) (aQ.den g (λb hb=>e b (List.mem_cons_of_mem _ hb)) r)
theorem aQ.den {G G':Hp}(g:ah G G'):∀{vs:List V} {bs:List Addr} {xs:List Nd},(∀b∈bs,∀o,H b=some o->G' b=some o)->aQ K G H vs bs xs->aq K G' vs (mr xs)
 | _,_,_,_,.nil=>.nil
 | _,_,_,e,.cons h r=>.cons (bN.den g (λb hb=>e b (List.mem_append_left _ hb)) h) (aQ.den g (λb hb=>e b (List.mem_append_right _ hb)) r)
end
theorem bY.den {G G':Hp}{v:Option V}{bs:List Addr}{s:Sl}(h:bY K G H v bs s)(g:ah G G')(hv:∀b∈bs,∀o,H b=some o->G' b=some o)(e:fzD s=some x):∃u,v=some u/\Den K G' u x:=by
 cases s with
 | un=>cases e
 | d y=>cases e; obtain⟨_,u,e,q⟩:=h; exact⟨u,e,q.mono g⟩
 | o xs=>cases e;obtain⟨a,vs,rfl,h2,h3,h4⟩:=h;exact⟨_,h2,.lst (SqL.of (hv a (List.mem_cons_self ..) _ h3)) (h4.mono g)⟩
 | n t=>cases e;obtain⟨_,u,e,q⟩:=h;exact⟨u,e,q.den g hv⟩
 | x E=>cases e
theorem slot_of {i:Nat}{u:V}(h:(σ[i]?).join=some u):σ[i]?=some (some u):=by
 cases e:σ[i]? with
 | none=>rw[e]at h; cases h
 | some o=>rw[e]at h; exact congrArg some h
end
section
variable {X:Cx}{C:Bool}{τ:List Sl}{x y z:D}{a b e:Expr}{es:List Expr}{pos:Pos}
theorem aa (i:Nat){n:Str}{x:D}(h:τ[i]?=some (.d x):=by rfl)(hN:X.N[i]?=some n:=by rfl)(hv:Vis X.env.scope n:=by first | exact Or.inl rfl | exact Or.inr (Or.inl rfl) | exact Or.inr (Or.inr rfl))
   (hd:(n==("__debug__" : Str))=false:=by decide) (hcd:(n==("__classdict__" : Str))=false:=by decide):PE X (.Name n pos) (dE X.K C τ (.d x)):=peW (bI hN hv hd hcd) λσ H Q q=>by
 obtain⟨A,H₀,B,S,k⟩:=c9 q;obtain⟨_,u,e,d⟩:=S.sl i _ h;exact⟨u,slot_of e,k u H (ah.refl _) (d.mono (av (ah.refl _) λ_ z=>iB z))⟩
theorem y8 (i:Nat){n:Str}{s:Sl}{x:D}(h:τ[i]?=some s:=by rfl)(hx:fzD s=some x:=by rfl)(hN:X.N[i]?=some n:=by rfl)(hv:Vis X.env.scope n:=by first | exact Or.inl rfl | exact Or.inr (Or.inl rfl) | exact Or.inr (Or.inr rfl))
   (hd:(n==("__debug__" : Str))=false:=by decide) (hcd:(n==("__classdict__" : Str))=false:=by decide):PE X (.Name n pos) (dE X.K false τ (.d x)):=peW (bI hN hv hd hcd) λσ H Q q=>by
 obtain⟨A,H₀,B,S,k⟩:=c9 q;obtain⟨u,e,d⟩:=(S.sl i _ h).den (G':=Hy.hd H A) (av (ah.refl _) λ_ z=>.inl z) (λb hb o ho=>ag.mpr ⟨λz=>(by obtain⟨_,q⟩:=S.ad b z; rw[S.fr i b hb]at q; cases q),ho⟩) hx;exact⟨u,slot_of e,k u H (ah.refl _) d⟩
theorem rL {v:V}(h:PE X e (tC v))(d:∀H,Den X.K H v x):PE X e (dE X.K C τ (.d x)):=peW h λσ H Q q=>by obtain⟨A,H₀,B,S,k⟩:=c9 q;exact k v H (ah.refl _) (d _)
theorem ae {i j}:PE X (.Constant (.int i) j pos) (dE X.K C τ (.d (.int i))):=rL pR λ_=>.int
theorem oZ {b j}:PE X (.Constant (.bool b) j pos) (dE X.K C τ (.d (.bl b))):=rL BF λ_=>.bl
theorem yC {j}:PE X (.Constant .none j pos) (dE X.K C τ (.d .non)):=rL zq λ_=>.non
theorem ze {n:Str}{i:Int}(hm:∃t,X.mg n=some (.int i t))(hg:Gl X n:=by rfl)(hd:(n==("__debug__" : Str))=false:=by decide):PE X (.Name n pos) (dE X.K C τ (.d (.int i))):=by obtain⟨t,hm⟩:=hm;exact rL (xw (v:=.int i) hg hm ⟨t,rfl⟩ hd) λ_=>.int
theorem bG {s:Sl}(h:PE X e (dE X.K C τ s))(hx:fzD s=some x:=by rfl):PE X e (dE X.K C τ (.d x)):=peW h λσ H Q q=>by obtain⟨A,H₀,B,S,k⟩:=c9 q;refine⟨A,H₀,B,S,λv H' bs e hf q=>?_⟩;have vd:=S.vd (C:=C);obtain⟨u,e1,d⟩:=q.den (G':=Hy.hd H' (vw C A B)) (av (ah.refl _) λ_ z=>.inl z) (λb hb o ho=>ag.mpr ⟨λz=>(by obtain⟨_,q⟩:=vd b z; rw[(hf b hb).1]at q; cases q),ho⟩) hx;cases e1;exact k v H' e d
noncomputable def flat:D->Bool
 | .tup _=>false
 | .lst _=>false
 | .box _=>false
 | _=>true
theorem tX {K:PySem.W.Frag}{G G':Hp}{v:V}(h:Den K G v x)(f:flat x=true):Den K G' v x:=by
 cases h with
 | non=>exact .non
 | bl=>exact .bl
 | int=>exact .int
 | str=>exact .str
 | tup _ _=>cases f
 | lst _ _=>cases f
 | box _=>cases f
def cM (X:Cx)(f:Value->Value->Sem Value)(x y z:D):Prop:=∃r:R2,OpR X f r /\
 ∀(M:Addr->Prop) (v w:V) (H:Hp) (Q:VK),(∀b,M b->∃o,H b=some o)->Den X.K (hd H M) v x->Den X.K (hd H M) w y->(∀u H',ah H H'->Den X.K (hd H' M) u z->Q u H')->r v w H Q
theorem two {r:R2}(hr:∀(M:Addr->Prop) (v w:V) (H:Hp) (Q:VK),(∀b,M b->∃o,H b=some o)->Den X.K (hd H M) v x->Den X.K (hd H M) w y->(∀u H',ah H H'->Den X.K (hd H' M) u z->Q u H')->r v w H Q):
   ∀σ H Q,dE X.K C τ (.d z) σ H Q->tOp r (dE X.K C τ (.d x)) (dE X.K C τ (.d y)) σ H Q:=by
 intro σ H Q h;obtain⟨A,H₀,B,S,k⟩:=c9 h;refine aT S λv H1 e1 d1=>aT (S.mono e1) λw H2 e2 d2=>hr (vw C A B) v w H2 Q ((S.mono e1).mono e2).vd (d1.mono (av e2 λ_ z=>z)) d2 λu H' e3 d3=>k u H' (e1.trans (e2.trans e3)) d3
theorem aJ {op:Operator}(ha:PE X a (dE X.K C τ (.d x)))(hb:PE X b (dE X.K C τ (.d y)))(ho:cM X (binaryOp op) x y z):PE X (.BinOp a op b pos) (dE X.K C τ (.d z)):=by obtain⟨r,h1,h2⟩:=ho;exact peW (vA h1 ha hb) (two h2)
theorem gX {op:CmpOp}(ha:PE X a (dE X.K C τ (.d x)))(hb:PE X b (dE X.K C τ (.d y)))(ho:cM X (compareOp op) x y z)(hm:behindInMarks op b=false:=by first | exact v7 _ | rfl):PE X (.Compare a [op] [b] pos) (dE X.K C τ (.d z)):=by obtain⟨r,h1,h2⟩:=ho;exact peW (xk h1 ha hb hm) (two h2)
theorem u3 {t:TE}{c:Bool}(h:∀σ H Q,dE X.K false τ (.d (.bl c)) σ H Q->t σ H Q):∀σ H Q,dT X.K τ c σ H Q->t σ H λx H'=>∃k,x=.bl k/\Q k H':=λσ H Q ⟨A,H₀,B,S,k⟩=>h σ H _ (aT S λv H' e d=>by cases d; exact⟨c,rfl,k H' e⟩)
theorem bF {op:CmpOp}{c:Bool}(ha:PE X a (dE X.K false τ (.d x)))(hb:PE X b (dE X.K false τ (.d y)))(ho:cM X (compareOp op) x y (.bl c))(hm:behindInMarks op b=false:=by first | exact v7 _ | rfl):PT X (.Compare a [op] [b] pos) (dT X.K τ c):=by obtain⟨r,h1,h2⟩:=ho;exact ptW (wD h1 ha hb hm) (u3 (two h2))
theorem gD {c:Bool}(h:PE X e (dE X.K false τ (.d (.bl c))))(he:∀whole,isTrue e X.env whole=(do let v <- whole; standAt e.pos; holding [v] (truthy v)):=by intro _; rfl):PT X e (dT X.K τ c):=ptW (zO h he) (u3 λ_ _ _ q=>q)
theorem kQ {g:Int->Int->V}{P:Int->Int->Prop}{i j:Int}(hc:P i j)(hz:∀K H,Den K H (g i j) z):∀(M:Addr->Prop) (v w:V) (H:Hp) (Q:VK),(∀b,M b->∃o,H b=some o)->Den X.K (hd H M) v (.int i)->Den X.K (hd H M) w (.int j) ->
   (∀u H',ah H H'->Den X.K (hd H' M) u z->Q u H')->rI P g v w H Q:=λ_ v w H Q _ d1 d2 k=>by
 cases d1;cases d2;exact⟨i,j,rfl,rfl,hc,k _ H (ah.refl _) (hz _ _)⟩
theorem iT {g:Int->Int->V}{i j:Int}(hz:∀K H,Den K H (g i j) z):∀(M:Addr->Prop) (v w:V) (H:Hp) (Q:VK),(∀b,M b->∃o,H b=some o)->Den X.K (hd H M) v (.int i)->Den X.K (hd H M) w (.int j) ->
   (∀u H',ah H H'->Den X.K (hd H' M) u z->Q u H')->rI0 g v w H Q:=λ_ v w H Q _ d1 d2 k=>by
 cases d1;cases d2;exact⟨i,j,rfl,rfl,k _ H (ah.refl _) (hz _ _)⟩
variable {i j:Int}
theorem bE:cM X (binaryOp .Add) (.int i) (.int j) (.int (i+j)):=⟨_,AZ,iT λ_ _=>.int⟩
theorem iX:cM X (binaryOp .Sub) (.int i) (.int j) (.int (i-j)):=⟨_,A5,iT λ_ _=>.int⟩
theorem BL:cM X (binaryOp .BitAnd) (.int i) (.int j) (.int (Builtin.bitAnd i j)):=⟨_,Ak,iT λ_ _=>.int⟩
theorem Dc:cM X (binaryOp .BitOr) (.int i) (.int j) (.int (Builtin.bitOr i j)):=⟨_,BJ,iT λ_ _=>.int⟩
theorem aD.ok' {i j:Int}(h:aD i j):IntMulOk i j:=by
 have b:∀{k:Int} {n:Nat},k.natAbs.log2<n->Builtin.Int.intBits k<=n:=λ{k n} q=>by
   unfold Builtin.Int.intBits;split
   . exact Nat.zero_le _
   . exact q
 rcases h with h | h | ⟨h1,h2⟩
 . exact .of_left (b h)
 . exact .of_right (b h)
 . exact .of_bits (Nat.le_trans (b h1) (by decide)) (Nat.le_trans (b h2) (by decide))
theorem aX (h:aD i j):cM X (binaryOp .Mult) (.int i) (.int j) (.int (i*j)):=⟨rI aD λi j=>.int (i*j),opI λ_ _ _ _ _ _ _ hc q=>mul_int q (aD.ok' hc),kQ h λ_ _=>.int⟩
theorem bx (h:aH j):cM X (binaryOp .FloorDiv) (.int i) (.int j) (.int (i.fdiv j)):=⟨rI (λ_ j=>aH j) λi j=>.int (i.fdiv j),opI λ_ _ _ _ _ _ _ hc q=>floordiv_int hc.1 q (.inl (PyProof.noPylong_of_log2 hc.2)),kQ h λ_ _=>.int⟩
theorem eU (h:j≠0):cM X (binaryOp .Mod) (.int i) (.int j) (.int (i.fmod j)):=⟨_,xN,kQ h λ_ _=>.int⟩
theorem Cg (h:wN i j):cM X (binaryOp .Pow) (.int i) (.int j) (.int (i^j.toNat)):=⟨_,Ax,kQ h λ_ _=>.int⟩
theorem Cb (h:wN i j):cM X (binaryOp .LShift) (.int i) (.int j) (.int (i*2^j.toNat)):=⟨_,zy,kQ h λ_ _=>.int⟩
theorem BC (h:0<=j):cM X (binaryOp .RShift) (.int i) (.int j) (.int (i/2^j.toNat)):=⟨_,zG,kQ h λ_ _=>.int⟩
theorem rY:cM X (compareOp .Lt) (.int i) (.int j) (.bl (decide (i<j))):=⟨_,Ci,iT λ_ _=>.bl⟩
theorem Bm:cM X (compareOp .LtE) (.int i) (.int j) (.bl (decide (i<=j))):=⟨_,Cj,iT λ_ _=>.bl⟩
theorem pL:cM X (compareOp .Gt) (.int i) (.int j) (.bl (decide (j<i))):=⟨_,CK,iT λ_ _=>.bl⟩
theorem Af:cM X (compareOp .GtE) (.int i) (.int j) (.bl (decide (j<=i))):=⟨_,BR,iT λ_ _=>.bl⟩
theorem ie:cM X (compareOp .Eq) (.int i) (.int j) (.bl (decide (i=j))):=⟨_,B4,λ_ v w H Q _ d1 d2 k=>by
 cases d1;cases d2;exact⟨rfl,by rw[show decide (V.int i=V.int j)=decide (i=j) by simp]; exact k _ H (ah.refl _) .bl⟩⟩
theorem yU:cM X (compareOp .NotEq) (.int i) (.int j) (.bl (!decide (i=j))):=⟨_,BQ,λ_ v w H Q _ d1 d2 k=>by
 cases d1;cases d2;exact⟨rfl,by rw[show decide (V.int i=V.int j)=decide (i=j) by simp]; exact k _ H (ah.refl _) .bl⟩⟩
theorem kX (h:PE X a (dE X.K C τ (.d (.int i)))):PE X (.UnaryOp .USub a pos) (dE X.K C τ (.d (.int (-i)))):=peW (BD zr h) λσ H Q q=>by obtain⟨A,H₀,B,S,k⟩:=c9 q;refine aT S λv H1 e1 d1=>?_;cases d1;exact⟨i,rfl,k _ H1 e1 .int⟩
theorem tD {e:Expr}:PE X e λ_ _ _=>False:=λ_ _ _ _ _ _ h=>h.elim
theorem pw_no {e:Expr}:PW X e λ_ _ _=>False:=λ_ _ _ _ _ _ _ h=>h.elim
variable {p q:Bool}{c:Expr}{rest:List Expr}
theorem oy {op}{s:Sl}(h:PE X a (dE X.K C τ s)):PE X (.BoolOp op [a] pos) (dE X.K C τ s):=zQ h
theorem nZ (ha:PE X a (dE X.K C τ (.d (.bl p))))(hb:p=true->PE X (.BoolOp .And (b::rest) pos) (dE X.K C τ (.d (.bl q)))):PE X (.BoolOp .And (a::b::rest) pos) (dE X.K C τ (.d (.bl (p&&q)))):=by
 cases p with
 | false=>refine peW (vO ha tD) λσ H Q z=>?_;obtain⟨A,H₀,B,S,k⟩:=c9 z;exact aT S λv H' e d=>by cases d; exact⟨_,rfl,k _ H' e .bl⟩
 | true=>refine peW (vO ha (hb rfl)) λσ H Q z=>?_;obtain⟨A,H₀,B,S,k⟩:=c9 z;exact aT S λv H' e d=>by cases d; exact⟨_,rfl,aT (S.mono e) λv H2 e2 d2=>k v H2 (e.trans e2) d2⟩
theorem BS (ha:PE X a (dE X.K C τ (.d (.bl p)))):PE X (.UnaryOp .Not a pos) (dE X.K C τ (.d (.bl (!p)))):=peW (AH ha) λσ H Q z=>by obtain⟨A,H₀,B,S,k⟩:=c9 z;exact aT S λv H' e d=>by cases d; exact⟨_,rfl,k _ H' e .bl⟩
theorem u4 (ha:PT X a (dT X.K τ p)):PW X (.BoolOp .And [a] pos) (dT X.K τ p):=pw_and1 ha
theorem qp (ha:PT X a (dT X.K τ p)):PW X (.BoolOp .Or [a] pos) (dT X.K τ p):=pw_or1 ha
theorem vN (ha:PT X a (dT X.K τ p))(hb:p=true->PW X (.BoolOp .And (b::rest) pos) (dT X.K τ q)):PW X (.BoolOp .And (a::b::rest) pos) (dT X.K τ (p&&q)):=by
 cases p with
 | false=>exact pwW (pw_and ha pw_no) λσ H Q ⟨A,H₀,B,S,k⟩=>⟨A,H₀,B,S,λH' e=>pY (k H' e)⟩
 | true=>exact pwW (pw_and ha (hb rfl)) λσ H Q ⟨A,H₀,B,S,k⟩=>⟨A,H₀,B,S,λH' e=>oj (⟨A,H₀,B,S.mono e,λH2 e2=>k H2 (e.trans e2)⟩)⟩
theorem vG (ha:PT X a (dT X.K τ p))(hb:p=false->PW X (.BoolOp .Or (b::rest) pos) (dT X.K τ q)):PW X (.BoolOp .Or (a::b::rest) pos) (dT X.K τ (p||q)):=by
 cases p with
 | true=>exact pwW (pw_or ha pw_no) λσ H Q ⟨A,H₀,B,S,k⟩=>⟨A,H₀,B,S,λH' e=>oj (k H' e)⟩
 | false=>exact pwW (pw_or ha (hb rfl)) λσ H Q ⟨A,H₀,B,S,k⟩=>⟨A,H₀,B,S,λH' e=>pY (⟨A,H₀,B,S.mono e,λH2 e2=>k H2 (e.trans e2)⟩)⟩
theorem iR (ha:PT X a (dT X.K τ p)):PT X (.UnaryOp .Not a pos) (dT X.K τ (!p)):=ptW (AB ha) λσ H Q ⟨A,H₀,B,S,k⟩=>⟨A,H₀,B,S,λH' e=>k H' e⟩
theorem yu {s:Sl}(hc:PT X c (dT X.K τ p))(ha:p=true->PE X a (dE X.K C τ s))(hb:p=false->PE X b (dE X.K C τ s)):PE X (.IfExp c a b pos) (dE X.K C τ s):=by
 have fin:∀{σ H H' Q} {A:Addr->Prop} {H₀ B},Sta X.K A H₀ τ B σ H->(∀v H' bs,ah H H'->Fr H H' bs->bY X.K (hd H' λb=>vw C A B b\/b∈bs) H' (some v) bs s->Q v H')->ah H H'->dE X.K C τ s σ H' Q:=λS k e=>⟨_,_,_,S.mono e,λv H2 bs e2 hf h=>k v H2 bs (e.trans e2) (λb hb=>⟨e.free (hf b hb).1,(hf b hb).2⟩) h⟩;cases p with
 | true=>exact peW (oz hc (ha rfl) tD) λσ H Q ⟨A,H₀,B,S,k⟩=>⟨A,H₀,B,S,λH' e=>oj (fin S k e)⟩
 | false=>exact peW (oz hc tD (hb rfl)) λσ H Q ⟨A,H₀,B,S,k⟩=>⟨A,H₀,B,S,λH' e=>pY (fin S k e)⟩
theorem xZ {op op':CmpOp}(ha:PE X a (dE X.K C τ (.d x)))(hb:PE X b (dE X.K C τ (.d y)))(hc:PE X c (dE X.K C τ (.d z)))(h1:cM X (compareOp op) x y (.bl p))(h2:cM X (compareOp op') y z (.bl q))
   (hm:lastMarks [op,op'] [b,c]=false:=by with_unfolding_all rfl):PE X (.Compare a [op,op'] [b,c] pos) (dE X.K C τ (.d (.bl (p&&q))))/\(C=false->PT X (.Compare a [op,op'] [b,c] pos) (dT X.K τ (p&&q))):=by
 obtain⟨r,o1,k1⟩:=h1;obtain⟨r',o2,k2⟩:=h2
 have key:∀σ H Q,dE X.K C τ (.d (.bl (p&&q))) σ H Q->qh r r' (dE X.K C τ (.d x)) (dE X.K C τ (.d y)) (dE X.K C τ (.d z)) σ H Q:=λσ H Q h=>by
   obtain⟨A,H₀,B,S,k⟩:=c9 h;refine aT S λv H1 e1 d1=>aT (S.mono e1) λw H2 e2 d2=>k1 (vw C A B) v w H2 _ ((S.mono e1).mono e2).vd (d1.mono (av e2 λ_ z=>z)) d2 λu H3 e3 d3=>?_;cases d3;refine⟨p,rfl,?_⟩;cases p with
   | false=>exact pY (k _ H3 (e1.trans (e2.trans e3)) .bl)
   | true=>exact oj (aT (((S.mono e1).mono e2).mono e3) λw' H4 e4 d4=>k2 (vw C A B) w w' H4 Q ((((S.mono e1).mono e2).mono e3).mono e4).vd (d2.mono (av (e3.trans e4) λ_ z=>z)) d4 λu H5 e5 d5=>k u H5 (e1.trans (e2.trans (e3.trans (e4.trans e5)))) d5)
 exact⟨peW (tY o1 o2 ha hb hc hm) key,λhC=>by subst hC; exact ptW (tR o1 o2 ha hb hc hm) (u3 key)⟩
theorem af:PA X [] (dA X.K C τ []):=paW eO λσ H Q ⟨A,H₀,B,S,k⟩=>k [] H (ah.refl _) .nil
theorem ab {ds:List D}(ha:PE X e (dE X.K C τ (.d x)))(hr:PA X es (dA X.K C τ ds))(hs:starEach (e::es) X.env=(false,eval e X.env)::starEach es X.env:=by rfl):PA X (e::es) (dA X.K C τ (x::ds)):=paW (b7 ha hr hs) λσ H Q ⟨A,H₀,B,S,k⟩=>aT S λv H1 e1 d1=>eP (S.mono e1) λvs H2 e2 d2=>k _ H2 (e1.trans e2) (.cons (d1.mono (av e2 λ_ z=>z)) d2)
theorem b6 {ds:List D}{m}(h:PA X es (dA X.K C τ ds))(hl:Nat.ble ds.length 1000=true:=by rfl):PE X (.Tuple es m pos) (dE X.K C τ (.d (.tup ds))):=peW (tP h) λσ H Q q=>by obtain⟨A,H₀,B,S,k⟩:=c9 q;refine eP S λvs H1 e1 d1=>⟨by rw[d1.length]; exact Nat.le_of_lt (hX (Nat.le_of_ble_eq_true hl)),λp hp=>k _ _ (e1.trans (ai hp _)) ?_⟩;exact .tup (SqT.of (jF (S.mono e1).vd hp)) (d1.mono (av (ai hp _) λ_ z=>z))
theorem dB {ds:List D}(h:PA X es (dA X.K C τ ds))(hl:Nat.ble ds.length 1000=true:=by rfl):PE X (.List es pos) (dE X.K C τ (.o ds)):=peW (uI h) λσ H Q ⟨A,H₀,B,S,k⟩=>
 eP S λvs H1 e1 d1=>⟨by rw[d1.length]; exact Nat.le_of_lt (hX (Nat.le_of_ble_eq_true hl)),λp hp=>k _ _ [p] (e1.trans (ai hp _)) (λb hb=>by
   obtain rfl:=List.mem_singleton.mp hb
   exact⟨e1.free hp,_,aB⟩) ⟨p,vs,rfl,rfl,aB,d1.mono λb o z=>by
     obtain⟨z1,z2⟩:=ag.mp z;refine ag.mpr ⟨λy=>?_,ai hp _ _ _ z2⟩;rcases y with y | y
     . exact z1 y
     . rw[List.mem_singleton.mp y]at z2; rw[hp]at z2; cases z2⟩⟩
end
def spD (K:PySem.W.Frag)(Φ:List D->Sl->Prop):Sp:=λvs H Q _=>∃A ds s,(∀b,A b->∃o,H b=some o)/\aq K (hd H A) vs ds/\Φ ds s /\
 ∀v H' bs,ah H H'->Fr H H' bs->bY K (hd H' λb=>A b\/b∈bs) H' (some v) bs s->Q v H'
def Cal (P:Program)(w:World)(K:PySem.W.Frag)(mg:Str->Option Value)(base:Heap)(k:Nat)(n:Str)(Φ:List D->Sl->Prop):Prop:=∃f fd ps,a4 P w K mg base CX0 k f fd ps (spD K Φ)/\mg n=some (.ref f)/\PySem.W.keepIn K (.ref f)=true/\Binds K fd ps []
theorem Cal.mono {P:Program}{w:World}{K:PySem.W.Frag}{mg:Str->Option Value}{base:Heap}{j k:Nat}{n:Str}{Φ:List D->Sl->Prop}(c:Cal P w K mg base j n Φ)(h:j<=k):Cal P w K mg base k n Φ:=let ⟨f,fd,ps,F,r⟩:=c; ⟨f,fd,ps,F.mono h,r⟩
noncomputable def ar:List Str:=["len","abs","max","min","int","bool","list","tuple","str","isinstance","range","enumerate","all","zip","sorted","sum","any","reversed"]
structure Bk (X:Cx)(k:Nat):Prop where
 room:e7 k X.A
 calm:X.calm=true
 blt:∀x∈ar,X.mg x=none
 po:PassesOwn (model X.prog X.w) X.A X.env X.xe
section
variable {X:Cx}{C:Bool}{τ:List Sl}{x y z:D}{a b e:Expr}{es:List Expr}{pos p:Pos}{k:Nat}{s:Sl}{ds:List D}{i j:Int}
theorem x_call {n:Str}{Φ:List D->Sl->Prop}(B:Bk X k)(c:Cal X.prog X.w X.K X.mg X.base k n Φ)(ha:PA X (e::es) (dA X.K C τ ds))(h:Φ ds s)(hg:Gl X n:=by rfl)(hdb:(n==("__debug__" : Str))=false:=by decide)
   (he:starEach (e::es) X.env=(false,eval e X.env)::starEach es X.env:=by rfl) (hpl:(backTo pos (starEach es X.env)).any (·.1)=false:=by rfl):PE X (.Call (.Name n p) (e::es) [] pos) (dE X.K C τ s):=by
 obtain⟨f,fd,ps,F,hm,hk,hb⟩:=c;refine peW (qJ F B.room hg hm hk hb .nil yt ha hdb he hpl) λσ H Q ⟨A,H₀,B,S,q⟩=>eP S λvs H1 e1 d1=>?_;rw[List.append_nil];exact⟨vw C A B,ds,s,(S.mono e1).vd,d1,h,λv H' bs e2 hf h2=>q v H' bs (e1.trans e2) (λb hb=>⟨e1.free (hf b hb).1,(hf b hb).2⟩) h2⟩
def iz (X:Cx)(f:Value)(ds:List D)(s:Sl):Prop:=∃r:List V->Hp->VK->Prop,eQ X f r /\
 ∀(M:Addr->Prop) (vs:List V) (H:Hp) (Q:VK),(∀b,M b->∃o,H b=some o)->aq X.K (hd H M) vs ds->(∀u H' bs,ah H H'->Fr H H' bs->bY X.K (hd H' λb=>M b\/b∈bs) H' (some u) bs s->Q u H')->r vs H Q
theorem uk {r:List V->Hp->VK->Prop}(hr:∀(M:Addr->Prop) (vs:List V) (H:Hp) (Q:VK),(∀b,M b->∃o,H b=some o)->aq X.K (hd H M) vs ds->(∀u H' bs,ah H H'->Fr H H' bs->bY X.K (hd H' λb=>M b\/b∈bs) H' (some u) bs s->Q u H')->r vs H Q):
   ∀σ H Q,dE X.K C τ s σ H Q->tCB r (dA X.K C τ ds) σ H Q:=λσ H Q ⟨A,H₀,B,S,q⟩=>
 eP S λvs H1 e1 d1=>hr (vw C A B) vs H1 Q (S.mono e1).vd d1 λv H' bs e2 hf h2=>q v H' bs (e1.trans e2) (λb hb=>⟨e1.free (hf b hb).1,(hf b hb).2⟩) h2
theorem bM {n:Str}{id:String}(B:Bk X k)(ha:PA X (e::es) (dA X.K C τ ds))(c:iz X (.builtin id) ds s)(hn:n∈ar:=by decide)(hg:Gl X n:=by rfl)(hv:bootBuiltins n=some (.builtin id):=by decide +kernel)(h1:n ≠ "__name__":=by decide)(hdb:(n==("__debug__" : Str))=false:=by decide)
   (he:starEach (e::es) X.env=(false,eval e X.env)::starEach es X.env:=by rfl) (hpl:(backTo pos (starEach es X.env)).any (·.1)=false:=by rfl):PE X (.Call (.Name n p) (e::es) [] pos) (dE X.K C τ s):=by
 obtain⟨r,h1,h2⟩:=c;exact peW (nH h1 hg (B.blt _ hn) hv ha (by assumption) hdb he hpl) (uk h2)
theorem n8 {n:Str}{T:String}(B:Bk X k)(ha:PA X (e::es) (dA X.K C τ ds))(c:iz X (.type T) ds s)(hn:n∈ar:=by decide)(hg:Gl X n:=by rfl)(hv:bootBuiltins n=some (.type T):=by decide +kernel)(h1:n ≠ "__name__":=by decide)(hdb:(n==("__debug__" : Str))=false:=by decide)
   (he:starEach (e::es) X.env=(false,eval e X.env)::starEach es X.env:=by rfl) (hpl:(backTo pos (starEach es X.env)).any (·.1)=false:=by rfl):PE X (.Call (.Name n p) (e::es) [] pos) (dE X.K C τ s):=by
 obtain⟨r,h1,h2⟩:=c;exact peW (lj h1 hg (B.blt _ hn) hv ha (by assumption) hdb he hpl) (uk h2)
theorem iH {K:PySem.W.Frag}{H:Hp}{M:Addr->Prop}{v:V}(h:Den K (hd H M) v x):bY K (hd H λb=>M b\/b∈([]:List Addr)) H (some v) [] (.d x):=⟨rfl,v,rfl,h.mono (av (ah.refl _) λ_ z=>z.elim id λz=>nomatch z)⟩
theorem eI {H H':Hp}:Fr H H' []:=λ_ z=>nomatch z
theorem ft {xs:List D}:iz X (.builtin "len") [.lst xs] (.d (.int xs.length)):=⟨_,gm,λM vs H Q _ d q=>by
 cases d with
 | cons d r=>
   cases r;cases d with
   | lst h r=>
     refine⟨_,_,rfl,.inl (aO aN h),?_⟩;rw[r.length];exact q _ H [] (ah.refl _) eI (iH .int)⟩
theorem mq {xs:List D}:iz X (.builtin "len") [.tup xs] (.d (.int xs.length)):=⟨_,gm,λM vs H Q _ d q=>by
 cases d with
 | cons d r=>
   cases r;cases d with
   | tup h r=>
     refine⟨_,_,rfl,.inr (aU aN h),?_⟩;rw[r.length];exact q _ H [] (ah.refl _) eI (iH .int)⟩
noncomputable def xG (i:Int):Int:=if i<0 then -i else i
theorem oD:iz X (.builtin "abs") [.int i] (.d (.int (xG i))):=⟨_,vY,λM vs H Q _ d q=>by
 cases d with
 | cons d r=>
   cases r;cases d;exact⟨_,rfl,q _ H [] (ah.refl _) eI (iH .int)⟩⟩
theorem ya (hc:X.calm=true):iz X (.builtin "min") [.int i,.int j] (.d (.int (if j<i then j else i))):=⟨_,sI hc,λM vs H Q _ d q=>by
 cases d with
 | cons d r=>
   cases r with
   | cons d' r=>
     cases r;cases d;cases d';exact⟨_,_,rfl,q _ H [] (ah.refl _) eI (iH .int)⟩⟩
theorem yF {c:Bool}:iz X (.type "int") [.bl c] (.d (.int (if c then 1 else 0))):=⟨_,sx,λM vs H Q _ d q=>by
 cases d with
 | cons d r=>
   cases r;cases d;exact .inr ⟨_,rfl,q _ H [] (ah.refl _) eI (iH .int)⟩⟩
theorem jy {K:PySem.W.Frag}{H:Hp}{M:Addr->Prop}{p:Addr}{vs:List V}{xs:List D}(hp:H p=none)(d:aq K (hd H M) vs xs):
   ah H (upd H p (.lst vs))/\Fr H (upd H p (.lst vs)) [p]/\bY K (hd (upd H p (.lst vs)) λb=>M b\/b∈[p]) (upd H p (.lst vs)) (some (.ref p)) [p] (.o xs):=
 ⟨ai hp _,λb hb=>by
   obtain rfl:=List.mem_singleton.mp hb
   exact⟨hp,_,aB⟩,p,vs,rfl,rfl,aB,d.mono λb o z=>by
     obtain⟨z1,z2⟩:=ag.mp z;refine ag.mpr ⟨λy=>?_,ai hp _ _ _ z2⟩;rcases y with y | y
     . exact z1 y
     . rw[List.mem_singleton.mp y]at z2; rw[hp]at z2; cases z2⟩
theorem lS {xs:List D}:iz X (.type "list") [.lst xs] (.o xs):=⟨_,gS,λM vs H Q _ d q=>by
 cases d with
 | cons d r=>
   cases r;cases d with
   | lst h r=>
     refine⟨_,_,rfl,.inl (aO aN h),λp hp=>?_⟩;obtain⟨z1,z2,z3⟩:=jy (K:=X.K) (M:=M) hp r;exact q _ _ [p] z1 z2 z3⟩
theorem rD {xs:List D}:iz X (.type "list") [.tup xs] (.o xs):=⟨_,gS,λM vs H Q _ d q=>by
 cases d with
 | cons d r=>
   cases r;cases d with
   | tup h r=>
     refine⟨_,_,rfl,.inr (aU aN h),λp hp=>?_⟩;obtain⟨z1,z2,z3⟩:=jy (K:=X.K) (M:=M) hp r;exact q _ _ [p] z1 z2 z3⟩
theorem uB {K:PySem.W.Frag}{H:Hp}{vs:List V}{ds:List D}{i:Int}{d:D}(r:aq K H vs ds)(h:atI ds i=some d):∃v,atI vs i=some v/\Den K H v d:=by
 unfold atI at h ⊢;rw[r.length];cases e:ixN ds.length i with
 | none=>rw[e]at h; cases h
 | some j=>rw[e]at h; exact r.get h
def Au (X:Cx)(x y z:D):Prop:=∃r:R2,IxR X r /\
 ∀(M:Addr->Prop) (v w:V) (H:Hp) (Q:VK),(∀b,M b->∃o,H b=some o)->Den X.K (hd H M) v x->Den X.K (hd H M) w y->(∀u H',ah H H'->Den X.K (hd H' M) u z->Q u H')->r v w H Q
theorem aK (ha:PE X a (dE X.K C τ (.d x)))(hb:PE X b (dE X.K C τ (.d y)))(ho:Au X x y z)(hs:i8 b:=by exact λ_ _=>rfl):PE X (.Subscript a b pos) (dE X.K C τ (.d z)):=by obtain⟨r,h1,h2⟩:=ho;exact peW (yw h1 ha hb hs) (two h2)
theorem a7 {xs:List D}(h:atI xs i=some z):Au X (.lst xs) (.int i) z:=⟨_,qK,λM v w H Q _ d1 d2 q=>by
 cases d2;cases d1 with
 | lst hs r=>
   obtain⟨v,e,d⟩:=uB r h;exact⟨_,_,_,_,rfl,rfl,aO aN hs,e,q _ H (ah.refl _) d⟩⟩
theorem aL {xs:List D}(h:atI xs i=some z):Au X (.tup xs) (.int i) z:=⟨_,Ar,λM v w H Q _ d1 d2 q=>by
 cases d2;cases d1 with
 | tup hs r=>
   obtain⟨v,e,d⟩:=uB r h;exact⟨_,_,_,_,rfl,rfl,aU aN hs,e,q _ H (ah.refl _) d⟩⟩
def dO (K:PySem.W.Frag)(τ:List Sl)(c:Option Int):TO:=λσ H Q=>∃A H₀ B,Sta K A H₀ τ B σ H/\∀H',ah H H'->Q c H'
theorem BE {e:Option Expr}{t t':TO}(h:PO X e t)(f:∀σ H Q,t' σ H Q->t σ H Q):PO X e t':=λpins s σ H Q I q=>h pins s σ H Q I (f σ H Q q)
theorem iA:PO X none (dO X.K τ none):=BE xm λσ H Q ⟨A,H₀,B,S,k⟩=>k H (ah.refl _)
theorem cJ (h:PE X e (dE X.K false τ (.d (.int i)))):PO X (some e) (dO X.K τ (some i)):=BE (x5 h) λσ H Q ⟨A,H₀,B,S,k⟩=>aT S λv H1 e1 d1=>by cases d1;exact⟨_,rfl,k H1 e1⟩
noncomputable def cutD (xs:List D)(lo hi:Option Int):List D:=(xs.drop (HT.sIx xs.length 0 lo)).take (HT.sIx xs.length xs.length hi-HT.sIx xs.length 0 lo)
theorem sA {lo hi:Option Expr}{l u:Option Int}{xs:List D}{p2:Pos}(ha:PE X a (dE X.K C τ (.d (.lst xs))))(hl:PO X lo (dO X.K τ l))(hu:PO X hi (dO X.K τ u)):PE X (.Subscript a (.Slice lo hi none p2) pos) (dE X.K C τ (.o (cutD xs l u))):=
 peW (nY xX ha hl hu) λσ H Q ⟨A,H₀,B,S,k⟩=>aT S λv H1 e1 d1=>⟨A,H₀,B,S.mono e1,λH2 e2=>⟨A,H₀,B,(S.mono e1).mono e2,λH3 e3=>by
   cases d1 with
   | @lst _ ws _ h r=>
     have h:=aO (e2.trans e3) (aO aN h);refine⟨_,_,rfl,h,λp hp=>?_⟩;have r:=r.mono (av (e2.trans e3) λ_ z=>z);have r':aq X.K (hd H3 (vw C A B)) (jJ ws l u) (cutD xs l u):=by unfold jJ cutD;rw[r.length];exact(r.drop _).take _
     obtain⟨z1,z2,z3⟩:=jy (K:=X.K) hp r';exact k _ _ [p] (e1.trans (e2.trans (e3.trans z1))) (λb hb=>⟨(e1.trans (e2.trans e3)).free (z2 b hb).1,(z2 b hb).2⟩) z3⟩⟩
inductive Ty where
 | int | bool | str | list | tuple
noncomputable def tyN:Ty->String
 | .int=>"int" | .bool=>"bool" | .str=>"str" | .list=>"list" | .tuple=>"tuple"
noncomputable def Ct:D->String
 | .non=>"NoneType" | .bl _=>"bool" | .int _=>"int" | .str _=>"str" | .tup _=>"tuple" | .lst _=>"list" | .box _=>"dict"
noncomputable def ou:Ty->D->Bool
 | .int,.int _=>true
 | .int,.bl _=>true
 | .bool,.bl _=>true
 | .str,.str _=>true
 | .list,.lst _=>true
 | .tuple,.tup _=>true
 | _,_=>false
theorem yP (K:PySem.W.Frag)(d:D)(t:Ty):PySem.W.kitOne K (.type (Ct d)) (.type (tyN t))=some (ou t d):=by cases d <;> cases t <;> (show PySem.W.kitOne K (.type _) (.type _)=some _) <;> with_unfolding_all rfl
theorem AL (t:Ty):eQ X (.builtin "isinstance") (λxs H Q=>∃G x d,ah G H/\xs=[x,.ty (tyN t)]/\Den X.K G x d/\Q (.bl (ou t d)) H):=by
 intro pins s σ H xs us Q I r q;obtain⟨G,x,d,sg,rfl,dx,q⟩:=q
 obtain⟨u,w,rfl,rx,rt⟩:∃u w,us=[u,w]/\RelV x u/\RelV (.ty (tyN t)) w:=by
   cases r with
   | cons r1 r=>cases r with
     | cons r2 r=>cases r; exact⟨_,_,rfl,r1,r2⟩
 cases (show w=Value.type (tyN t) from rt);have kt:=yP X.K d t;have fin:∀tk,EP X pins σ Q (.bool (ou t d)) { s with toks:=tk }:=λtk=>⟨.bl _,H,I.tok _,rfl,q⟩;cases dx with
 | non=>cases (show u=Value.none from rx); exact PySem.W.kia_one PySem.W.kitx_none I.kIn True.intro kt (λz=>nomatch z) fin
 | bl=>cases (show u=Value.bool _ from rx); exact PySem.W.kia_one PySem.W.kitx_bool I.kIn True.intro kt (λz=>nomatch z) fin
 | int=>obtain⟨t',z⟩:=(show ∃t,u=Value.int _ t from rx); cases z; exact PySem.W.kia_one PySem.W.kitx_int I.kIn True.intro kt (λz=>nomatch z) fin
 | str=>obtain⟨t',z⟩:=(show ∃t,u=Value.str _ t from rx); cases z; exact PySem.W.kia_one PySem.W.kitx_str I.kIn True.intro kt (λz=>nomatch z) fin
 | tup h r1=>cases (show u=Value.ref _ from rx);obtain⟨its,_,⟨o,h1,h2,_⟩,_⟩:=I.tuple (aU sg h);exact PySem.W.kia_one PySem.W.kitx_tuple I.kIn ⟨o,h1,h2⟩ kt (λz=>nomatch z) fin
 | lst h r1=>cases (show u=Value.ref _ from rx);obtain⟨its,_,⟨o,n,h1,h2,_⟩,_⟩:=I.list (aO sg h);exact PySem.W.kia_one PySem.W.kitx_list I.kIn ⟨o,h1,h2⟩ kt (λz=>nomatch z) fin
 | @box a x h=>cases (show u=Value.ref _ from rx);obtain⟨o',h1,h2⟩:=x.isd h;obtain⟨o,h3,h4⟩:=h2 _ _ _ _ (I.hok a _ (sg _ _ h1));exact PySem.W.kia_one PySem.W.kitx_dict I.kIn ⟨o,h3,h4⟩ kt (λz=>nomatch z) fin
theorem kR {n:Str}{q:Pos}(t:Ty)(B:Bk X k)(ha:PE X a (dE X.K false τ (.d x)))(hn:n∈ar:=by decide)(ht:bootBuiltins n=some (.type (tyN t)):=by decide +kernel)(hg:Gl X "isinstance":=by rfl)(hg':Gl X n:=by rfl)(h1:n ≠ "__name__":=by decide)(hdb:(n==("__debug__" : Str))=false:=by decide)
   (he:starEach [a,.Name n q] X.env=(false,eval a X.env)::starEach [.Name n q] X.env:=by rfl) (hpl:(backTo pos (starEach [.Name n q] X.env)).any (·.1)=false:=by rfl):PE X (.Call (.Name "isinstance" p) [a,.Name n q] [] pos) (dE X.K C τ (.d (.bl (ou t x)))):=by
 refine peW (nH (AL t) hg (B.blt _ (by decide)) (by decide +kernel) (b7 ha (b7 (wG (v:=.ty (tyN t)) hg' (B.blt _ hn) ht rfl h1 hdb) eO) he) (by decide) (by decide) he hpl) λσ H Q q=>?_;obtain⟨A,H₀,B,S,k⟩:=c9 q;exact aT S λv H1 e1 d1=>⟨_,v,x,aN,rfl,d1,k _ H1 e1 .bl⟩
end
section
variable {K:PySem.W.Frag}{A:Addr->Prop}{H₀ H:Hp}{τ:List Sl}{B:Nat->List Addr}{σ:L2.St}
theorem Sta.put (S:Sta K A H₀ τ B σ H){i:Nat}{a:Addr}{xs ys:List D}{vs:List V}(hi:τ[i]?=some (.o xs))(hB:B i=[a])(d:aq K (hd H (own A B)) vs ys):Sta K A H₀ (τ.set i (.o ys)) B σ (upd H a (.lst vs)):=by
 have ha:own A B a:=.inr ⟨i,by rw[hB]; exact List.mem_singleton.mpr rfl⟩;have ne:∀b,b≠a->upd H a (.lst vs) b=H b:=λb h=>au h;have sm:ah (hd H (own A B)) (hd (upd H a (.lst vs)) (own A B)):=λb o z=>by obtain⟨z1,z2⟩:=ag.mp z;exact ag.mpr ⟨z1,by rw[ne b (λe=>z1 (e▸ha))]; exact z2⟩
 have f0:H₀ a=none:=S.fr i a (by rw[hB]; exact List.mem_singleton.mpr rfl);have hs:ah H₀ (upd H a (.lst vs)):=λb o z=>by rw[ne b (λe=>by rw[e,f0]at z; cases z)]; exact S.same b o z
 refine⟨hs,by rw[List.length_set,S.len],λj t hj=>?_,S.fr,S.uq,S.ad,λj b hb=>?_⟩
 . by_cases ej:j=i
   . subst ej;have hl:=(List.getElem?_eq_some_iff.mp hi).1;rw[List.getElem?_set_self hl]at hj;cases hj;obtain⟨a',vs',e1,e2,_,_⟩:=S.sl j _ hi;rw[hB]at e1;cases e1;exact⟨a,vs,hB,e2,aB,d.mono sm⟩
   . rw[List.getElem?_set_ne (λz=>ej z.symm)]at hj;have q:=S.sl j t hj;have off:∀b∈B j,b≠a:=λb hb e=>ej (S.uq j i a (e▸hb) (by rw[hB]; exact List.mem_singleton.mpr rfl));cases t with
     | un=>exact q
     | d x=>obtain⟨z,u,e,d⟩:=q; exact⟨z,u,e,d.mono sm⟩
     | o zs=>obtain⟨c,ws,z1,z2,z3,z4⟩:=q;exact⟨c,ws,z1,z2,by rw[ne c (off c (by rw[z1]; exact List.mem_singleton.mpr rfl))]; exact z3,z4.mono sm⟩
     | n t=>obtain⟨z0,u,z1,z2⟩:=q;exact⟨z0,u,z1,z2.frame sm λb hb=>ne b (off b hb)⟩
     | x E=>obtain⟨c,o,z1,z2,z3,z4⟩:=q;exact⟨c,o,z1,z2,by rw[ne c (off c (by rw[z1]; exact List.mem_singleton.mpr rfl))]; exact z3,E.mono sm z4⟩
 . by_cases e:b=a
   . subst e; exact⟨_,aB⟩
   . rw[ne b e]; exact S.bd j b hb
theorem Sta.fz (S:Sta K A H₀ τ B σ H){i:Nat}{s:Sl}{x:D}(hi:τ[i]?=some s)(hx:fzD s=some x):Sta K A H₀ (τ.set i (.d x)) (upB B i []) σ H:=S.less (λ_ z=>nomatch z) λG g hv=>by obtain⟨u,e,d⟩:=(S.sl i s hi).den (G':=G) g (λb hb o ho=>hv b o hb (λz=>nomatch z) ho) hx;exact⟨rfl,u,e,d⟩
theorem Sta.un (S:Sta K A H₀ τ B σ H)(i:Nat):Sta K A H₀ (τ.set i .un) (upB B i []) σ H:=S.less (λ_ z=>nomatch z) λG g hv=>rfl
end
section
variable {X:Cx}{τ:List Sl}{x z:D}{b e c:Expr}{pos p:Pos}{s:Sl}{ds:List D}{N:Po}{st:Stmt}{rest body els:List Stmt}
theorem aR (h:N.nx τ):PSs X [] (dS X.K τ N):=gM i7 λD σ H ⟨A,H₀,B,S,M⟩=>M.nx τ B σ H h S
theorem bf {M:List Sl->Prop}(h1:PS X st (dS X.K τ { N with nx:=M }))(h2:∀τ',M τ'->PSs X rest (dS X.K τ' N)):PSs X (st::rest) (dS X.K τ N):=by have h:PSs X rest λD σ H=>∃τ',M τ'/\dS X.K τ' N D σ H:=λpins s σ H D I ⟨τ',m,q⟩=>h2 τ' m pins s σ H D I q;exact gM (cV h1 h) λD σ H ⟨A,H₀,B,S,Me⟩=>⟨A,H₀,B,S,λτ' B' σ' H' m S'=>⟨τ',m,A,H₀,B',S',Me⟩,Me.bk,Me.ct,Me.rt,Me.xc⟩
theorem pI (i:Nat){s:Sl}{x:D}(h:PSs X rest (dS X.K (τ.set i (.d x)) N))(hi:τ[i]?=some s:=by rfl)(hx:fzD s=some x:=by rfl):PSs X rest (dS X.K τ N):=gM h λD σ H ⟨A,H₀,B,S,Me⟩=>⟨A,H₀,_,S.fz hi hx,Me⟩
theorem aI (i:Nat){n:Str}{p:Pos}(hN:X.N.Nodup)(he:PE X e (dE X.K true τ s))(hr:PSs X rest (dS X.K (τ.set i s) N))(hi:X.N[i]?=some n:=by rfl)(hx:Loc X.env.scope n:=by first | exact .inl rfl | exact .inr rfl)(hs:swapsWith e (some (.Name n p)) pos.line X.env=pure false:=by rfl)
   (hf:X.fn n=true\/X.env.scope.names.lookup n=some .local:=by first | exact .inl rfl | exact .inr rfl | assumption):PSs X (.Assign [.Name n p] e pos::rest) (dS X.K τ N):=
 bf (M:=(·=τ.set i s)) (psW (js hN hi hx he hs hf) λD σ H ⟨A,H₀,B,S,Me⟩=>⟨A,H₀,B,S,λv H' bs e hf h=>Me.nx _ _ _ _ rfl (S.set e hf h)⟩) λ_ e=>e▸hr
theorem tN (he:PE X e (dE X.K true τ s))(hr:PSs X rest (dS X.K τ N))(hs:swapsWith e none pos.line X.env=pure false:=by rfl):PSs X (.Expr e pos::rest) (dS X.K τ N):=bf (M:=(·=τ)) (psW (fK he hs) λD σ H ⟨A,H₀,B,S,Me⟩=>⟨A,H₀,B,S,λv H' bs e hf h=>Me.nx _ _ _ _ rfl (S.mono e)⟩) λ_ e=>e▸hr
theorem aY (he:PE X e (dE X.K false τ s))(h:N.rt s):PSs X (.Return (some e) pos::rest) (dS X.K τ N):=bf (M:=λ_=>False) (psW (pE he) λD σ H ⟨A,H₀,B,S,Me⟩=>⟨A,H₀,B,S,λv H' bs e hf q=>Me.rt v H' bs s h (S.same.trans e) (λb hb=>⟨S.same.free (hf b hb).1,(hf b hb).2⟩) q⟩) λ_ e=>e.elim
theorem dY (i:Nat){n:Str}(h:N.rt s)(hi:τ[i]?=some s:=by rfl)(h0:s≠.un:=by exact nofun)(hN:X.N[i]?=some n:=by rfl)(hv:Vis X.env.scope n:=by first | exact Or.inl rfl | exact Or.inr (Or.inl rfl) | exact Or.inr (Or.inr rfl))
   (hd:(n==("__debug__" : Str))=false:=by decide) (hcd:(n==("__classdict__" : Str))=false:=by decide):PSs X (.Return (some (.Name n p)) pos::rest) (dS X.K τ N):=
 bf (M:=λ_=>False) (psW (pE (bI hN hv hd hcd)) λD σ H ⟨A,H₀,B,S,Me⟩=>by
   have q:=S.sl i s hi
   obtain⟨u,e⟩:∃u,(σ[i]?).join=some u:=by
     cases s with
     | un=>exact absurd rfl h0
     | d x=>obtain⟨_,u,e,_⟩:=q; exact⟨u,e⟩
     | o xs=>obtain⟨_,_,_,e,_⟩:=q; exact⟨_,e⟩
     | n t=>obtain⟨_,u,e,_⟩:=q; exact⟨u,e⟩
     | x E=>obtain⟨_,_,_,e,_⟩:=q; exact⟨_,e⟩
   rw[e]at q;exact⟨u,slot_of e,Me.rt u H (B i) s h S.same (λb hb=>⟨S.fr i b hb,S.bd i b hb⟩) (q.mono (av (ah.refl _) λb z=>z.elim .inl λz=>.inr ⟨i,z⟩) (ah.refl _))⟩) λ_ e=>e.elim
theorem yI {H H':Hp}{σ:L2.St}{D:Ends}{A:Addr->Prop}{H₀:Hp}{B:Nat->List Addr}(S:Sta X.K A H₀ τ B σ H)(Me:Meets X.K A H₀ N D)(e:ah H H'):dS X.K τ N D σ H':=⟨A,H₀,B,S.mono e,Me⟩
theorem Dk {t:Bool}(hc:PT X c (dT X.K τ t))(ha:t=true->PSs X body (dS X.K τ N))(hb:t=false->PSs X els (dS X.K τ N)):PS X (.If c body els pos) (dS X.K τ N):=by
 cases t with
 | true=>exact psW (qy hc (ha rfl) dQ) λD σ H ⟨A,H₀,B,S,Me⟩=>⟨A,H₀,B,S,λH' e=>oj (yI S Me e)⟩
 | false=>exact psW (qy hc dQ (hb rfl)) λD σ H ⟨A,H₀,B,S,Me⟩=>⟨A,H₀,B,S,λH' e=>pY (yI S Me e)⟩
theorem i5 {t:Bool}{M:List Sl->Prop}(hc:PT X c (dT X.K τ t))(ha:t=true->PSs X body (dS X.K τ { N with nx:=M }))(hb:t=false->PSs X els (dS X.K τ { N with nx:=M }))(hr:∀τ',M τ'->PSs X rest (dS X.K τ' N)):PSs X (.If c body els pos::rest) (dS X.K τ N):=bf (Dk hc ha hb) hr
theorem fT {t:Bool}(hc:PT X c (dT X.K τ t))(ha:t=true->PSs X body (dS X.K τ { N with nx:=λ_=>False }))(hr:t=false->PSs X rest (dS X.K τ N)):PSs X (.If c body [] pos::rest) (dS X.K τ N):=by
 cases t with
 | true=>exact i5 (M:=λ_=>False) hc ha (λz=>nomatch z) λ_ z=>z.elim
 | false=>exact i5 (M:=(·=τ)) hc (λz=>nomatch z) (λ_=>aR rfl) λ_ e=>e▸hr rfl
theorem n9 {t:Bool}(hc:PT X c (dT X.K τ t))(ht:t=false)(hr:PSs X rest (dS X.K τ N)):PSs X (.If c body [] pos::rest) (dS X.K τ N):=fT hc (λz=>by rw[ht]at z; cases z) λ_=>hr
theorem yy (i:Nat){n:Str}{xs:List D}{ap cp:Pos}(he:PE X e (dE X.K true τ (.d x)))(hl:xs.length<1000000)(hr:PSs X rest (dS X.K (τ.set i (.o (xs++[x]))) N))(hi:τ[i]?=some (.o xs):=by rfl)(hN:X.N[i]?=some n:=by rfl)
   (hv:Vis X.env.scope n:=by first | exact Or.inl rfl | exact Or.inr (Or.inl rfl) | exact Or.inr (Or.inr rfl)) (hd:(n==("__debug__" : Str))=false:=by decide) (hcd:(n==("__classdict__" : Str))=false:=by decide)
   (hfew:((backTo cp (starEach [e] X.env)).all (λx=>!x.1)&&(backToKw cp (keywordEach [] X.env)).all (λx=>x.1.isSome)&&decide (([e]:List Expr).length+([]:List Keyword).length+(if ([]:List Keyword).isEmpty then 0 else 1)<30))=true:=by rfl)
   (hline:(ap.endLine==cp.line)=true:=by rfl) (hst:starEach [e] X.env=(false,eval e X.env)::starEach [] X.env:=by rfl) (hpl:(backTo cp (starEach [] X.env)).any (·.1)=false:=by rfl)
   (hs:swapsWith (.Call (.Attribute (.Name n p) "append" ap) [e] [] cp) none pos.line X.env=pure false:=by rfl) (hbase:attributeBase (.Name n p) "append" X.env (eval (.Name n p) X.env)=eval (.Name n p) X.env:=by rfl) :
   PSs X (.Expr (.Call (.Attribute (.Name n p) "append" ap) [e] [] cp) pos::rest) (dS X.K τ N):=
 bf (M:=(·=τ.set i (.o (xs++[x])))) (psW (fK (qz PySem.F.plainAttrs_list PySem.F.slot_list_append PySem.F.type_list_append dW (bI hN hv hd hcd) (b7 he eO hst) hbase hfew hline hst hpl) hs) λD σ H ⟨A,H₀,B,S,Me⟩=>by
   obtain⟨l,vs,hb,e1,e2,d⟩:=S.sl i _ hi;refine⟨_,slot_of e1,.inl ⟨rfl,_,SqL.of e2⟩,aT S λv H1 e3 d1=>⟨l,vs,v,rfl,rfl,e3 _ _ e2,by rw[d.length]; exact Nat.lt_trans hl (by decide),?_⟩⟩;exact Me.nx _ _ _ _ rfl ((S.mono e3).put hi hb ((d.mono (av e3 λ_ z=>z)).append (.cons d1 .nil)))) λ_ e=>e▸hr
theorem lM {K:PySem.W.Frag}{H:Hp}:∀{vs:List V} {ds:List D} {v:V} {d:D} (j:Nat),aq K H vs ds->Den K H v d->aq K H (vs.set j v) (ds.set j d)
 | _,_,_,_,_,.nil,_=>.nil
 | _,_,_,_,0,.cons _ r,h=>.cons h r
 | _,_,_,_,j+1,.cons h' r,h=>.cons h' (lM j r h)
end
end Hy
namespace Hy
open PySem PySem.Spec PyProof.Rows L2
open Ev (D Den aq ai aU aO Ite Itz Itv yQ zK yN lG o9 oP aM eZ dt PTs cQ da)
def Yl (K:PySem.W.Frag)(J:L2.It)(xs:List D)(G:Hp):Prop:=∀H,ah G H->(∀i,xs.length<=i->J.stop i H)/\∀(i:Nat) (h:i<xs.length),J.go i H /\
 ∀x H',J.yld i H x H'->ah H H'/\∀M:Addr->Prop,(∀b,M b->∃o,H b=some o)->ah G (hd H M)->Den K (hd H' M) x xs[i]
def dI (K:PySem.W.Frag)(τ:List Sl)(xs:List D):TI:=λσ H R=>∃A H₀ B,Sta K A H₀ τ B σ H/\∀J H',ah H H'->Yl K J xs (hd H' (own A B))->R J H'
def dG (K:PySem.W.Frag)(τ:List Sl)(x:D)(τ':List Sl):TG:=λv σ H Q=>∃A H₀ B,Sta K A H₀ τ B σ H/\Den K (hd H (own A B)) v x/\∀σ' B',Sta K A H₀ τ' B' σ' H->Q σ' H
theorem piW {X:Cx}{tg e:Expr}{t t':TI}(h:PI X tg e t)(f:∀σ H Q,t' σ H Q->t σ H Q):PI X tg e t':=λpins s σ H Q I q=>h pins s σ H Q I (f σ H Q q)
theorem pgW {X:Cx}{e:Expr}{t t':TG}(h:PG X e t)(f:∀v σ H Q,t' v σ H Q->t v σ H Q):PG X e t':=λpins s σ H v u Q I r q=>h pins s σ H v u Q I r (f v σ H Q q)
section
variable {K:PySem.W.Frag}{G:Hp}{a:Addr}{vs:List V}{xs:List D}
theorem wI (h:SqL K G a vs)(r:aq K G vs xs):Yl K (Itl K a) xs G:=by
 intro H sg;have hl:=r.length;refine⟨λi hi=>⟨vs,aO sg h,by omega⟩,λi hi=>?_⟩;obtain⟨v,hv,dv⟩:=r.get (List.getElem?_eq_getElem hi);refine⟨⟨vs,v,aO sg h,hv⟩,λx H' ⟨e1,e2⟩=>?_⟩;subst e1;have ex:x=v:=by have:=e2 vs (aO sg h); rw[hv]at this; exact(Option.some.inj this).symm
 subst ex;exact⟨ah.refl _,λM _ sv=>dv.mono sv⟩
noncomputable def jB (lo:Int)(n:Nat):List D:=(List.range n).map λk=>D.int (lo+(k:Nat))
theorem aw (lo:Int)(n:Nat):(jB lo n).length=n:=by simp[jB]
theorem jd (lo:Int)(n i:Nat)(h:i<(jB lo n).length):(jB lo n)[i]=.int (lo+(i:Nat)):=by simp[jB]
theorem uR (lo:Int)(n:Nat):Yl K (Itr lo n) (jB lo n) G:=by
 intro H sg;refine⟨λi hi=>by rw[aw]at hi; exact hi,λi hi=>?_⟩;have hi':i<n:=by rw[aw]at hi; exact hi
 refine⟨hi',λx H' ⟨e1,e2⟩=>?_⟩;subst e1 e2;refine⟨ah.refl _,λM _ sv=>?_⟩;rw[jd];exact .int
noncomputable def lZ (xs:List D):List D:=(List.range xs.length).map λi=>D.tup [.int (i:Nat),xs.getD i .non]
theorem cY (xs:List D):(lZ xs).length=xs.length:=by simp[lZ]
theorem lQ (xs:List D)(i:Nat)(h:i<(lZ xs).length):(lZ xs)[i]=.tup [.int (i:Nat),xs.getD i .non]:=by simp[lZ]
theorem Ba (h:SqL K G a vs)(r:aq K G vs xs):Yl K (Ite K a) (lZ xs) G:=by
 intro H sg;have hl:=r.length;have el:=cY xs;refine⟨λi hi=>⟨vs,aO sg h,by omega⟩,λi hi=>?_⟩;have hi':i<xs.length:=by omega
 obtain⟨v,hv,dv⟩:=r.get (List.getElem?_eq_getElem hi');refine⟨⟨vs,v,aO sg h,hv⟩,λy H' ⟨p,x,hp,e0,e1,e2⟩=>?_⟩;subst e0 e1;have ex:x=v:=by have:=e2 vs (aO sg h); rw[hv]at this; exact(Option.some.inj this).symm
 subst ex;refine⟨ai hp _,λM hM sv=>?_⟩;rw[lQ,show xs.getD i .non=xs[i] by simp[List.getD,hi']];exact .tup (SqT.of (jF hM hp)) (.cons .int (.cons (dv.mono (sv.trans (av (ai hp _) λ_ z=>z))) .nil))
end
section
variable {X:Cx}{τ:List Sl}{x y z:D}{a b e tg it:Expr}{pos p q:Pos}{k:Nat}{s:Sl}{xs:List D}{N:Po}{rest body:List Stmt}
theorem a6 (h:PE X it (dE X.K true τ (.d (.lst xs))))(hc:X.calm=true:=by first | rfl | assumption):PI X tg it (dI X.K τ xs):=piW (wX hc h) λσ H R ⟨A,H₀,B,S,k⟩=>aT S λv H1 e1 d1=>by
 cases d1 with
 | lst h r=>exact⟨_,rfl,⟨_,aO aN h⟩,k _ H1 e1 (wI h r)⟩
theorem cC {n:Int}(B:Bk X k)(h:PE X a (dE X.K false τ (.d (.int n))))(h1:-(2^62)<=n)(h2:n<2^62)(hg:Gl X "range":=by rfl)(hs:starEach [a] X.env=[(false,eval a X.env)]:=by rfl):PI X tg (.Call (.Name "range" p) [a] [] pos) (dI X.K τ (jB 0 n.toNat)):=
 piW (sX (.inl B.calm) hg (B.blt _ (by decide)) (ab h af hs) hs) λσ H R ⟨A,H₀,B,S,k⟩=>eP S λvs H1 e1 d1=>by
   cases d1 with
   | cons d r=>cases r;cases d;exact⟨n,rfl,h1,h2,k _ H1 e1 (uR 0 _)⟩
theorem tU {m n:Int}(B:Bk X k)(h:PE X a (dE X.K false τ (.d (.int m))))(h':PE X b (dE X.K false τ (.d (.int n))))(h1:-(2^62)<=m/\m<2^62/\-(2^62)<=n/\n<2^62)(hg:Gl X "range":=by rfl)(hs:starEach [a,b] X.env=[(false,eval a X.env),(false,eval b X.env)]:=by rfl)
   (hs2:starEach [b] X.env=[(false,eval b X.env)]:=by rfl):PI X tg (.Call (.Name "range" p) [a,b] [] pos) (dI X.K τ (jB m (n-m).toNat)):=
 piW (sN (.inl B.calm) hg (B.blt _ (by decide)) (ab h (ab h' af hs2) (by rw[hs,hs2])) hs hs2) λσ H R ⟨A,H₀,B,S,k⟩=>eP S λvs H1 e1 d1=>by
   cases d1 with
   | cons d r=>
     cases r with
     | cons d' r=>cases r;cases d;cases d';exact⟨m,n,rfl,h1,k _ H1 e1 (uR m _)⟩
theorem yJ {ts:List Expr}{m:Nat}{tp:Pos}(B:Bk X k)(h:PE X a (dE X.K true τ (.d (.lst xs))))(hg:Gl X "enumerate":=by rfl)(hs:starEach [a] X.env=[(false,eval a X.env)]:=by rfl):PI X (.Tuple ts m tp) (.Call (.Name "enumerate" p) [a] [] pos) (dI X.K τ (lZ xs)):=
 piW (lG B.calm hg (B.blt _ (by decide)) (ab h af hs) hs) λσ H R ⟨A,H₀,B,S,k⟩=>eP S λvs H1 e1 d1=>by
   cases d1 with
   | cons d r=>
     cases r;cases d with
     | lst h r=>exact⟨_,rfl,⟨_,aO aN h⟩,k _ H1 e1 (Ba h r)⟩
theorem z9 (i:Nat){n:Str}(hN:X.N.Nodup)(hi:X.N[i]?=some n:=by rfl)(hx:Loc X.env.scope n:=by first | exact .inl rfl | exact .inr rfl)(hf:X.fn n=true\/X.env.scope.names.lookup n=some .local:=by first | exact .inl rfl | exact .inr rfl | assumption):PG X (.Name n p) (dG X.K τ x (τ.set i (.d x))):=pgW (dg (i:=i) hN hi hx hf) λv σ H Q ⟨A,H₀,B,S,d,k⟩=>k _ _ (S.set (ah.refl _) (bs:=[]) (λ_ z=>nomatch z) (iH d))
theorem yB (i j:Nat){n m:Str}{p2 pt:Pos}{md:Nat}(hc:X.calm=true)(hN:X.N.Nodup)(hi:X.N[i]?=some n:=by rfl)(hj:X.N[j]?=some m:=by rfl)(hx:Loc X.env.scope n:=by first | exact .inl rfl | exact .inr rfl)(hy:Loc X.env.scope m:=by first | exact .inl rfl | exact .inr rfl)
   (hf:X.fn n=true\/X.env.scope.names.lookup n=some .local:=by first | exact .inl rfl | exact .inr rfl | assumption) (hf':X.fn m=true\/X.env.scope.names.lookup m=some .local:=by first | exact .inl rfl | exact .inr rfl | assumption) :
   PG X (.Tuple [.Name n p,.Name m p2] md pt) (dG X.K τ (.tup [x,y]) ((τ.set i (.d x)).set j (.d y))):=by
 refine pgW (uL hc (jq (dg (i:=i) hN hi hx hf) (jq (dg (i:=j) hN hj hy hf') qA))) λv σ H Q ⟨A,H₀,B,S,d,k⟩=>?_;cases d with
 | tup h r=>
   cases r with
   | cons d1 r=>
     cases r with
     | cons d2 r=>cases r;have S1:=S.set (i:=i) (ah.refl _) (bs:=[]) (λ_ z=>nomatch z) (iH d1);have sub:∀b,own A (upB B i []) b->own A B b:=λb z=>z.elim .inl λ⟨j,z⟩=>(aP z).elim (λz=>nomatch z.2) λz=>.inr ⟨j,z.2⟩;exact⟨_,_,rfl,aU aN h,rfl,_,_,rfl,_,_,rfl,rfl,k _ _ (S1.set (i:=j) (ah.refl _) (bs:=[]) (λ_ z=>nomatch z) (iH (d2.mono (av (ah.refl _) sub))))⟩
theorem Sta.base {K:PySem.W.Frag}{A:Addr->Prop}{H₀ H:Hp}{τ:List Sl}{B:Nat->List Addr}{σ:L2.St}(S:Sta K A H₀ τ B σ H):ah H₀ (hd H λb=>∃i,b∈B i)/\Sta K A (hd H λb=>∃i,b∈B i) τ B σ H:=by
 have s0:ah H₀ (hd H λb=>∃i,b∈B i):=λb o h=>ag.mpr ⟨λ⟨i,z⟩=>(by rw[S.fr i b z]at h; cases h),S.same _ _ h⟩
 exact⟨s0,aN,S.len,S.sl,λi b hb=>by
   cases e:hd H (λb=>∃i,b∈B i) b with
   | none=>rfl
   | some o=>exact absurd ⟨i,hb⟩ (ag.mp e).1,S.uq,λb hb=>let ⟨o,q⟩:=S.ad b hb; ⟨o,s0 _ _ q⟩,S.bd⟩
theorem Sta.back {K:PySem.W.Frag}{A:Addr->Prop}{H₀ G H:Hp}{τ:List Sl}{B:Nat->List Addr}{σ:L2.St}(S:Sta K A G τ B σ H)(s:ah H₀ G)(ad:∀b,A b->∃o,H₀ b=some o):Sta K A H₀ τ B σ H:=⟨s.trans S.same,S.len,S.sl,λi b hb=>s.free (S.fr i b hb),S.uq,ad,S.bd⟩
theorem yA {M:Nat->List Sl->Prop}{T:Nat->List Sl->List Sl}(B:Bk X k)(hi:PI X tg it (dI X.K τ xs))(h0:M 0 τ)(hg:∀i (h:i<xs.length) τ',M i τ'->PG X tg (dG X.K τ' xs[i] (T i τ')))
   (hb:∀i,i<xs.length->∀τ',M i τ'->PSs X body (dS X.K (T i τ') { N with nx:=M (i+1),ct:=M (i+1),bk:=N.nx })) (hn:∀τ',M xs.length τ'->N.nx τ')
   (hs:∀x,foldedSetIterable it X.env x=pure x:=by intro _; rfl):PS X (.For tg it body [] pos) (dS X.K τ N):=by
 have hg':PG X tg λv σ H Q=>∃(i:Nat) (h:i<xs.length) (τ':List Sl),M i τ'/\dG X.K τ' xs[i] (T i τ') v σ H Q:=λpins s σ H v u Q I r ⟨i,h,τ',m,q⟩=>hg i h τ' m pins s σ H v u Q I r q;have hb':PSs X body λD σ H=>∃i τ',i<xs.length/\M i τ'/\dS X.K (T i τ') { N with nx:=M (i+1),ct:=M (i+1),bk:=N.nx } D σ H:=λpins s σ H D I ⟨i,τ',h,m,q⟩=>hb i h τ' m pins s σ H D I q;refine psW (vJ B.po hi hg' hb' hs) λD σ H ⟨A,H₀,B,S,Me⟩=>⟨A,H₀,B,S,λJ H1 e1 yl=>?_⟩;obtain⟨s0,S1⟩:=(S.mono e1).base;have sub:∀{H'},ah (hd H1 λb=>∃i,b∈B i) H'->ah (hd H1 (own A B)) H':=λe=>(av (ah.refl _) λ_ z=>.inr z).trans e;refine⟨λi m σ' H'=>m=xs.length-i/\i<=xs.length/\∃τ' B',M i τ'/\Sta X.K A (hd H1 λb=>∃i,b∈B i) τ' B' σ' H',⟨xs.length,rfl,Nat.zero_le _,τ,B,h0,S1⟩,?_⟩;rintro i m σ' H' ⟨rfl,hi,τ',B',hM,S'⟩;obtain⟨y1,y2⟩:=yl H' (sub S'.same);by_cases hlt:i<xs.length
 . obtain⟨g,y⟩:=y2 i hlt;refine .inr ⟨g,λσ2 H2=>∃τ2 B2,M (i+1) τ2/\Sta X.K A (hd H1 λb=>∃i,b∈B i) τ2 B2 σ2 H2,λσ2 H2 q=>⟨xs.length-(i+1),by omega,rfl,hlt,q⟩,λx H2 hy=>?_⟩;obtain⟨e2,dx⟩:=y x H2 hy;have S2:=S'.mono e2;refine⟨i,hlt,τ',hM,A,_,B',S2,dx (own A B') S'.dm ?_,λσ3 B3 S3=>⟨i,τ',hlt,hM,A,_,B3,S3,?_⟩⟩
   . intro b o z;obtain⟨z1,z2⟩:=ag.mp z;have z3:hd H1 (λb=>∃i,b∈B i) b=some o:=ag.mpr ⟨λy=>z1 (.inr y),z2⟩;refine ag.mpr ⟨λy=>?_,S'.same _ _ z3⟩;rcases y with y | ⟨l,y⟩
     . exact z1 (.inl y)
     . rw[S'.fr l b y]at z3; cases z3
   . exact⟨λτ3 B3 σ3 H3 m S3=>⟨τ3,B3,m,S3⟩,λτ3 B3 σ3 H3 m S3=>Me.nx τ3 B3 σ3 H3 m (S3.back s0 S.ad),λτ3 B3 σ3 H3 m S3=>⟨τ3,B3,m,S3⟩,
       λv H3 bs s3 hr e3 hf q=>Me.rt v H3 bs s3 hr (s0.trans e3) (λb hb=>⟨s0.free (hf b hb).1,(hf b hb).2⟩) q,λH3 e3=>Me.xc H3 (s0.trans e3)⟩
 . have e:i=xs.length:=by omega
   subst e;exact .inl ⟨y1 _ (Nat.le_refl _),Me.nx τ' B' σ' H' (hn τ' hM) (S'.back s0 S.ad)⟩
theorem bz (j:Nat){n:Str}(M:Nat->List Sl->Prop){g:Nat->D}(B:Bk X k)(hN:X.N.Nodup)(hi:PI X (.Name n p) it (dI X.K τ xs))(hx:∀i (h:i<xs.length),xs[i]=g i)(h0:M 0 τ)
   (hb:∀i,i<xs.length->∀τ',M i τ'->PSs X body (dS X.K (τ'.set j (.d (g i))) { N with nx:=M (i+1),ct:=M (i+1),bk:=λ_=>False }))
   (hr:∀τ',M xs.length τ'->PSs X rest (dS X.K τ' N)) (hs:∀x,foldedSetIterable it X.env x=pure x:=by intro _; rfl) (hi':X.N[j]?=some n:=by rfl) (hl:Loc X.env.scope n:=by first | exact .inl rfl | exact .inr rfl)
   (hf:X.fn n=true\/X.env.scope.names.lookup n=some .local:=by first | exact .inl rfl | exact .inr rfl | assumption):PSs X (.For (.Name n p) it body [] pos::rest) (dS X.K τ N):=
 bf (M:=M xs.length) (yA (M:=M) (T:=λi τ'=>τ'.set j (.d (g i))) B hi h0 (λi h τ' m=>by rw[hx i h]; exact z9 j hN hi' hl hf)
   (λi h τ' m=>gM (hb i h τ' m) λD σ H ⟨A,H₀,B,S,Me⟩=>⟨A,H₀,B,S,Me.nx,λ_ _ _ _ z=>z.elim,Me.ct,Me.rt,Me.xc⟩) (λ_ m=>m) hs) hr
theorem pw (j l:Nat){n m:Str}{p2 pt:Pos}{md:Nat}(M:Nat->List Sl->Prop){g g':Nat->D}(B:Bk X k)(hN:X.N.Nodup)(hi:PI X (.Tuple [.Name n p,.Name m p2] md pt) it (dI X.K τ xs))(hx:∀i (h:i<xs.length),xs[i]=.tup [g i,g' i])(h0:M 0 τ)
   (hb:∀i,i<xs.length->∀τ',M i τ'->PSs X body (dS X.K ((τ'.set j (.d (g i))).set l (.d (g' i))) { N with nx:=M (i+1),ct:=M (i+1),bk:=λ_=>False }))
   (hr:∀τ',M xs.length τ'->PSs X rest (dS X.K τ' N)) (hs:∀x,foldedSetIterable it X.env x=pure x:=by intro _; rfl) (hi':X.N[j]?=some n:=by rfl) (hj':X.N[l]?=some m:=by rfl) (hl:Loc X.env.scope n:=by first | exact .inl rfl | exact .inr rfl) (hl':Loc X.env.scope m:=by first | exact .inl rfl | exact .inr rfl)
   (hf:X.fn n=true\/X.env.scope.names.lookup n=some .local:=by first | exact .inl rfl | exact .inr rfl | assumption) (hf':X.fn m=true\/X.env.scope.names.lookup m=some .local:=by first | exact .inl rfl | exact .inr rfl | assumption):PSs X (.For (.Tuple [.Name n p,.Name m p2] md pt) it body [] pos::rest) (dS X.K τ N):=
 bf (M:=M xs.length) (yA (M:=M) (T:=λi τ'=>(τ'.set j (.d (g i))).set l (.d (g' i))) B hi h0 (λi h τ' m=>by rw[hx i h]; exact yB j l B.calm hN hi' hj' hl hl' hf hf')
   (λi h τ' m=>gM (hb i h τ' m) λD σ H ⟨A,H₀,B,S,Me⟩=>⟨A,H₀,B,S,Me.nx,λ_ _ _ _ z=>z.elim,Me.ct,Me.rt,Me.xc⟩) (λ_ m=>m) hs) hr
theorem cB {n:Nat}(i:Nat)(h:i<(jB 0 n).length):(jB 0 n)[i]=.int (i:Nat):=by rw[jd,Int.zero_add]
theorem yc {bs:List Int}(i:Nat)(h:i<(bs.map D.int).length):(bs.map D.int)[i]=.int (bs.getD i 0):=by
 have:i<bs.length:=by simpa using h
 simp[this]
theorem CN {bs:List Int}(i:Nat)(h:i<(lZ (bs.map D.int)).length):(lZ (bs.map D.int))[i]=.tup [.int (i:Nat),.int (bs.getD i 0)]:=by
 have:i<bs.length:=by rw[cY]at h; simpa using h
 rw[lQ];simp[this]
end
end Hy
namespace Ev
open PySem PySem.Spec PyProof.Rows L2
theorem gQ {X:Cx}{gT:TG}{y:Str}{py spos:Pos}{elt tg iter:Expr}{ifs:List Expr}{scope:Scope}{N:List Str}{caps:List (Option Nat)}{pos:Pos}{wi:TI}{In:TG->TT->TE->Prop}(hT:PG X (.Name y py) gT)(c:dt X scope N caps)(hi:PI X tg iter wi)
   (hs:∀x,foldedSetIterable iter X.env x=pure x)
   (hin:∀g tt te,In g tt te->∀s H fp,PG (aM X s H scope N fp) tg g/\PTs (aM X s H scope N fp) ifs tt/\PE (aM X s H scope N fp) elt te)
   (hsw:swapsWith (.ListComp elt [⟨tg,iter,ifs,0⟩] scope pos) (some (.Name y py)) spos.line X.env=pure true) :
   PS X (.Assign [.Name y py] (.ListComp elt [⟨tg,iter,ifs,0⟩] scope pos) spos) (xC (da In caps wi) gT):=by
 intro pins s σ H D I h;rw[exec_Assign_Name_used _ _ _ _ hsw];refine wpAny_bind (wpAny_standAt (wpAny_bind ?_));show wpAny _ _ (do let _ <- comprehension (.ListComp elt [⟨tg,iter,ifs,0⟩] scope pos) scope X.env _ (newList []) false _ (some (assign (.Name y py) X.env))) _ _ s;refine wpAny_bind ?_;have hcl:=qN (fZ I c);refine wpAny_comprehension_free (use:=some (assign (.Name y py) X.env)) (Q:=λ_ s'=>wpAny (model X.prog X.w) X.A (pure ()) (λ_ s''=>wpAny (model X.prog X.w) X.A (pure Flow.next) (SP X pins D) X.xe s'') X.xe s') (g:=⟨tg,iter,ifs,0⟩) (gs:=[]) rfl hs hcl c.kind c.loc ?_;show wpAny _ _ (eval iter X.env) _ _ s;refine thn (hi pins s σ H _ I h) λv s1 h1=>thn h1 λitv s2 h2=>?_;obtain⟨kd,it,fp,tn,J,H2,e,I2,hck,T,st2,f2,g,tt,te,hI,q⟩:=h2;have hc:=qQ (scope:=scope) (N:=N) (fp:=fp) hck I2;subst e;obtain⟨Z,⟨m0,z0⟩,turn⟩:=q s2.heap.objs.size (I2.hok.fresh (Nat.le_refl _));have ho:∀b∈fp,∃o,s2.heap.get? b=some o:=λb hb=>let ⟨o,e,_⟩:=T.obj _ _ st2 b hb; ⟨o,e⟩
 have I4:=mS (scope:=scope) (N:=N) (caps:=caps) I2 f2 ho c;obtain⟨hg,ht,he⟩:=hin g tt te hI s2 H2 fp;refine wpAny_newObj_type (kM ?_) (by show 0<=sizeLine; decide);have hC:(s2.heap.push { cls:=.type "list",dict:=none,data:=.seq ([]:List Value).toArray }).objs.size=s2.heap.objs.size+1:=Heap.size_push ..;dsimp only;rw[hC];have kp:∀b o,s2.heap.get? b=some o->(pushCells ((s2.heap.push { cls:=.type "list",data:=.seq ([]:List Value).toArray }).push { cls:=.type "dict",data:=.dict #[] }) scope.names).get? b=some o:=λb o e=>pushCells_keeps _ _ b o (Heap.get?_push_of_some _ (Heap.get?_push_of_some _ e));have st4:tn 0 (pushCells ((s2.heap.push { cls:=.type "list",data:=.seq ([]:List Value).toArray }).push { cls:=.type "dict",data:=.dict #[] }) scope.names):=T.keep _ _ _ st2 λb _ o e=>kp b o e;have stat:∀{H':Hp},(∀b∈fp,H' b=none)->∀b∈fp,ku (aM X s2 H2 scope N fp) [] H' b:=λhn b hb=>⟨hn b hb,(I4.ok.exf b hb).1,I4.ok.exfs b hb,.inl hb,(I4.ok.exf b hb).2,λp hp=>absurd (show p∈([]:List (Addr×Obj)) from hp) (by simp)⟩;have fr4:∀b∈fp,(upd H2 s2.heap.objs.size (.lst [])) b=none:=λb hb=>by obtain⟨o,e⟩:=ho b hb;rw[au (Nat.ne_of_lt (Heap.lt_size e))]; exact(f2 b hb).1
 have loop:codeAny (model X.prog X.w) X.A (.compLoop (.ListComp elt [⟨tg,iter,ifs,0⟩] scope pos) 0 (.ref it) (.ref s2.heap.objs.size) (aM X s2 H2 scope N fp).env)
     (compPost (model X.prog X.w) X.A X.xe (some (assign (.Name y py) X.env)) (λ_ s'=>wpAny (model X.prog X.w) X.A (pure ()) (λ_ s''=>wpAny (model X.prog X.w) X.A (pure Flow.next) (SP X pins D) X.xe s'') X.xe s') (.ref s2.heap.objs.size) (s2.heap.objs.size+1))
     { s2 with heap:=pushCells ((s2.heap.push { cls:=.type "list",data:=.seq ([]:List Value).toArray }).push { cls:=.type "dict",data:=.dict #[] }) scope.names }:=by
   refine kh (λn s'=>∃i σ' H',Inv (aM X s2 H2 scope N fp) [] σ' H' s'/\tn i s'.heap/\(∀b∈fp,H' b=none)/\Z i n σ' H') ?_ m0 ⟨0,_,_,I4,st4,fr4,z0⟩;rintro n s3 ⟨i,σ3,H3,I3,st3,fr3,w3⟩;rcases turn i n σ3 H3 w3 with ⟨stop,qn⟩ | ⟨go,step⟩
   . refine thn (T.done (aM X s2 H2 scope N fp) rfl rfl rfl hc i [] s3 σ3 H3 _ I3 (stat fr3) st3 stop) λr s5 ⟨hr,I5⟩=>?_;subst hr;obtain⟨m,hn,_⟩:=id I5.loc;have I6:Inv X pins σ H3 s5:=by have lt:∀b o,s2.heap.get? b=some o->b≠s2.heap.objs.size+1:=λb o e=>Nat.ne_of_lt (Nat.lt_succ_of_lt (Heap.lt_size e));have u:=I5.base;have u':Un (frs X.stack) fp H2 H3 s2.heap s5.heap:=⟨λb o e n1 n2 n3=>u.keep b o e n1 n2 n3,λb o e n1 n2 n3=>u.slot b o e n1 n2 n3,u.free,λb o e n1=>u.there b o e n1,u.tups,u.frzs,u.tbls⟩;exact I2.yk (s':=s5) I5.os u' I5.hok I5.bare λb hb=>⟨(f2 b hb).2.2.2.1,(f2 b hb).2.1,(f2 b hb).2.2.2.2.1,(f2 b hb).2.2.2.2.2⟩
     have fC:H3 (s2.heap.objs.size+1)=none:=I5.free;have fk:ku X pins H3 (s2.heap.objs.size+1):=I2.jX (Nat.le_succ _) fC;obtain⟨oC,es,ep,hoC,hdC,rC⟩:=id hn;have hpin:=I6.pinned (fp:=[s2.heap.objs.size+1]) (λb hb=>by rw[List.mem_singleton.mp hb]; exact fk) (λb hb=>by rw[List.mem_singleton.mp hb]; exact⟨oC,hoC,λv z=>by rw[hdC]at z; cases z⟩);have hmem:(s2.heap.objs.size+1,oC)∈gh [s2.heap.objs.size+1] s5.heap:=cf (List.mem_singleton_self _) hoC;refine thn (hT _ s5 σ H3 (.ref s2.heap.objs.size) (.ref s2.heap.objs.size) _ hpin rfl qn) λ_ s6 ⟨σ6,H6,I7,q7⟩=>?_;obtain⟨p1,p2,p3,p4,p5⟩:=I7.pin _ (List.mem_append_right _ (List.mem_append_right _ hmem));refine⟨m,⟨oC,es,ep,p1,hdC,rC⟩,λh' sb=>wpAny_pure (wpAny_pure ?_)⟩;refine⟨σ6,H6,?_,q7⟩;exact(I7.dX).turned (t':=s6.toks) (it:=s2.heap.objs.size+1) (λb o hb e=>(sb.2 b hb).trans e) p2 p3 fk.2.2.2.1 fk.2.2.2.2.1 fk.2.2.2.2.2
   . refine thn (T.item (aM X s2 H2 scope N fp) rfl rfl rfl hc i [] s3 σ3 H3 _ I3 (stat fr3) st3 go) λr s4 ⟨u,hr,h4⟩=>?_;subst hr;refine thn h4 λ_ s5 ⟨x,H5,I5,r5,y5,st5,fr5⟩=>?_;have I5':=I5.pinned (stat fr5) (T.obj _ _ st5);refine thn (hg _ s5 σ3 H5 x u _ I5' r5 (step x H5 y5)) λ_ s6 ⟨σ6,H6,I6,q6⟩=>?_
     have again:∀{s7:Shared} {σ7:L2.St} {H7:Hp} {m':Nat},Inv (aM X s2 H2 scope N fp) ([]++gh fp s5.heap) σ7 H7 s7->m'<n->Z (i+1) m' σ7 H7 ->
         ∃m,m<n/\∃i σ' H',Inv (aM X s2 H2 scope N fp) [] σ' H' s7/\tn i s7.heap/\(∀b∈fp,H' b=none)/\Z i m σ' H':=λ{s7 σ7 H7 m'} I7 hm z7=>by
       refine⟨m',hm,i+1,σ7,H7,I7.dX,T.keep _ _ _ st5 λb hb o e=>(I7.pin (b,o) (List.mem_append_right _ (List.mem_append_right _ (cf hb e)))).1,λb hb=>?_,z7⟩;obtain⟨o,e,d⟩:=T.obj _ _ st5 b hb;exact(I7.pin (b,o) (List.mem_append_right _ (List.mem_append_right _ (cf hb e)))).2.1
     refine thn (ht _ s6 σ6 H6 _ I6 q6) λok s7 ⟨H7,I7,q7⟩=>?_;cases ok with
     | false=>rw[if_neg (by decide)]at q7;obtain⟨m',hm,z7⟩:=q7;exact again I7 hm z7
     | true=>rw[if_pos rfl]at q7;refine thn (he _ s7 σ6 H7 _ I7 q7) λv' s8 ⟨v,H8,I8,r8,vs,m',q8,l8,hm,z8⟩=>?_;refine thn (dW (X:=aM X s2 H2 scope N fp) _ s8 σ6 H8 (.ref s2.heap.objs.size) [v] (.ref s2.heap.objs.size) [v'] (λ_ H9=>H9=upd H8 s2.heap.objs.size (.lst (vs++[v]))) I8 rfl (.cons r8 .nil) ⟨_,vs,v,rfl,rfl,q8,l8,rfl⟩) λ_ s9 ⟨_,H9,I9,_,e9⟩=>?_;subst e9;exact again I9 hm z8
 exact codeAny_compStart_list loop (T.self _ 0 _ _ _ st4 loop)
end Ev
namespace Hy
open PySem PySem.Spec PyProof.Rows L2
open Ev (D Den aq ai aU aO aM eZ dt PTs cQ da gQ)
noncomputable def slot:List Str->Str->Option Nat
 | [],_=>none
 | y::r,x=>if x=y then some 0 else (slot r x).map (·+1)
theorem slot_get:∀{N:List Str} {x:Str} {i:Nat},slot N x=some i->N[i]?=some x
 | [],_,_,h=>by cases h
 | y::r,x,i,h=>by
   unfold slot at h;split at h
   . cases h; rename_i e; rw[e]; rfl
   . cases e:slot r x with
     | none=>rw[e]at h; cases h
     | some j=>rw[e]at h; cases h; simpa using slot_get e
noncomputable def vE (scope sc:Scope):Scope:={ scope with names:=scope.names.map λ(n,k)=>if (k==.free&&sc.kind==.function&&sc.names.lookup n==some .cell) then (n,.cell) else (n,k) }
noncomputable def bNm (scope:Scope):List Str:=(scope.names.filter λp=>(p.2==.local||p.2==.cell||p.2==.free)&&p.1 != (".0" : Str)).map (·.1)
noncomputable def bCp (No:List Str)(scope:Scope):List (Option Nat):=(bNm scope).map λx=>if (x,NameKind.free)∈scope.names then slot No x else none
noncomputable def bOk (sc scope:Scope):Bool:=
 scope.kind==.function&&scope.names.all (λp=>p.2 != .local||scope.names.lookup p.1==some .local)&&scope.names.all (λp=>p.2 != .free||sc.names.lookup p.1==some .cell)
   && scope.names.all (λp=>p.2 != .free||(!decide ((p.1,NameKind.cell)∈scope.names)&&!decide ((p.1,NameKind.local)∈scope.names)))&&decide (bNm scope++[("#" : Str)]).Nodup
   && (vE scope sc).names.all (λp=>p.1 != ("#" : Str))
theorem vk {a b:Bool}(h:(a&&b)=true):a=true/\b=true:=by rw[Bool.and_eq_true]at h; exact h
theorem ur {x:Str}{q:NameKind}:∀{names:List (Str×NameKind)},names.lookup x=some q->(x,q)∈names
 | (y,k)::r,h=>by
   rw[List.lookup_cons]at h;split at h
   . rename_i e; cases h; rw[eq_of_beq e]; exact List.mem_cons_self ..
   . exact List.mem_cons_of_mem _ (ur h)
theorem gL {X:Cx}{scope:Scope}(h:bOk X.env.scope scope=true):dt X scope (bNm scope++[("#" : Str)]) (bCp X.N scope)/\(bNm scope++[("#" : Str)]).Nodup:=by
 unfold bOk at h;obtain⟨h,h6⟩:=vk h;obtain⟨h,h5⟩:=vk h;obtain⟨h,h4⟩:=vk h;obtain⟨h,h3⟩:=vk h;obtain⟨h1,h2⟩:=vk h;rw[List.all_eq_true]at h2 h3 h4 h6;refine⟨⟨eq_of_beq h1,λx hx hk=>?_,λx hx hk=>?_,λx hx hm=>?_,λx hx hm=>?_,?_,λj i hj=>?_,?_⟩,of_decide_eq_true h5⟩
 . have:=h2 x hx; rw[hk]at this; simpa using this
 . have:=h3 x hx; rw[hk]at this; show X.env.scope.names.lookup x.1=_; simpa using this
 . have:=h4 _ hx; simp[hm]at this
 . have:=h4 _ hx; simp[hm]at this
 . unfold bCp; rw[List.length_append,List.length_map]; rfl
 . unfold bCp at hj;rw[List.getElem?_map]at hj;cases e:(bNm scope)[j]? with
   | none=>rw[e]at hj; cases hj
   | some x=>
     rw[e]at hj;simp only[Option.map_some,Option.some.injEq]at hj;split at hj
     . exact⟨x,by rw[List.getElem?_append_left (List.getElem?_eq_some_iff.mp e).1]; exact e,slot_get hj,by assumption⟩
     . cases hj
 . refine⟨("#" : Str),?_,λhv=>?_⟩
   . unfold bCp; rw[List.length_map,List.getElem?_append_right (Nat.le_refl _),Nat.sub_self]; rfl
   . have key:∀q,(vE scope X.env.scope).names.lookup ("#" : Str)≠some q:=λq hq=>by have:=h6 _ (ur hq);simp at this
     rcases hv with hv | hv | hv <;> exact key _ hv
noncomputable abbrev cpX (X:Cx)(s:Shared)(H:Hp)(scope:Scope)(fp:List Addr):Cx:=aM X s H scope (bNm scope++[("#" : Str)]) fp
theorem Bk.comp {X:Cx}{k:Nat}(B:Bk X k)(s:Shared)(H:Hp)(scope:Scope)(fp:List Addr):Bk (cpX X s H scope fp) k:=⟨B.room,B.calm,B.blt,PassesOwn.never⟩
noncomputable def bR (τ:List Sl)(caps:List (Option Nat)):List Sl:=caps.map λo=>match o with
 | some i=>match τ[i]? with
   | some (.d x)=>.d x
   | _=>.un
 | none=>.un
theorem mz {X:Cx}:PTs X [] λ_ H Q=>Q true H:=λpins s σ H Q I q=>by show wpAny _ _ (pure true) _ _ _;exact wpAny_pure ⟨H,I,q⟩
section
variable {X:Cx}{C:Bool}{τ:List Sl}{x y z:D}{b e tg it elt:Expr}{ifs:List Expr}{pos p q:Pos}{k:Nat}{xs:List D}{scope:Scope}
structure Cmp (X:Cx)(elt tg it:Expr)(ifs:List Expr)(scope:Scope)(τ:List Sl)(ys:List D):Prop where
 ex:∃(In:TG->TT->TE->Prop) (caps:List (Option Nat)) (N:List Str) (wi:TI),dt X scope N caps/\PI X tg it wi/\(∀g tt te,In g tt te->∀s H fp,PG (aM X s H scope N fp) tg g/\PTs (aM X s H scope N fp) ifs tt/\PE (aM X s H scope N fp) elt te) /\
   ∀C σ H Q,dE X.K C τ (.o ys) σ H Q->da In caps wi σ H Q
 hs:∀x,foldedSetIterable it X.env x=pure x
theorem eF {ys:List D}(h:Cmp X elt tg it ifs scope τ ys):PE X (.ListComp elt [⟨tg,it,ifs,0⟩] scope pos) (dE X.K C τ (.o ys)):=by obtain⟨In,caps,N,wi,h1,h2,h3,h4⟩:=h.ex;exact peW (cQ h1 h2 h.hs h3) (h4 C)
theorem oT (i:Nat){n:Str}{p spos:Pos}{rest:List Stmt}{N:Po}{ys:List D}{s:Sl}(hN:X.N.Nodup)(h:Cmp X elt tg it ifs scope τ ys)(hz:s=.o ys\/s=.d (.lst ys))(hr:PSs X rest (dS X.K (τ.set i s) N))(hi:X.N[i]?=some n:=by rfl)(hx:Loc X.env.scope n:=by first | exact .inl rfl | exact .inr rfl)
   (hsw:swapsWith (.ListComp elt [⟨tg,it,ifs,0⟩] scope pos) (some (.Name n p)) spos.line X.env=pure true:=by rfl) (hf:X.fn n=true\/X.env.scope.names.lookup n=some .local:=by first | exact .inl rfl | exact .inr rfl | assumption) :
   PSs X (.Assign [.Name n p] (.ListComp elt [⟨tg,it,ifs,0⟩] scope pos) spos::rest) (dS X.K τ N):=by
 obtain⟨In,caps,N',wi,h1,h2,h3,h4⟩:=h.ex
 have h5:∀σ H Q,dE X.K true τ s σ H Q->da In caps wi σ H Q:=by
   rcases hz with rfl | rfl
   . exact h4 true
   . intro σ H Q q;obtain⟨A,H₀,B,S,k⟩:=c9 q;refine h4 true σ H Q ⟨A,H₀,B,S,λv H' bs e hf q=>?_⟩;obtain⟨u,e1,d⟩:=q.den (G':=Hy.hd H' (vw true A B)) (av (ah.refl _) λ_ z=>.inl z) (λb hb o ho=>ag.mpr ⟨λz=>(by obtain⟨_,q⟩:=S.vd (C:=true) b z; rw[(hf b hb).1]at q; cases q),ho⟩) rfl;cases e1;exact k v H' e d
 exact bf (M:=(·=τ.set i s)) (psW (gQ (dg (i:=i) hN hi hx hf) h1 h2 h.hs h3 hsw) λD σ H ⟨A,H₀,B,S,Me⟩=>h5 _ _ _ ⟨A,H₀,B,S,λv H' bs e hf h=>Me.nx _ _ _ _ rfl (S.set e hf h)⟩) λ_ e=>e▸hr
theorem vW {T:Nat->List Sl}{t:Nat->Bool}{f:Nat->D}(hc:bOk X.env.scope scope=true)(hi:PI X tg it (dI X.K τ xs))(hT:∀i,(T i).length=(bR τ (bCp X.N scope)++[Sl.un]).length/\∀(l:Nat) (x:D),(bR τ (bCp X.N scope)++[Sl.un])[l]?=some (.d x)->(T i)[l]?=some (.d x))
   (hg:∀i (h:i<xs.length) s H fp,PG (cpX X s H scope fp) tg (dG X.K (bR τ (bCp X.N scope)++[Sl.un]) xs[i] (T i)))
   (ht:∀i,i<xs.length->∀s H fp,PTs (cpX X s H scope fp) ifs (dT X.K (T i) (t i)))
   (he:∀i,i<xs.length->t i=true->∀s H fp,PE (cpX X s H scope fp) elt (dE X.K true (T i) (.d (f i)))) (hl:xs.length<1000000) (hs:∀x,foldedSetIterable it X.env x=pure x:=by intro _; rfl) :
   Cmp X elt tg it ifs scope τ (((List.range xs.length).filter t).map f):=by
 obtain⟨cap,_⟩:=gL hc;generalize hτ:bR τ (bCp X.N scope)++[Sl.un]=τb at *
 refine⟨⟨λg tt te=>g=(λv σ H Q=>∃(i:Nat) (h:i<xs.length),dG X.K τb xs[i] (T i) v σ H Q)/\tt=(λσ H Q=>∃i,i<xs.length/\dT X.K (T i) (t i) σ H Q)/\te=(λσ H Q=>∃i,i<xs.length/\t i=true/\dE X.K true (T i) (.d (f i)) σ H Q),_,_,_,cap,hi,?_,?_⟩,hs⟩
 . rintro g tt te ⟨rfl,rfl,rfl⟩ s H fp;exact⟨λpins s' σ H' v u Q I r ⟨i,h,q⟩=>hg i h s H fp pins s' σ H' v u Q I r q,λpins s' σ H' Q I ⟨i,h,q⟩=>ht i h s H fp pins s' σ H' Q I q,λpins s' σ H' Q I ⟨i,h,h',q⟩=>he i h h' s H fp pins s' σ H' Q I q⟩
 rintro C σ H Q ⟨A,H₀,B,S,kk⟩;refine⟨A,H₀,B,S,λJ H1 e1 yl=>⟨_,_,_,⟨rfl,rfl,rfl⟩,λD hD=>?_⟩⟩;have S1:=S.mono e1;have nD:¬own A B D:=λz=>by obtain⟨o,q⟩:=S1.dm D z; rw[hD]at q; cases q
 have noN:∀(l:Nat) (t:Nd),τb[l]?=some (.n t)->0≠0:=λl t h=>by
   exfalso;rw[<- hτ]at h;have:=List.mem_of_getElem? h;rcases List.mem_append.mp this with z | z
   . unfold bR at z;obtain⟨o,_,ho⟩:=List.mem_map.mp z;split at ho
     . split at ho <;> cases ho
     . cases ho
   . cases List.mem_singleton.mp z
 have slots:∀{σ':L2.St} {H':Hp},ah H1 H'->(∃o,H' D=some o)->σ'.length=τb.length->(∀(l:Nat) (s:Sl),τb[l]?=some s->bY X.K (hd H' λb=>own A B b\/b=D) H' (σ'[l]?).join [] s)->Sta X.K (λb=>own A B b\/b=D) H' τb (λ_=>[]) σ' H':=λ{σ' H'} e1 e2 e3 e4=>⟨ah.refl _,e3,λl s h=>(e4 l s h).mono (av (ah.refl _) λ_ z=>z.elim id λ⟨_,z⟩=>(nomatch z)) (ah.refl _),λ_ _ z=>(nomatch z),λ_ _ _ z=>(nomatch z),λb z=>z.elim (λz=>let ⟨o,q⟩:=S1.dm b z; ⟨o,e1 _ _ q⟩) λz=>z▸e2,λ_ _ z=>(nomatch z)⟩
 refine⟨λi m σ' H'=>m=xs.length-i/\i<=xs.length/\ah H1 H'/\(∃vs,H' D=some (.lst vs)/\vs.length<=i/\aq X.K (hd H' λb=>own A B b\/b=D) vs (((List.range i).filter t).map f)) /\
   σ'.length=τb.length/\∀(l:Nat) (s:Sl),τb[l]?=some s->bY X.K (hd H' λb=>own A B b\/b=D) H' (σ'[l]?).join [] s,⟨xs.length,rfl,Nat.zero_le _,ai hD _,⟨[],aB,Nat.le_refl _,.nil⟩,?_,λl s h=>?_⟩,?_⟩
 . rw[<- hτ]; unfold eZ bR; rw[List.length_append,List.length_append,List.length_map,List.length_map]; rfl
 . have hv:ah (hd H (own A B)) (hd (upd H1 D (.lst [])) λb=>own A B b\/b=D):=λb o z=>by
     obtain⟨z1,z2⟩:=ag.mp z;have z2:=e1 _ _ z2;have ne:b≠D:=λz=>by rw[z,hD]at z2; cases z2
     exact ag.mpr ⟨λy=>y.elim z1 ne,by rw[au ne]; exact z2⟩
   cases s with
   | un=>rfl
   | d x=>
     rw[<- hτ]at h
     have hlt:l<(bCp X.N scope).length:=by
       rcases Nat.lt_or_ge l (bCp X.N scope).length with h' | h'
       . exact h'
       . exfalso;rw[List.getElem?_append_right (by unfold bR; rw[List.length_map]; exact h')]at h;cases e:l-(bR τ (bCp X.N scope)).length with
         | zero=>rw[e]at h; cases h
         | succ n=>rw[e]at h; cases h
     rw[List.getElem?_append_left (by unfold bR; rw[List.length_map]; exact hlt)]at h;rw[List.getElem?_append_left (by unfold eZ; rw[List.length_map]; exact hlt)];unfold bR at h;unfold eZ;rw[List.getElem?_map]at h ⊢;cases e:(bCp X.N scope)[l]? with
     | none=>rw[e]at h; cases h
     | some o=>
       rw[e]at h;cases o with
       | none=>cases h
       | some i=>
         simp only[Option.map_some,Option.some.injEq]at h;split at h
         . rename_i x' hx';cases h;obtain⟨_,u,eu,d⟩:=S.sl i _ hx';exact⟨rfl,u,by simpa using eu,d.mono hv⟩
         . cases h
   | o xs'=>
     exfalso;rw[<- hτ]at h;have:=List.mem_of_getElem? h;rcases List.mem_append.mp this with z | z
     . unfold bR at z;obtain⟨o,_,ho⟩:=List.mem_map.mp z;split at ho
       . split at ho <;> cases ho
       . cases ho
     . cases List.mem_singleton.mp z
   | n t'=>
     exfalso;rw[<- hτ]at h;have:=List.mem_of_getElem? h;rcases List.mem_append.mp this with z | z
     . unfold bR at z;obtain⟨o,_,ho⟩:=List.mem_map.mp z;split at ho
       . split at ho <;> cases ho
       . cases ho
     . cases List.mem_singleton.mp z
   | x E'=>
     exfalso;rw[<- hτ]at h;have:=List.mem_of_getElem? h;rcases List.mem_append.mp this with z | z
     . unfold bR at z;obtain⟨o,_,ho⟩:=List.mem_map.mp z;split at ho
       . split at ho <;> cases ho
       . cases ho
     . cases List.mem_singleton.mp z
 rintro i m σ' H' ⟨rfl,hi,e2,⟨vs,hv1,hv2,hv3⟩,hlen,hsl⟩;obtain⟨y1,y2⟩:=yl H' (aN.trans e2);by_cases hlt:i<xs.length
 . obtain⟨g,y⟩:=y2 i hlt;refine .inr ⟨g,λx H2 hy=>?_⟩;obtain⟨e3,dx⟩:=y x H2 hy;have S2:Sta X.K (λb=>own A B b\/b=D) H' τb (λ_=>[]) σ' H':=slots e2 ⟨_,hv1⟩ hlen hsl;have o0:∀b,own (λb=>own A B b\/b=D) (λ_=>([]:List Addr)) b->own A B b\/b=D:=λb z=>z.elim id λ⟨_,z⟩=>(nomatch z)
   have dx':=dx _ S2.dm (λb o z=>by
     obtain⟨z1,z2⟩:=ag.mp z;exact ag.mpr ⟨λy=>(o0 b y).elim z1 λy=>(by rw[y,hD]at z2; cases z2),e2 _ _ z2⟩)
   refine⟨i,hlt,_,_,_,S2.mono e3,dx',λσ2 B2 S3=>?_⟩;have hB2:∀j b,b∈B2 j->b≠D:=λj b hb z=>by have:=S3.fr j b hb;rw[z,hv1]at this;cases this
   have back:∀{H5:Hp},ah H2 H5->σ2.length=τb.length/\∀(l:Nat) (s:Sl),τb[l]?=some s->bY X.K (hd H5 λb=>own A B b\/b=D) H5 (σ2[l]?).join [] s:=λ{H5} e5=>by
     refine⟨S3.len.trans (hT i).1,λl s h=>?_⟩;cases s with
     | un=>rfl
     | d x=>obtain⟨_,u,eu,d⟩:=S3.sl l _ ((hT i).2 l x h);exact⟨rfl,u,eu,d.mono (av e5 λ_ z=>.inl z)⟩
     | o xs'=>exact absurd (hsl l _ h) (λ⟨_,_,z,_⟩=>(nomatch z))
     | n t'=>exact absurd rfl (noN l t' h)
     | x E'=>exact absurd (hsl l _ h) (λ⟨_,_,z,_⟩=>(nomatch z))
   refine⟨i,hlt,_,_,_,S3,λH4 e4=>?_⟩;cases ht:t i with
   | false=>rw[if_neg Bool.false_ne_true];obtain⟨b1,b2⟩:=back e4;refine⟨xs.length-(i+1),by omega,rfl,hlt,e2.trans (e3.trans e4),⟨vs,e4 _ _ (e3 _ _ hv1),by omega,?_⟩,b1,b2⟩;rw[List.range_succ,List.filter_append,List.map_append,List.filter_cons,ht];simpa using hv3.mono (av (e3.trans e4) λ_ z=>z)
   | true=>
     rw[if_pos rfl];refine⟨i,hlt,ht,aT (S3.mono e4) λv H5 e5 d5=>?_⟩;have e6:=e3.trans (e4.trans e5);have hv5:=e6 _ _ hv1;refine⟨vs,xs.length-(i+1),hv5,Nat.lt_trans (Nat.lt_of_le_of_lt hv2 (Nat.lt_trans hlt hl)) (by decide),by omega,rfl,hlt,?_,?_⟩
     . intro b o z;have ne:b≠D:=λy=>by rw[y,hD]at z; cases z
       rw[au ne];exact e6 _ _ (e2 _ _ z)
     have sm:ah (hd H5 λb=>own A B b\/b=D) (hd (upd H5 D (.lst (vs++[v]))) λb=>own A B b\/b=D):=λb o z=>by obtain⟨z1,z2⟩:=ag.mp z;exact ag.mpr ⟨z1,by rw[au λy=>z1 (.inr y)]; exact z2⟩
     obtain⟨b1,b2⟩:=back (e4.trans e5);refine⟨⟨vs++[v],aB,by rw[List.length_append]; exact Nat.succ_le_succ hv2,?_⟩,b1,λl s h=>?_⟩
     . rw[List.range_succ,List.filter_append,List.map_append,List.filter_cons,ht,if_pos rfl];refine aq.append (hv3.mono ((av e6 λ_ z=>z).trans sm)) (.cons (d5.mono ((av (ah.refl _) λ_ z=>.inl z).trans sm)) .nil)
     . cases s with
       | un=>rfl
       | d x=>obtain⟨z1,u,eu,d⟩:=b2 l _ h; exact⟨z1,u,eu,d.mono sm⟩
       | o xs'=>exact absurd (hsl l _ h) (λ⟨_,_,z,_⟩=>(nomatch z))
       | n t'=>exact absurd rfl (noN l t' h)
       | x E'=>exact absurd (hsl l _ h) (λ⟨_,_,z,_⟩=>(nomatch z))
 . have e:i=xs.length:=by omega
   subst e;refine .inl ⟨y1 _ (Nat.le_refl _),kk _ _ [D] (e1.trans e2) (λb hb=>?_) ⟨D,vs,rfl,rfl,hv1,hv3.mono (av (ah.refl _) λb z=>z.elim (λz=>.inl (iB z)) λz=>.inr (List.mem_singleton.mp z))⟩⟩;obtain rfl:=List.mem_singleton.mp hb;exact⟨e1.free hD,_,hv1⟩
theorem cmp (j:Nat){n:Str}{g f:Nat->D}(B:Bk X k)(hi:PI X (.Name n p) it (dI X.K τ xs))(hx:∀i (h:i<xs.length),xs[i]=g i)(hl:xs.length<1000000)
   (he:∀i,i<xs.length->∀s H fp,PE (cpX X s H scope fp) elt (dE X.K true ((bR τ (bCp X.N scope)++[Sl.un]).set j (.d (g i))) (.d (f i))))
   (hc:bOk X.env.scope scope=true:=by kernel_rfl) (hu:(bR τ (bCp X.N scope)++[Sl.un])[j]?=some .un:=by rfl) (hN:(bNm scope++[("#" : Str)])[j]?=some n:=by rfl) (hv:∀s H fp,Loc (cpX X s H scope fp).env.scope n:=by intro _ _ _; first | exact .inl rfl | exact .inr rfl)
   (hf:∀s H fp,(cpX X s H scope fp).fn n=true\/(cpX X s H scope fp).env.scope.names.lookup n=some .local:=by intro _ _ _; first | exact .inr rfl | exact .inl rfl) (hs:∀x,foldedSetIterable it X.env x=pure x:=by intro _; rfl) :
   Cmp X elt (.Name n p) it [] scope τ ((List.range xs.length).map f):=by
 have h:=vW (T:=λi=>(bR τ (bCp X.N scope)++[Sl.un]).set j (.d (g i))) (t:=λ_=>true) (f:=f) (elt:=elt) (ifs:=[]) hc hi (λi=>⟨List.length_set,λl x h=>?_⟩) (λi h s H fp=>?_) (λi h s H fp=>?_) (λi h _ s H fp=>he i h s H fp) hl hs
 . rwa [List.filter_eq_self.mpr λ_ _=>rfl]at h
 . rw[List.getElem?_set_ne (λz=>by rw[<- z,hu]at h; cases h)];exact h
 . rw[hx i h];exact z9 j (gL hc).2 hN (hv s H fp) (hf s H fp)
 . exact λpins s' σ H' Q I ⟨A,H₀,B,S,q⟩=>mz pins s' σ H' Q I (q H' (ah.refl _))
end
section
variable {P:Program}{w:World}{K:PySem.W.Frag}{mg:Str->Option Value}{base:Heap}
noncomputable def zN (N:List Str)(ds:List D):List Sl:=ds.map .d++List.replicate (N.length-ds.length) .un
noncomputable abbrev Xc (P:Program)(w:World)(K:PySem.W.Frag)(mg:Str->Option Value)(base:Heap)(N:List Str)(qual:Str)(st:Stmt)(f:Addr)(cdv:Value)(A:Around)(outer:List Env)(s:Shared)(H:Hp)(E:XK):Cx:=(oX CX0 P w K mg base N qual (ak st) f cdv A outer s H E).nox
theorem fnD {x qual:Str}{st:Stmt}{f:Addr}{fd:FuncData}{N ps:List Str}{k:Nat}{Φ:List D->Sl->Prop}(F:Fun K x qual st f fd)(S:aF N ps (ak st))(hb:∀x∈ar,mg x=none)(len:∀ds r,Φ ds r->ds.length=ps.length)
   (body:∀ds r,Φ ds r->∀cdv A outer s H E,Bk (Xc P w K mg base N qual st f cdv A outer s H E) k->PSs (Xc P w K mg base N qual st f cdv A outer s H E) (cH st) (dS K (zN N ds) { nx:=λ_=>r=.d .non,rt:=λr'=>r'=r })) :
   a4 P w K mg base CX0 (k+1) f fd ps (spD K Φ):=by
 refine F.ok S (λvs H Q E ⟨A,ds,r,_,d,h,_⟩=>d.length.trans (len ds r h)) λcdv A outer s H vs Q E hr ⟨A',ds,r,ha,d,h,q⟩=>⟨_,body ds r h cdv A outer s H E ⟨hr,rfl,hb,PassesOwn.never⟩,A',H,λ_=>[],⟨ah.refl _,?_,λi s hi=>?_,λ_ _ z=>(nomatch z),λ_ _ _ z=>(nomatch z),ha,λ_ _ z=>(nomatch z)⟩,λτ B σ H' h S=>?_,λ_ _ _ _ h=>h.elim,λ_ _ _ _ h=>h.elim,λv H' bs s h e hf z=>?_,λ_ _=>trivial⟩
 . unfold L2.start zN;simp[d.length]
 . have hl:=d.length;unfold zN at hi;unfold L2.start;by_cases hlt:i<ds.length
   . rw[List.getElem?_append_left (by simpa using hlt),List.getElem?_map,List.getElem?_eq_getElem hlt]at hi;cases hi;obtain⟨v,e,dv⟩:=d.get (List.getElem?_eq_getElem hlt);refine⟨rfl,v,?_,dv.mono (av (ah.refl _) λ_ z=>z.elim id λ⟨_,z⟩=>(nomatch z))⟩;rw[List.getElem?_append_left (by simpa[hl]using hlt),List.getElem?_map,e];rfl
   . rw[List.getElem?_append_right (by simpa using hlt),List.getElem?_replicate]at hi;split at hi
     . cases hi; rfl
     . cases hi
 . obtain rfl:=(h:r=_);exact q .non H' [] S.same eI (iH .non)
 . obtain rfl:=(h:s=r);exact q v H' bs e hf z
theorem xU {K:PySem.W.Frag}{Φ:List D->Sl->Prop}(hΦ:∀ns:List Int,ns.length<=63->Φ [.lst (ns.map .int)] (.d (.bl true)))(H:Hp)(a:Addr)(ns:List Int)(hl:ns.length<=63)(hS:SqL K H a (ns.map V.int)):spD K Φ [.ref a] H (λv _=>v=.bl true) λ_ _ _=>False:=by
 have hh:hd H (λ_=>False)=H:=by funext b; unfold hd; rw[if_neg id]
 refine⟨λ_=>False,_,_,λ_ z=>z.elim,.cons (.lst (vs:=ns.map V.int) (by rw[hh]; exact hS) ?_) .nil,hΦ ns hl,λv H' bs _ _ h=>?_⟩
 . clear hl hS;induction ns with
   | nil=>exact .nil
   | cons n ns ih=>exact .cons .int ih
 . obtain⟨_,u,e,d⟩:=h;cases e;cases d;rfl
end
end Hy
namespace K49
open PySem PySem.Spec PyProof.Rows L2 Hy
noncomputable def top (i:Nat):Stmt:=PySem.Challenge.pw_signsmooth_k49_whole_staircase_just_good.main.body.getD i (.Pass ⟨0,0,0,0⟩)
theorem gP:aF ["_law_cell_here","_law_bases","_law_row","_law_base","_law_k","_law_mixed"] ["_law_cell_here","_law_bases"] (ak (top 34)):=⟨rfl,rfl,rfl,by decide +kernel,rfl,by decide +kernel,by decide +kernel⟩
theorem kO:aF ["_law_cell_here","_law_parts"] ["_law_cell_here"] (ak (top 37)):=⟨rfl,rfl,rfl,by decide +kernel,rfl,by decide +kernel,by decide +kernel⟩
theorem gB:aF ["_law_clear","_law_found","_law_first","_law_some","_law_one","_law_longer","_law_row"] ["_law_clear"] (ak (top 46)):=⟨rfl,rfl,rfl,by decide +kernel,rfl,by decide +kernel,by decide +kernel⟩
theorem j8:aF ["_law_cell_here","_law_many","_law_wide","_law_marks_here","_law_clear","_law_part_here","_law_some","_law_row"] ["_law_cell_here","_law_many","_law_wide"] (ak (top 47)):=⟨rfl,rfl,rfl,by decide +kernel,rfl,by decide +kernel,by decide +kernel⟩
theorem sH:aF ["_law_script","_law_k"] ["_law_script","_law_k"] (ak (top 33)):=⟨rfl,rfl,rfl,by decide +kernel,rfl,by decide +kernel,by decide +kernel⟩
theorem jo:aF ["_law_script","_law_many","_law_wide","_law_marks_here","_law_parts"] ["_law_script","_law_many","_law_wide"] (ak (top 49)):=⟨rfl,rfl,rfl,by decide +kernel,rfl,by decide +kernel,by decide +kernel⟩
theorem gY:aF ["_law_one","_law_other","_law_rest"] ["_law_one","_law_other"] (ak (top 35)):=⟨rfl,rfl,rfl,by decide +kernel,rfl,by decide +kernel,by decide +kernel⟩
theorem kN:aF ["_law_top","_law_bottom","_law_common"] ["_law_top","_law_bottom"] (ak (top 36)):=⟨rfl,rfl,rfl,by decide +kernel,rfl,by decide +kernel,by decide +kernel⟩
theorem fP:aF ["_law_marks_here","_law_cell_here","_law_wide","_law_parts","_law_rows_here","_law_i","_law_row","_law_numbers_here"] ["_law_marks_here","_law_cell_here"] (ak (top 50)):=⟨rfl,rfl,rfl,by decide +kernel,rfl,by decide +kernel,by decide +kernel⟩
theorem fx:aF ["_law_marks_here","_law_i","_law_j"] ["_law_marks_here"] (ak (top 48)):=⟨rfl,rfl,rfl,by decide +kernel,rfl,by decide +kernel,by decide +kernel⟩
theorem k4:aF ["_law_one","_law_other","_law_third","_law_top","_law_bottom"] ["_law_one","_law_other","_law_third"] (ak (top 42)):=⟨rfl,rfl,rfl,by decide +kernel,rfl,by decide +kernel,by decide +kernel⟩
theorem sC:aF ["_law_one","_law_other"] ["_law_one","_law_other"] (ak (top 41)):=⟨rfl,rfl,rfl,by decide +kernel,rfl,by decide +kernel,by decide +kernel⟩
theorem iS:aF ["_law_table","_law_places_here","_law_sign","_law_rows_here","_law_j","_law_b","_law_i","_law_a","_law_part_here"] ["_law_table","_law_places_here","_law_sign"] (ak (top 43)):=⟨rfl,rfl,rfl,by decide +kernel,rfl,by decide +kernel,by decide +kernel⟩
theorem iN:aF ["_law_table","_law_wide"] ["_law_table"] (ak (top 44)):=⟨rfl,rfl,rfl,by decide +kernel,rfl,by decide +kernel,by decide +kernel⟩
theorem o3:aF ["_law_table"] ["_law_table"] (ak (top 45)):=⟨rfl,rfl,rfl,by decide +kernel,rfl,by decide +kernel,by decide +kernel⟩
theorem iI:aF ["thing"] ["thing"] (ak (top 14)):=⟨rfl,rfl,rfl,by decide +kernel,rfl,by decide +kernel,by decide +kernel⟩
theorem mX:aF ["thing"] ["thing"] (ak (top 5)):=⟨rfl,rfl,rfl,by decide +kernel,rfl,by decide +kernel,by decide +kernel⟩
theorem di:aF ["one","other","greater","lesser","rest"] ["one","other"] (ak (top 7)):=⟨rfl,rfl,rfl,by decide +kernel,rfl,by decide +kernel,by decide +kernel⟩
theorem jl:aF ["thing"] ["thing"] (ak (top 6)):=⟨rfl,rfl,rfl,by decide +kernel,rfl,by decide +kernel,by decide +kernel⟩
theorem sT:aF ["thing"] ["thing"] (ak (top 15)):=⟨rfl,rfl,rfl,by decide +kernel,rfl,by decide +kernel,by decide +kernel⟩
theorem og:aF ["thing"] ["thing"] (ak (top 16)):=⟨rfl,rfl,rfl,by decide +kernel,rfl,by decide +kernel,by decide +kernel⟩
theorem ko:aF ["thing"] ["thing"] (ak (top 17)):=⟨rfl,rfl,rfl,by decide +kernel,rfl,by decide +kernel,by decide +kernel⟩
theorem fR:aF ["many","size","found","turn","longer","choice","least"] ["many","size"] (ak (top 18)):=⟨rfl,rfl,rfl,by decide +kernel,rfl,by decide +kernel,by decide +kernel⟩
theorem dr:aF ["known","row","columns","total","k","part"] ["known","row","columns"] (ak (top 31)):=⟨rfl,rfl,rfl,by decide +kernel,rfl,by decide +kernel,by decide +kernel⟩
theorem eR:aF ["known","row","column_choices","found","columns"] ["known","row","column_choices"] (ak (top 30)):=⟨rfl,rfl,rfl,by decide +kernel,rfl,by decide +kernel,by decide +kernel⟩
theorem cO:aF ["rows","found","known","size","fresh","column_choices","some","columns"] ["rows"] (ak (top 29)):=⟨rfl,rfl,rfl,by decide +kernel,rfl,by decide +kernel,by decide +kernel⟩
theorem mO:aF ["row","scale"] ["row","scale"] (ak (top 25)):=⟨rfl,rfl,rfl,by decide +kernel,rfl,by decide +kernel,by decide +kernel⟩
theorem kC:aF ["table","scales"] ["table","scales"] (ak (top 26)):=⟨rfl,rfl,rfl,by decide +kernel,rfl,by decide +kernel,by decide +kernel⟩
theorem iQ:aF ["row","scale","number"] ["row"] (ak (top 24)):=⟨rfl,rfl,rfl,by decide +kernel,rfl,by decide +kernel,by decide +kernel⟩
theorem fA:aF ["table","bound","found","choices"] ["table","bound"] (ak (top 28)):=⟨rfl,rfl,rfl,by decide +kernel,rfl,by decide +kernel,by decide +kernel⟩
theorem pP:aF ["table"] ["table"] (ak (top 27)):=⟨rfl,rfl,rfl,by decide +kernel,rfl,by decide +kernel,by decide +kernel⟩
theorem gN:aF ["table","places","j"] ["table"] (ak (top 21)):=⟨rfl,rfl,rfl,by decide +kernel,rfl,by decide +kernel,by decide +kernel⟩
theorem fS:aF ["one","other","first","second"] ["one","other"] (ak (top 10)):=⟨rfl,rfl,rfl,by decide +kernel,rfl,by decide +kernel,by decide +kernel⟩
theorem cZ:aF ["top","bottom","divisor"] ["top","bottom"] (ak (top 8)):=⟨rfl,rfl,rfl,by decide +kernel,rfl,by decide +kernel,by decide +kernel⟩
theorem kc:aF ["one","other"] ["one","other"] (ak (top 11)):=⟨rfl,rfl,rfl,by decide +kernel,rfl,by decide +kernel,by decide +kernel⟩
theorem kY:aF ["one","other","shared","top","divisor"] ["one","other"] (ak (top 9)):=⟨rfl,rfl,rfl,by decide +kernel,rfl,by decide +kernel,by decide +kernel⟩
theorem gC:aF ["grid","j","b","sign","i","share","factor","a"] ["grid","j","b","sign"] (ak (top 22)):=⟨rfl,rfl,rfl,by decide +kernel,rfl,by decide +kernel,by decide +kernel⟩
theorem jI:aF ["table","grid","place"] ["table"] (ak (top 20)):=⟨rfl,rfl,rfl,by decide +kernel,rfl,by decide +kernel,by decide +kernel⟩
theorem iW:aF ["_law_rows_here","_law_wide","_law_made_here","_law_i","_law_lines","_law_longer","_law_mask","_law_behind_it","_law_j","_law_key","_law_part_here"] ["_law_rows_here"] (ak (top 39)):=⟨rfl,rfl,rfl,by decide +kernel,rfl,by decide +kernel,by decide +kernel⟩
theorem eT:aF ["_law_rows_here","_law_least","_law_made_here","_law_lines","_law_worth"] ["_law_rows_here"] (ak (top 40)):=⟨rfl,rfl,rfl,by decide +kernel,rfl,by decide +kernel,by decide +kernel⟩
theorem lh:aF ["_law_table","_law_rows_here","_law_all_bottoms","_law_row","_law_factor","_law_number"] ["_law_table"] (ak (top 38)):=⟨rfl,rfl,rfl,by decide +kernel,rfl,by decide +kernel,by decide +kernel⟩
theorem ve:aF ["_law_script","_law_many","_law_wide","_law_marks_here","_law_thin","_law_parts","_law_due","_law_number","_law_table","_law_found"] ["_law_script"] (ak (top 51)):=⟨rfl,rfl,rfl,by decide +kernel,rfl,by decide +kernel,by decide +kernel⟩
end K49
namespace L2
open PySem PySem.Spec PyProof.Rows
section
variable {κ:Type}[DecidableEq κ]
noncomputable def eE (kvs:List (κ×V))(k:κ):Option V:=(kvs.find? λkv=>decide (kv.1=k)).map (·.2)
noncomputable def putK (kvs:List (κ×V))(k:κ)(v:V):List (κ×V):=if (kvs.any λkv=>decide (kv.1=k))=true then kvs.map (λkv=>if kv.1=k then (kv.1,v) else kv) else kvs++[(k,v)]
theorem bW {p:κ×V}{r:List (κ×V)}{k:κ}(e:p.1=k):eE (p::r) k=some p.2:=by simp[eE,List.find?_cons,e]
theorem bV {p:κ×V}{r:List (κ×V)}{k:κ}(e:¬p.1=k):eE (p::r) k=eE r k:=by simp[eE,List.find?_cons,e]
theorem jK (k:κ):∀kvs:List (κ×V),(kvs.any λkv=>decide (kv.1=k))=(eE kvs k).isSome
 | []=>rfl
 | p::r=>by
   rw[List.any_cons];by_cases e:p.1=k
   . simp only[bW e,decide_eq_true e,Bool.true_or,Option.isSome_some]
   . rw[bV e,decide_eq_false e,Bool.false_or]; exact jK k r
theorem nJ (k j:κ)(y:V):∀kvs:List (κ×V),eE (kvs.map λkv=>if kv.1=k then (kv.1,y) else kv) j=(eE kvs j).map λx=>if j=k then y else x
 | []=>rfl
 | p::r=>by
   have ih:=nJ k j y r;rw[List.map_cons];by_cases h:p.1=k
   . rw[if_pos h];by_cases e:p.1=j
     . rw[bW (p:=(p.1,y)) e,bW e,Option.map_some,if_pos (e.symm.trans h)]
     . rw[bV (p:=(p.1,y)) e,bV e,ih]
   . rw[if_neg h];by_cases e:p.1=j
     . rw[bW (p:=p) e,bW e,Option.map_some,if_neg (λz=>h (e.trans z))]
     . rw[bV (p:=p) e,bV e,ih]
theorem kG (k j:κ)(y:V):∀kvs:List (κ×V),eE kvs k=none->eE (kvs++[(k,y)]) j=if j=k then some y else eE kvs j
 | [],_=>by
   by_cases e:k=j
   . rw[if_pos e.symm]; exact bW (p:=(k,y)) e
   . rw[if_neg (λz=>e z.symm)]; exact bV (p:=(k,y)) e
 | p::r,hn=>by
   rw[List.cons_append];have hk:¬p.1=k:=λz=>by rw[bW z]at hn; cases hn
   rw[bV hk]at hn;have ih:=kG k j y r hn;by_cases e:p.1=j
   . rw[bW e,bW e,if_neg (λz=>hk (e.trans z))]
   . rw[bV e,bV e,ih]
theorem vV (kvs:List (κ×V))(k j:κ)(y:V):eE (putK kvs k y) j=if j=k then some y else eE kvs j:=by
 unfold putK;by_cases a:(kvs.any λkv=>decide (kv.1=k))=true
 . rw[if_pos a,nJ];rw[jK]at a;by_cases e:j=k
   . obtain⟨x,hx⟩:=Option.isSome_iff_exists.mp a;rw[if_pos e,e,hx,Option.map_some,if_pos rfl]
   . rw[if_neg e];cases eE kvs j with
     | none=>rfl
     | some x=>rw[Option.map_some,if_neg e]
 . rw[if_neg a];refine kG k j y kvs ?_;rw[jK]at a;cases q:eE kvs k with
   | none=>rfl
   | some x=>rw[q]at a; exact(a rfl).elim
theorem iV (kvs:List (κ×V))(k:κ)(v:V):(putK kvs k v).length<=kvs.length+1:=by
 unfold putK;split
 . rw[List.length_map]; omega
 . rw[List.length_append,List.length_cons,List.length_nil]; omega
theorem oN.getD {o:Option V}{u:Option Value}{d:V}{d':Value}(r:oN o u)(rd:RelV d d'):RelV (o.getD d) (u.getD d'):=by
 cases o with
 | none=>cases u with
   | none=>exact rd
   | some _=>exact(show False from r).elim
 | some _=>cases u with
   | none=>exact(show False from r).elim
   | some _=>exact r
theorem KV.val {kvs:List (κ×V)}{vs:List (κ×Value)}(r:KV kvs vs)(k:κ):oN (eE kvs k) (valueAt vs k):=by
 unfold KV at r;induction r with
 | nil=>exact True.intro
 | @cons p q ps qs h t ih=>
   obtain⟨h1,h2⟩:=h;by_cases e:p.1=k
   . have e':q.1=k:=h1.symm.trans e;have b:valueAt (q::qs) k=some q.2:=by simp[valueAt,List.find?_cons,e']
     rw[bW e,b]; exact h2
   . have e':¬q.1=k:=λz=>e (h1.trans z);have b:valueAt (q::qs) k=valueAt qs k:=by simp[valueAt,List.find?_cons,e']
     rw[bV e,b]; exact ih
theorem KV.any {kvs:List (κ×V)}{vs:List (κ×Value)}(r:KV kvs vs)(k:κ):(kvs.any λkv=>decide (kv.1=k))=vs.any λkv=>decide (kv.1=k):=by
 unfold KV at r;induction r with
 | nil=>rfl
 | cons h t ih=>rw[List.any_cons,List.any_cons,ih,h.1]
theorem KV.CW {kvs:List (κ×V)}{vs:List (κ×Value)}(r:KV kvs vs)(k:κ){y:V}{u:Value}(ry:RelV y u):
   KV (kvs.map λkv=>if kv.1=k then (kv.1,y) else kv) (vs.map λkv=>if kv.1=k then (kv.1,u) else kv):=by
 unfold KV at r ⊢;induction r with
 | nil=>exact .nil
 | @cons p q ps qs h t ih=>
   rw[List.map_cons,List.map_cons];refine .cons ?_ ih;obtain⟨h1,h2⟩:=h;by_cases e:p.1=k
   . rw[if_pos e,if_pos (h1.symm.trans e)]; exact⟨h1,ry⟩
   . rw[if_neg e,if_neg (λz=>e (h1.trans z))]; exact⟨h1,h2⟩
theorem KV.put {kvs:List (κ×V)}{vs:List (κ×Value)}(r:KV kvs vs)(k:κ){y:V}{u:Value}(ry:RelV y u):KV (putK kvs k y) (stored vs k u):=by
 unfold putK stored;rw[r.any k];by_cases e:(vs.any λkv=>decide (kv.1=k))=true
 . rw[if_pos e,if_pos e]; exact r.CW k ry
 . rw[if_neg e,if_neg e]; exact Paired.snoc r ⟨rfl,ry⟩
theorem KV.keys {kvs:List (κ×V)}{vs:List (κ×Value)}(r:KV kvs vs):kvs.map (·.1)=vs.map (·.1):=by
 unfold KV at r;induction r with
 | nil=>rfl
 | cons h t ih=>rw[List.map_cons,List.map_cons,ih,h.1]
theorem KV.length {kvs:List (κ×V)}{vs:List (κ×Value)}(r:KV kvs vs):kvs.length=vs.length:=Paired.length r
end
theorem ra {P:Program}{w:World}{k:Key}{u:Value}(r:RelV (kV k) u):(bq P w).is k u=true:=by
 cases k with
 | inl i=>obtain⟨t,e⟩:=(show ∃t,u=Value.int i t from r); subst e; exact mW P w i t
 | inr x=>obtain⟨t,e⟩:=(show ∃t,u=Value.str x t from r); subst e; exact oF P w x t
section
variable {P:Program}{w:World}{H:Hp}{h:Heap}{a:Addr}
theorem Bn {u:HO}(ok:HOk P w H h)(e:Rd H a u):bA P w H h a u:=e.ok ok
theorem nL {kvs:List (Key×V)}(ok:HOk P w H h)(e:Rd H a (.dK kvs)):kvs.length<=sizeLine/\(a==sysModules)=false/\∃vs,KV kvs vs/\h.DictOf (bq P w) a vs:=show bA P w H h a (.dK kvs) from Bn ok e
theorem qY {kvs:List (Key×V)}(ok:HOk P w H h)(e:H a=some (.dK kvs)):kvs.length<=sizeLine/\(a==sysModules)=false/\∃vs,KV kvs vs/\h.DictOf (bq P w) a vs:=nL ok (.inl e)
end
def va (H:Hp)(a:Addr)(y:V)(r:Option V):Prop:=∃kvs k,Rd H a (.dK kvs)/\y=kV k/\r=eE kvs k
def Cf (H:Hp)(a:Addr)(y v:V)(H':Hp):Prop:=∃kvs k,H a=some (.dK kvs)/\y=kV k/\kvs.length<sizeLine/\H'=upd H a (.dK (putK kvs k v))
section
variable {X:Cx}{pins:List (Addr×Obj)}{σ:St}{H:Hp}{s:Shared}{a:Addr}{y v:V}{u r:Value}{o:Option V}{A:Around}{E:Value->Shared->Prop}
theorem Inv.big (I:Inv X pins σ H s):sysModules<s.heap.objs.size:=by have h:mainGlobals<s.heap.objs.size:=(I.mod.glob.keeps I.bk).lt;exact Nat.lt_trans (by decide) h
theorem sO {Q:Value->Shared->Prop}(hu:A.units+1<cLine)(I:Inv X pins σ H s)(g:va H a y (some v))(ry:RelV y u)(h:∀w' s',Inv X pins σ H s'->RelV v w'->Q w' s'):
   wpAny (model X.prog X.w) A (getItem (.ref a) u) Q E s:=by
 obtain⟨kvs,k,e,ey,l⟩:=g;subst ey;obtain⟨z,hd,vs,rel,dd⟩:=nL I.hok e;obtain⟨w',hw,rw'⟩:=oN.some_of (v:=v) (o:=valueAt vs k) (by rw[l]; exact rel.val k);exact wpAny_getItem_of (ra ry) dd.mapOf hw (h w' _ (I.tok _) rw')
theorem eN {h':Heap}{t':Nat}{ob:HO}(I:Inv X pins σ H s)(mu:Mut (H a))(hs:Heap.SameBut a s.heap h')(he:∃q,h'.get? a=some q)(new:bA X.prog X.w (upd H a ob) h' a ob):
   Inv X pins σ (upd H a ob) { s with heap:=h',toks:=t' }:=
 I.write (x:=a) (e:=a) mu (.inl rfl) (λb q hb z=>(hs.2 b hb).trans z) he new
theorem mv {P:Program}{w:World}{H':Hp}{h':Heap}{kvs:List (Key×V)}{vs:List (Key×Value)}(z:kvs.length<=sizeLine)(hd:(a==sysModules)=false)(rel:KV kvs vs)(dd:h'.DictOf (bq P w) a vs):
   bA P w H' h' a (.dK kvs):=⟨z,hd,vs,rel,dd⟩
theorem rV {H':Hp}{Q:Unit->Shared->Prop}(hu:A.units+1<cLine)(I:Inv X pins σ H s)(g:Cf H a y v H')(ry:RelV y u)(rv:RelV v r)(h:∀s',Inv X pins σ H' s'->Q () s'):
   wpAny (model X.prog X.w) A (setItem (.ref a) u r) Q E s:=by
 obtain⟨kvs,k,e,ey,l,eH⟩:=g;subst ey eH;obtain⟨z,hd,vs,rel,dd⟩:=qY I.hok e;have hz:vs.length<=sizeLine:=by rw[<- rel.length]; exact z
 have hl:(putK kvs k v).length<=sizeLine:=by have:=iV kvs k v; omega
 refine wpAny_setItem_pairs (hsz:=hz) (ra ry) dd λh' dd' hs=>h _ ?_;have he:∃q,h'.get? a=some q:=let ⟨q,_,_,hq,_⟩:=dd'; ⟨q,hq⟩
 exact eN I (by rw[e]; exact True.intro) hs he (mv hl hd (rel.put k rv) dd')
end
def kn (i:Expr):Prop:=∀ov iv,subscripted i false ov iv=operate [ov,iv] (getItem ov iv)
theorem lE {prog:Program}{w:World}{A:Around}{E:Value->Shared->Prop}{s:Shared}{env:Env}{value slice:Expr}{pos:Pos}{T id:String}{Q:Value->Shared->Prop}
   (hl:typeLookup (.type T) "__getitem__" = pure (some (.builtin id))) (hs:kn slice)
   (h:wpAny (model prog w) A (eval value env) (λo s₁=>wpAny (model prog w) A (eval slice env) (λi s₂=>s₂.TypeIs o T/\wpAny (model prog w) A (getItem o i) Q E s₂) E s₁) E s) :
   wpAny (model prog w) A (eval (.Subscript value slice pos) env) Q E s:=by
 refine Subscript_ (wpAny_mono h (λo s₁ h₁=>wpAny_mono h₁ (λi s₂ h₂=>?_) λ_ _ x=>x) λ_ _ x=>x);obtain⟨hT,h₂⟩:=h₂;unfold subscriptTail;refine wpAny_bind ?_;rw[getitemInPython_of_ne hT.not_modules];refine wpAny_bind (wpAny_specialOf hT hl ?_);have fin:wpAny (model prog w) A (subscripted slice false o i) (λr s₃=>wpAny (model prog w) A (letTemporaryGo value o r >>= λ_=>pure r) Q E s₃) E s₂:=by rw[hs o i];exact wpAny_operating (wpAny_mono h₂ (λr s₃ h₃=>wpAny_bind (wpAny_letTemporaryGo (wpAny_pure h₃))) λ_ _ x=>x)
 first
   | exact wpAny_pure (wpAny_bind fin)
   | exact wpAny_bind (wpAny_pure (wpAny_bind fin))
   | exact wpAny_bind fin
theorem m5 {X:Cx}{pins:List (Addr×Obj)}{σ:St}{H:Hp}{s:Shared}{a:Addr}{y:V}{o:Option V}(I:Inv X pins σ H s)(g:va H a y o):s.TypeIs (.ref a) "dict":=by obtain⟨kvs,k,e,_,_⟩:=g;obtain⟨_,_,vs,_,dd⟩:=nL I.hok e;exact dd.typeIs
def Bv (td ty:TE):TE:=λσ H Q=>td σ H λx H1=>ty σ H1 λy H2=>∃a v,x=.ref a/\va H2 a y (some v)/\Q v H2
def Bo (td ty tv:TE):TS:=λD σ H=>tv σ H λv H1=>td σ H1 λx H2=>ty σ H2 λy H3=>∃a H4,x=.ref a/\Cf H3 a y v H4/\D.nx σ H4
section
variable {X:Cx}{o i value:Expr}{pos pos':Pos}{td ty tv:TE}
theorem xF (hu:X.A.units+1<cLine)(ho:PE X o td)(hi:PE X i ty)(hs:kn i):PE X (.Subscript o i pos) (Bv td ty):=by intro pins s σ H Q I h;refine lE PySem.F.slot_dict_getitem.lookup hs (thn (ho pins s σ H _ I h) λu s1 ⟨x,H1,I1,rx,q1⟩=>thn (hi pins s1 σ H1 _ I1 q1) λiv s2 ⟨y,H2,I2,ry,a,v,ex,g,q2⟩=>?_);subst ex;obtain rfl:u=Value.ref a:=rx;exact⟨m5 I2 g,sO hu I2 g ry λw' s3 I3 rw'=>⟨v,H2,I3,rw',q2⟩⟩
theorem wk (hu:X.A.units+1<cLine)(ho:PE X o td)(hi:PE X i ty)(hv:PE X value tv)(hs:swapsWith value (some (.Subscript o i pos')) pos.line X.env=pure false):
   PS X (.Assign [.Subscript o i pos'] value pos) (Bo td ty tv):=by
 intro pins s σ H D I h;refine wpAny_Assign_Subscript (thn (hv pins s σ H _ I h) λr s1 ⟨v,H1,I1,rv,q1⟩=>thn (ho pins s1 σ H1 _ I1 q1) λu s2 ⟨x,H2,I2,rx,q2⟩=>thn (hi pins s2 σ H2 _ I2 q2) λiv s3 ⟨y,H3,I3,ry,a,H4,ex,g,q3⟩=>?_) hs;subst ex;obtain rfl:u=Value.ref a:=rx;exact rV hu I3 g ry rv λs4 I4=>⟨σ,H4,I4,q3⟩
end
theorem oE {P:Program}{w:World}{H:Hp}(h:Heap)(hb:sysModules<h.objs.size):bA P w H (h.push { cls:=.type "dict",data:=.dict #[] }) h.objs.size (.dK []):=⟨Nat.zero_le _,beq_eq_false_iff_ne.mpr (Ne.symm (Nat.ne_of_lt hb)),[],.nil,Heap.DictOf.new h⟩
def zW:TE:=λ_ H Q=>∀p,H p=none->Q (.ref p) (upd H p (.dK []))
section
variable {X:Cx}{pos:Pos}
theorem ux:PE X (.Dict [] [] pos) zW:=λpins s σ H Q I h=>wpAny_Dict_empty ⟨.ref s.heap.objs.size,_,I.laid (a:=s.heap.objs.size) (o:=.dK []) (t':=s.toks) (λ_ _ q=>Heap.get?_push_of_some _ q) (Nat.le_refl _) (oE s.heap I.big),rfl,h _ (I.hok.fresh (Nat.le_refl _))⟩
end
noncomputable def qe:List (TE×TE)->St->Hp->(List (V×V)->Hp->Prop)->Prop
 | [],_,H,Q=>Q [] H
 | (tk,tv)::r,σ,H,Q=>tk σ H λx H1=>tv σ H1 λy H2=>qe r σ H2 λps H3=>Q ((x,y)::ps) H3
noncomputable abbrev VV:List (V×V)->List (Value×Value)->Prop:=Paired λp q=>RelV p.1 q.1/\RelV p.2 q.2
def PPs (X:Cx)(pos:Pos)(keys:List (Option Expr))(values:List Expr)(trs:List (TE×TE)):Prop:=
 ∀(pins:List (Addr×Obj)) (s:Shared) (σ:St) (H:Hp) (Q:List (V×V)->Hp->Prop),Inv X pins σ H s->qe trs σ H Q ->
   wpAny (model X.prog X.w) X.A (evalPairs (pairTrees keys values X.env pos)) (λvs s'=>∃ps H',Inv X pins σ H' s'/\VV ps vs/\Q ps H') X.xe s
theorem wB {X:Cx}{pos:Pos}:PPs X pos [] [] []:=λpins s σ H Q I h=>pairTrees_nil_walk ⟨[],H,I,.nil,h⟩
theorem uY {X:Cx}{pos:Pos}{k v:Expr}{ks:List (Option Expr)}{vs:List Expr}{tk tv:TE}{trs:List (TE×TE)}(hk:PE X k tk)(hv:PE X v tv)(hr:PPs X pos ks vs trs):
   PPs X pos (some k::ks) (v::vs) ((tk,tv)::trs):=λpins s σ H Q I h=>
 pairTrees_cons_walk (thn (hk pins s σ H _ I h) λu s1 ⟨x,H1,I1,rx,q1⟩=>thn (hv pins s1 σ H1 _ I1 q1) λw2 s2 ⟨y,H2,I2,ry,q2⟩=>
   thn (hr pins s2 σ H2 _ I2 q2) λws s3 ⟨ps,H3,I3,rel,q3⟩=>⟨(x,y)::ps,H3,I3,.cons ⟨rx,ry⟩ rel,q3⟩)
noncomputable def hJ (kvs more:List (Key×V)):List (Key×V):=more.foldl (λacc kv=>putK acc kv.1 kv.2) kvs
theorem KV.merge:∀{more:List (Key×V)} {rs:List (Key×Value)} {kvs:List (Key×V)} {vs:List (Key×Value)},KV more rs->KV kvs vs->KV (hJ kvs more) (merged vs rs):=by
 intro more rs kvs vs r;unfold KV at r;induction r generalizing kvs vs with
 | nil=>intro q; exact q
 | @cons p q ps qs h t ih=>
   intro r0;have e:KV (putK kvs p.1 p.2) (stored vs q.1 q.2):=by have:=r0.put p.1 h.2;rw[<- h.1]; exact this
   exact ih e
theorem fQ:∀(more kvs:List (Key×V)),(hJ kvs more).length<=kvs.length+more.length
 | [],kvs=>by show kvs.length<=kvs.length+0; omega
 | p::r,kvs=>by have h1:=fQ r (putK kvs p.1 p.2);have h2:=iV kvs p.1 p.2;show (hJ (putK kvs p.1 p.2) r).length<=_;rw[List.length_cons]; omega
theorem jv {P:Program}{w:World}:∀{kvs:List (Key×V)} {ws:List (Value×Value)},VV (kvs.map λkv=>(kV kv.1,kv.2)) ws->∃rs,Carries (bq P w) ws rs/\KV kvs rs
 | [],_,r=>by rw[List.map_nil]at r; cases r; exact⟨[],True.intro,.nil⟩
 | p::kvs,_,r=>by
   rw[List.map_cons]at r;cases r with
   | @cons a b as bs h t=>obtain⟨rs,c,q⟩:=jv (P:=P) (w:=w) t;obtain⟨b1,b2⟩:=b;exact⟨(p.1,b2)::rs,⟨ra h.1,rfl,c⟩,.cons ⟨rfl,h.2⟩ q⟩
def BM (trs:List (TE×TE)):TE:=λσ H Q=>∀p,H p=none->qe trs σ (upd H p (.dK [])) λps H2=>H2 p=some (.dK [])/\∃kvs:List (Key×V),ps=kvs.map (λkv=>(kV kv.1,kv.2))/\kvs.length<=15/\Q (.ref p) (upd H2 p (.dK (hJ [] kvs)))
theorem xM {X:Cx}{pos:Pos}{keys:List (Option Expr)}{values:List Expr}{trs:List (TE×TE)}(h:PPs X pos keys values trs)(hall:keys.all (·.isSome)=true)(hl:keys.length=values.length)(h0:keys≠[])
   (h15:keys.length<=15):PE X (.Dict keys values pos) (BM trs):=by
 intro pins s σ H Q I q;have hn:=I.hok.fresh (Nat.le_refl s.heap.objs.size);have I1:=I.laid (a:=s.heap.objs.size) (o:=.dK []) (h':=s.heap.push { cls:=.type "dict",data:=.dict #[] }) (t':=s.toks) (λ_ _ q=>Heap.get?_push_of_some _ q) (Nat.le_refl _) (oE s.heap I.big);refine wpAny_Dict_walk (knd:=bq X.prog X.w) hall hl h0 h15 (thn (h pins _ σ _ _ I1 (q _ hn)) λws s2 ⟨ps,H2,I2,rel,e,kvs,ep,lk,q2⟩=>?_);subst ep;obtain⟨rs,c,rk⟩:=jv (P:=X.prog) (w:=X.w) rel;obtain⟨z,hd,vs0,r0,dd⟩:=qY I2.hok e;cases r0;refine⟨rs,c,dd,λh' dd' hs=>⟨.ref s.heap.objs.size,_,?_,rfl,q2⟩⟩;have hz:(hJ [] kvs).length<=sizeLine:=by have h1:=fQ kvs [];rw[List.length_nil]at h1;rw[sizeLine_eq]; omega
 have he:∃q,h'.get? s.heap.objs.size=some q:=let ⟨q,_,_,hq,_⟩:=dd'; ⟨q,hq⟩
 exact eN I2 (by rw[e]; exact True.intro) hs he (mv hz hd (rk.merge .nil) dd')
structure M2 (X:Cx)(o:Expr)(m:Str)(apos:Pos)(e f:Expr)(cpos:Pos):Prop where
 base:attributeBase o m X.env (eval o X.env)=eval o X.env
 few:((backTo cpos (starEach [e,f] X.env)).all (λx=>!x.1)&&(backToKw cpos (keywordEach [] X.env)).all (λx=>x.1.isSome)
   && decide (([e,f]:List Expr).length+([]:List Keyword).length+(if ([]:List Keyword).isEmpty then 0 else 1)<30))=true
 line:(apos.endLine==cpos.line)=true
 trees:backTo cpos (starEach [e,f] X.env)=[(false,eval e X.env),(false,eval f X.env)]
def IsD (H:Hp)(a:Addr):Prop:=∃kvs,Rd H a (.dK kvs)
theorem A7 {X:Cx}{pins:List (Addr×Obj)}{σ:St}{H:Hp}{s:Shared}{a:Addr}(I:Inv X pins σ H s)(d:IsD H a):
   s.TypeIs (.ref a) "dict" /\ (∀b,Value.ref a=.ref b->∃ob,s.heap.get? b=some ob/\ob.dict=none)/\(a==sysModules)=false:=by
 obtain⟨kvs,e⟩:=d;obtain⟨_,hd,vs,_,dd⟩:=nL I.hok e;refine⟨dd.typeIs,λb q=>?_,hd⟩;cases q;obtain⟨ob,_,_,h1,h2,_⟩:=dd;exact⟨ob,h1,h2.2.1⟩
section
variable {X:Cx}{pins:List (Addr×Obj)}{σ:St}{H:Hp}{s:Shared}{a:Addr}{y d:V}{u r:Value}{o:Option V}{A:Around}{E:Value->Shared->Prop}
theorem zE {Q:Value->Shared->Prop}(hu:A.units+1<cLine)(I:Inv X pins σ H s)(g:va H a y o)(ry:RelV y u)(rd:RelV d r)(h:∀w' s',Inv X pins σ H s'->RelV (o.getD d) w'->Q w' s'):
   wpAny (model X.prog X.w) A (call (.builtin "dict.get") [.ref a,u,r]) Q E s:=by
 obtain⟨kvs,k,e,ey,l⟩:=g;subst ey;obtain⟨z,hd,vs,rel,dd⟩:=nL I.hok e;refine call_meetsIn PySem.F.slot_dict_get dd.typeIs PySem.F.entry_dict_get (PySem.F.args_dict_get_3 _ _ _) (meets_dict_get_default (bq X.prog X.w) a (ra ry) hd r) ⟨_,dd.mapOf,h _ _ (I.tok _) ?_⟩;rw[l];exact(rel.val k).getD rd
end
def An (td ty tx:TE):TE:=λσ H Q=>td σ H λx H1=>∃a,x=.ref a/\IsD H1 a/\ty σ H1 λy H2=>tx σ H2 λz H3=>∃o,va H3 a y o/\Q (o.getD z) H3
section
variable {X:Cx}{o e f:Expr}{apos cpos:Pos}{td ty tx:TE}
theorem vx (hu:X.A.units+1<cLine)(ho:PE X o td)(he:PE X e ty)(hf:PE X f tx)(m:M2 X o "get" apos e f cpos):PE X (.Call (.Attribute o "get" apos) [e,f] [] cpos) (An td ty tx):=by
 intro pins s σ H Q I h;refine wpAny_Call_method m.base m.few m.line PySem.F.plainAttrs_dict PySem.F.slot_dict_get PySem.F.type_dict_get (thn (ho pins s σ H _ I h) λu s1 ⟨x,H1,I1,rx,a,ex,d,q1⟩=>?_);subst ex;obtain rfl:u=Value.ref a:=rx;obtain⟨t1,t2,_⟩:=A7 I1 d;refine⟨t1,t2,?_⟩;rw[m.trees]
 refine Calls.callWith_builtin rfl (Calls.evalArgs_plain (Calls.spliced_cons (thn (he pins s1 σ H1 _ I1 q1) λiv s2 ⟨y,H2,I2,ry,q2⟩=>
   Calls.spliced_cons (thn (hf pins s2 σ H2 _ I2 q2) λfv s3 ⟨z,H3,I3,rz,ov,g,q3⟩=>Calls.spliced_nil ?_))))
 exact zE hu I3 g ry rz λw' s4 I4 rw'=>⟨_,H3,I4,rw',q3⟩
end
end L2
namespace Ev
open PySem PySem.Spec PyProof.Rows L2
open PySem.Builtin.Range (rangeFitsLong rangeSize)
noncomputable def gw (n:Int):Obj:={ cls:=.type "range_iterator",data:=.fields #[rawInt (0+(rangeSize 0 n 1-1)*1),rawInt (rangeSize 0 n 1),rawInt (-1)] }
theorem fits_of {i:Int}(h1:-(2^62)<=i)(h2:i<=2^62):rangeFitsLong i=true:=by unfold rangeFitsLong;rw[Bool.and_eq_true,decide_eq_true_iff,decide_eq_true_iff];omega
theorem uP {n:Int}(h:0<=n):rangeSize 0 n 1=n:=by rw[rangeSize_one];split <;> omega
theorem AS {n:Int}(h0:0<=n)(h1:n<2^62):(rangeFitsLong 0&&rangeFitsLong n&&rangeFitsLong 1&&rangeFitsLong (-1)&&rangeFitsLong (0-1)&&rangeFitsLong (rangeSize 0 n 1))=true:=by rw[uP h0,fits_of (i:=n) (by omega) (by omega)];decide
theorem sE (r:Addr)(n:Int)(t u v:Tok)(hs:(rangeFitsLong 0&&rangeFitsLong n&&rangeFitsLong 1&&rangeFitsLong (-1)&&rangeFitsLong (0-1)&&rangeFitsLong (rangeSize 0 n 1))=true):
   Meets (Builtin.«range.__reversed__» ⟨[.ref r],[]⟩) (λ_ R s=>IsRange s.heap r 0 n 1 t u v/\R (.ok (.ret (Value.ref s.heap.objs.size))) { s with heap:=s.heap.push (gw n),toks:=s.toks }):=
 .of_wp λprog w A R s h=>by
   obtain⟨hp,g,d,tk,os⟩:=s;obtain⟨hl,h⟩:=h;have hs':(!(rangeFitsLong 0&&rangeFitsLong n&&rangeFitsLong 1&&rangeFitsLong (-1)&&rangeFitsLong (0-1)&&rangeFitsLong (rangeSize 0 n 1)))=false:=by rw[hs]; rfl
   wp_walk
   rw[if_neg (by rw[hs]; decide),if_pos hs];exact wpAny_bind (wpAny_newObj_type (wpAny_pure ⟨_,rfl,h⟩))
section
variable {prog:Program}{w:World}{A:Around}{E:Value->Shared->Prop}{s:Shared}
theorem jC {r:Addr}{n:Int}{t u v:Tok}{Q:Value->Shared->Prop}(hr:IsRange s.heap r 0 n 1 t u v)(h0:0<=n)(h1:n<2^62)
   (h:Q (.ref s.heap.objs.size) { s with heap:=s.heap.push (gw n) }):wpAny (model prog w) A (call (.builtin "range.__reversed__") [.ref r]) Q E s:=
 call_meets F.slot_range_reversed ⟨_,hr,rfl⟩ F.entry_range_reversed (F.args_range_reversed_1 _) (sE r n t u v (AS h0 h1)) ⟨hr,h⟩
theorem lV {r:Addr}{n:Int}{t u v:Tok}{Q₁:Value->Shared->Prop}(hr:IsRange s.heap r 0 n 1 t u v)(h0:0<=n)(h1:n<2^62)
   (h:Q₁ (.ref s.heap.objs.size) { s with heap:=s.heap.push (gw n) }) :
   codeAny (model prog w) A (.call (.builtin "reversed.__new__") ⟨[.type "reversed",.ref r],[]⟩) (wants Q₁ E) s:=by
 have hT:s.TypeIs (.ref r) "range":=⟨_,hr,rfl⟩;refine codeAny_of_tree ?_;refine wpAny_bind (wpAny_of_eq (F.newCall_reversed_1 _) (wpAny_pure ⟨plainId_quiet F.plain_reversed_new _,codeAny_builtin F.entry_reversed_new ?_⟩));rw[Around.under_plainId F.plain_reversed_new _];unfold Builtin.«reversed.__new__»;refine wpAny_bind (wpAny_of_eq (newClass_reversed _) ?_)
 try dsimp only
 refine wpAny_bind (wpAny_of_eq (a:=()) (by first | rfl | kernel_rfl) ?_);refine wpAny_bind (wpAny_of_eq (a:=()) (by first | rfl | kernel_rfl) ?_)
 try dsimp only
 refine wpAny_bind (wpAny_specialOf hT F.slot_range_reversed.lookup ?_)
 try dsimp only
 refine wpAny_bind (wpAny_of_eq (F.slot_range_reversed.bind _) ?_)
 try dsimp only
 first
 | rw[if_neg (show ¬((Value.builtin "range.__reversed__" == Value.none)=true) from Bool.false_ne_true)]
 | (show wpAny _ _ (if (Value.builtin "range.__reversed__" == Value.none)=true then _ else _) _ _ _; rw[if_neg (show ¬((Value.builtin "range.__reversed__" == Value.none)=true) from Bool.false_ne_true)])
 refine wpAny_bind (wpAny_rule ?_);refine wpAny_bind (m:=runValue (.call (.builtin "range.__reversed__") ⟨[.ref r],[]⟩)) (show wpAny _ _ (call (.builtin "range.__reversed__") [.ref r]) _ _ _ from jC hr h0 h1 ?_)
 first
 | exact wpAny_pure h
 | exact wpAny_bind (wpAny_pure (wpAny_pure h))
theorem i3:isSubtype (.type "range_iterator") (.type "reversed")=pure false:=by rw[isSubtype_type]; kernel_rfl
theorem jW {r:Addr}{n:Int}{t u v:Tok}{Q:Value->Shared->Prop}(hr:IsRange s.heap r 0 n 1 t u v)(h0:0<=n)(h1:n<2^62)
   (h:Q (.ref s.heap.objs.size) { s with heap:=s.heap.push (gw n) }):wpAny (model prog w) A (call (.type "reversed") [.ref r]) Q E s:=by
 refine callType_other (U:="range_iterator") (Q₁:=λobj s₁=>obj=.ref s.heap.objs.size/\s₁={ s with heap:=s.heap.push (gw n) }) (by decide +kernel) F.create_reversed ⟨_,_,F.mro_reversed⟩ F.made_reversed i3 (F.typeCall_reversed_1 _) (lV hr h0 h1 ⟨rfl,rfl⟩) ?_;rintro obj s₁ ⟨rfl,rfl⟩;exact⟨⟨_,Heap.get?_push_size _ rfl,rfl⟩,h⟩
end
noncomputable def Itd (n:Nat):L2.It:=⟨λi _=>i<n,λi H x H'=>H'=H/\x=.int ((n:Int)-1-i),λi _=>n<=i⟩
theorem xB {P:Program}{w:World}{K:PySem.W.Frag}{tg:Expr}(it:Addr)(n:Nat):Turn P w K false tg (Itd n) [it] it (λi h=>i<=n/\IsRangeIter h it ((n:Int)-1+(i:Nat)*(-1)) ((n:Int)-(i:Nat)) (-1)) where
 mem:=by simp
 obj:=λi h st b hb=>by
   have e:b=it:=by simpa using hb
   subst e
   exact⟨_,st.2,λv z=>by
     have z':Data.fields _=Data.cell v:=z;cases z'⟩
 keep:=λi h h' st k=>⟨st.1,k it (by simp) _ st.2⟩
 item:=by intro X hP hw hK hc i pins s σ H E I hf st hg;subst hP hw hK;obtain⟨f0,f1,f2,f3,f4,f5⟩:=hf it (by simp);have W:=Walks.range (prog:=X.prog) (w:=X.w) (I.ok.hd hc.calm) it ((n:Int)-1) (-1) n;refine W.item i s _ _ hg st.2 λv h' tk hv st' kk=>?_;obtain⟨t,rfl⟩:=hv;have I1:Inv X pins σ H { s with heap:=h',toks:=tk }:=I.turned (λb o hb e=>kk b o (by simpa using hb) e) f0 f1 f3 f4 f5;refine⟨_,rfl,jM (s:={ s with heap:=h',toks:=tk }) (n:="range_iterator") st' rfl rfl (by decide) ⟨.int ((n:Int)-1-i),H,I1,⟨t,?_⟩,⟨rfl,rfl⟩,⟨hg,st'⟩,λb hb=>(hf b hb).1⟩⟩;rw[Int.mul_neg,Int.mul_one,<- Int.sub_eq_add_neg]
 done:=by intro X hP hw hK hc i pins s σ H E I hf st hg;subst hP hw hK;obtain⟨f0,f1,f2,f3,f4,f5⟩:=hf it (by simp);have hg:n<=i:=hg;obtain rfl:i=n:=Nat.le_antisymm st.1 hg;have W:=Walks.range (prog:=X.prog) (w:=X.w) (I.ok.hd hc.calm) it ((i:Int)-1) (-1) i;exact W.done s _ _ st.2 λh' tk kk=>⟨rfl,I.turned (λb o hb e=>kk b o (by simpa using hb) e) f0 f1 f3 f4 f5⟩
 self:=λ_ _ _ _ _ st h=>wpAny_pyIter_rangeiter st.2 h
section
variable {X:Cx}{tg:Expr}
def iDn (ta:TA):TI:=λσ H R=>ta σ H λvs H1=>∃n:Nat,vs=[.int n]/\n<1000/\R (Itd n) H1
theorem yf {a:Expr}{ta:TA}{p p' pos pos':Pos}(hc:X.calm=true)(hg:Gl X "reversed")(hm:X.mg "reversed" = none)(hg':Gl X "range")(hm':X.mg "range" = none)(ha:PA X [a] ta)(hs':starEach [a] X.env=[(false,eval a X.env)]:=by rfl)
   (hs:starEach [.Call (.Name "range" p') [a] [] pos'] X.env=[(false,eval (.Call (.Name "range" p') [a] [] pos') X.env)]:=by rfl):PI X tg (.Call (.Name "reversed" p) [.Call (.Name "range" p') [a] [] pos'] [] pos) (iDn ta):=by
 intro pins s σ H R I h;refine Call_ (dN I hg hm oM (PyProof.Rows.callWith_type1 ?_ hs rfl));rw[hs];refine Calls.spliced_cons (Call_ (dN I hg' hm' boot_range (PyProof.Rows.callWith_type1 (thn (ha pos' pins s σ H _ I h) λus s1 ⟨vs,H1,I1,r1,n,e,hn,q⟩=>?_) hs' rfl)));subst e;cases r1 with
 | cons r rr=>
   cases rr;obtain⟨t,rfl⟩:=r;refine call_range_1 (Calls.spliced_nil ?_);have I2:Inv X pins σ H1 { s1 with heap:=s1.heap.push { cls:=.type "range",data:=.fields #[.int 0 s1.toks,.int n t,.int 1 (s1.toks+1)] },toks:=s1.toks+1+1 }:=I1.kept λb o e=>Heap.get?_push_of_some _ e;refine jW (IsRange.new ..) (by omega) (by omega) ?_;have z:rangeSize 0 (n:Int) 1=n:=uP (by omega);have st:(Heap.push (s1.heap.push { cls:=.type "range",data:=.fields #[.int 0 s1.toks,.int n t,.int 1 (s1.toks+1)] }) (gw n)).get? (s1.heap.push { cls:=.type "range",data:=.fields #[.int 0 s1.toks,.int n t,.int 1 (s1.toks+1)] }).objs.size=some (gw n):=Heap.get?_push_size _ rfl
   have st':IsRangeIter (Heap.push (s1.heap.push { cls:=.type "range",data:=.fields #[.int 0 s1.toks,.int n t,.int 1 (s1.toks+1)] }) (gw n)) (s1.heap.push { cls:=.type "range",data:=.fields #[.int 0 s1.toks,.int n t,.int 1 (s1.toks+1)] }).objs.size ((n:Int)-1+((0:Nat):Int)*(-1)) ((n:Int)-((0:Nat):Int)) (-1):=by
     unfold IsRangeIter;rw[st,gw,z];congr 6
     all_goals (simp)
   refine wpAny_pyIter_rangeiter (x:=(n:Int)-1+((0:Nat):Int)*(-1)) (left:=(n:Int)-((0:Nat):Int)) (step:=-1) st' ?_;refine⟨false,_,[(s1.heap.push { cls:=.type "range",data:=.fields #[.int 0 s1.toks,.int n t,.int 1 (s1.toks+1)] }).objs.size],_,_,H1,rfl,I2.kept (t':=s1.toks+1+1) λb o e=>Heap.get?_push_of_some _ e,.inl hc,xB _ n,⟨Nat.zero_le _,st'⟩,λb hb=>?_,q⟩;have e:b=(s1.heap.push { cls:=.type "range",data:=.fields #[.int 0 s1.toks,.int n t,.int 1 (s1.toks+1)] }).objs.size:=by simpa using hb
   subst e;exact I2.jX (Nat.le_refl _) (I2.hok.fresh (Nat.le_refl _))
end
end Ev
namespace Ev
open PySem PySem.Spec PyProof.Rows L2
noncomputable def bL (kv:List (Int×Int)):List (Key×V):=kv.map λp=>(.inl p.1,.int p.2)
noncomputable def Itk (a:Addr)(o:Obj)(kv:List (Int×Int)):L2.It:=⟨λi H=>i<kv.length/\H a=some (.frz o (.dK (bL kv))),λi H x H'=>H'=H/\∃p,kv[i]?=some p/\x=.int p.1,λi H=>kv.length<=i/\H a=some (.frz o (.dK (bL kv)))⟩
theorem mN {X:Cx}{pins:List (Addr×Obj)}{σ:L2.St}{H:Hp}{s:Shared}{a:Addr}{o:Obj}{kvs:List (Key×V)}{es:Array DictEntry}{ep:Nat}(I:Inv X pins σ H s)(h:H a=some (.frz o (.dK kvs)))(hd:o.data=.dict es ep):
   ∃vs,KV kvs vs/\s.heap.DictAt (bq X.prog X.w) a vs ep:=by
 obtain⟨e,_,_,vs,rel,o',es',ep',e',r⟩:=(show bA X.prog X.w H s.heap a (.frz o (.dK kvs)) from I.hok a _ h);rw[e]at e'; cases e';have z:=r.2.1;rw[hd]at z;injection z with z1 z2;subst z1 z2;exact⟨vs,rel,o,es,e,r⟩
theorem sG {P:Program}{w:World}{K:PySem.W.Frag}{tg:Expr}(a it:Addr)(o:Obj)(kv:List (Int×Int))(es:Array DictEntry)(ep:Nat)(hd:o.data=.dict es ep):
   Turn P w K false tg (Itk a o kv) [it] it (λi h=>i<=kv.length/\h.IsKeyIter it a i kv.length ep) where
 mem:=by simp
 obj:=λi h st b hb=>by
   have e:b=it:=by simpa using hb
   subst e;obtain⟨o,e,c,d⟩:=st.2;exact⟨o,e,λv z=>by rw[d]at z; cases z⟩
 keep:=λi h h' st k=>⟨st.1,st.2.at λo e=>k it (by simp) o e⟩
 item:=by
   intro X hP hw hK hc i pins s σ H E I hf st hg;subst hP hw hK;obtain⟨hi,ha⟩:=hg;obtain⟨f0,f1,f2,f3,f4,f5⟩:=hf it (by simp);obtain⟨vs,rel,dd⟩:=mN I ha hd;have hl:kv.length=vs.length:=by rw[<- rel.length,bL,List.length_map]
   have st2:=st.2;rw[hl]at st2;have hx:vs[i]?=some vs[i]:=by simp[show i<vs.length by omega]
   have kk:=congrArg (λl=>l[i]?) rel.keys;simp only[bL,List.map_map,List.getElem?_map,hx,List.getElem?_eq_getElem hi,Option.map_some,Function.comp]at kk;have kk:=Option.some.inj kk;refine wpAny_pyNext_dict_item st2 dd hx λkey h' hk st' sb=>?_;have hk:(bq X.prog X.w).is (Sum.inl kv[i].fst) key=true:=by rw[kk]; exact hk
   obtain⟨t,rfl⟩:=Value.isInt_shape (show Value.isInt _ key=true from hk);have I1:Inv X pins σ H { s with heap:=h' }:=I.turned (t':=s.toks) (λb o hb e=>(sb.2 b hb).trans e) f0 f1 f3 f4 f5;obtain⟨o',e,c,d⟩:=id st';refine⟨_,rfl,jM (s:={ s with heap:=h' }) e c d (by decide) ⟨.int kv[i].1,H,I1,⟨t,rfl⟩,⟨rfl,_,List.getElem?_eq_getElem hi,rfl⟩,⟨hi,by rw[hl]; exact st'⟩,λb hb=>(hf b hb).1⟩⟩
 done:=by
   intro X hP hw hK hc i pins s σ H E I hf st hg;subst hP hw hK;obtain⟨hi,ha⟩:=hg;obtain⟨f0,f1,f2,f3,f4,f5⟩:=hf it (by simp);obtain⟨vs,rel,dd⟩:=mN I ha hd;have hl:kv.length=vs.length:=by rw[<- rel.length,bL,List.length_map]
   have st2:=st.2;rw[hl]at st2;exact wpAny_pyNext_dict_end (I.ok.hd hc.calm) st2 dd (List.getElem?_eq_none (by omega)) λh' eb=>⟨rfl,I.turned (t':=s.toks) (λb o hb e=>eb b o hb e) f0 f1 f3 f4 f5⟩
 self:=λ_ _ _ _ _ st h=>wpAny_pyIter_keyiter st.2 h
section
variable {X:Cx}{tg:Expr}
def uT (tl:TE):TI:=λσ H R=>tl σ H λx H1=>∃a o kv,x=.ref a/\H1 a=some (.frz o (.dK (bL kv)))/\R (Itk a o kv) H1
theorem nP {l:Expr}{tl:TE}(hc:X.calm=true)(hl:PE X l tl):PI X tg l (uT tl):=by
 intro pins s σ H R I h;refine thn (hl pins s σ H _ I h) λu s1 ⟨x,H1,I1,r1,a,o,kv,ex,ha,q⟩=>?_;subst ex;cases r1;obtain⟨e,ok⟩:=(show bA X.prog X.w H1 s1.heap a (.frz o (.dK (bL kv))) from I1.hok a _ ha);obtain⟨z,hd,vs,rel,o',es,ep,e',r⟩:=ok;rw[e]at e';cases e';refine wpAny_pyIter_dict hd (show s1.heap.DictAt (bq X.prog X.w) a vs ep from⟨o,es,e,r⟩) ?_;have hv:vs.length=kv.length:=by rw[<- rel.length,bL,List.length_map]
 refine⟨false,s1.heap.objs.size,[s1.heap.objs.size],_,_,H1,rfl,I1.kept (t':=s1.toks) λb o e=>Heap.get?_push_of_some _ e,.inl hc,sG a _ o kv es ep r.2.1,⟨Nat.zero_le _,?_⟩,λb hb=>?_,q⟩
 . rw[<- hv];exact⟨_,Heap.get?_push_size _ rfl,rfl,rfl⟩
 . have e:b=s1.heap.objs.size:=by simpa using hb
   subst e;exact I1.jX (Nat.le_refl _) (I1.hok.fresh (Nat.le_refl _))
end
end Ev
namespace Hy
open PySem PySem.Spec PyProof.Rows L2
open Ev (D Den aq aD aH ai aU aO)
section
variable {X:Cx}{C:Bool}{τ:List Sl}{x y z:D}{a b e:Expr}{pos p:Pos}{k:Nat}{s:Sl}{i j:Int}
theorem nW {K:PySem.W.Frag}{H:Hp}:∀{vs:List V} {ns:List Int},aq K H vs (ns.map .int)->vs=ns.map V.int
 | _,[],h=>by cases h; rfl
 | _,n::ns,h=>by
   cases h with
   | cons d r=>cases d; rw[nW r]; rfl
theorem jx:∀{ns:List Int} {us:List Value},Vals (ns.map V.int) us->∃xs:List (Int×Tok),us=xs.map (λp=>Value.int p.1 p.2)/\xs.map (·.1)=ns
 | [],_,h=>by cases h; exact⟨[],rfl,rfl⟩
 | n::ns,_,h=>by
   cases h with
   | cons rv rs=>obtain⟨xs,rfl,rfl⟩:=jx rs;obtain⟨t,rfl⟩:=(show ∃t,_=Value.int n t from rv);exact⟨(n,t)::xs,rfl,rfl⟩
theorem u6 (hc:X.calm=true):eQ X (.builtin "sum") (λxs H Q=>∃(p:Addr) (ns:List Int),xs=[.ref p]/\SqL X.K H p (ns.map V.int)/\Q (.int ns.sum) H):=by
 intro pins s σ H xs us Q I r q;obtain⟨p,ns,rfl,h,q⟩:=q
 obtain⟨u,rfl,ru⟩:∃u,us=[u]/\RelV (.ref p) u:=by
   cases r with
   | cons r1 r=>cases r; exact⟨_,rfl,r1⟩
 cases (show u=Value.ref _ from ru);obtain⟨its,rv,pl,hz⟩:=I.list h;obtain⟨xs,rfl,hx⟩:=jx rv;refine sum_intListG (xs:=xs.toArray) (I.ok.hd hc) (by have:=pl.isList; simpa[intItems]using this) λh' tk t' k=>?_;refine⟨.int ns.sum,H,I.kept k,⟨t',?_⟩,q⟩;rw[List.size_toArray,preSum_eq,List.take_of_length_le (by simp),hx]
theorem yH (hc:X.calm=true)(ns:List Int){xs:List D}(hx:xs=ns.map .int):iz X (.builtin "sum") [.lst xs] (.d (.int ns.sum)):=⟨_,u6 hc,λM vs H Q _ d q=>by
 subst hx;cases d with
 | cons d r=>
   cases r;cases d with
   | lst h r=>
     cases nW r;exact⟨_,_,rfl,aO aN h,q _ H [] (ah.refl _) eI (iH .int)⟩⟩
theorem rG:OpR X (binaryOp .Add) (λx y H Q=>∃l b xs zs,x=.ref l/\y=.ref b/\SqL X.K H l xs/\SqL X.K H b zs/\xs.length+zs.length<=sizeLine/\∀p,H p=none->Q (.ref p) (upd H p (.lst (xs++zs)))):=by
 intro pins s σ H x y v u Q I rx ry h;obtain⟨l,b,xs,zs,rfl,rfl,hH,hB,hz,q⟩:=h;cases rx;cases ry;obtain⟨its,r,pl,_⟩:=I.list hH;obtain⟨its2,r2,pl2,_⟩:=I.list hB;have hl:=r.length;have hl2:=r2.length;obtain⟨⟨cls,dd,data,sl⟩,ho,hc,n,hd⟩:=pl.isList;obtain⟨⟨cls2,dd2,data2,sl2⟩,ho2,hc2,n2,hd2⟩:=pl2.isList;simp only at hc hd hc2 hd2;subst hc hd hc2 hd2;have e:its.toArray++its2.toArray=(its++its2).toArray:=by simp
 refine concat_meets ⟨_,ho,rfl⟩ ⟨_,ho2,rfl⟩ noFill_list_add seq_list_add PySem.F.slot_list_add PySem.F.entry_list_add (PySem.F.args_list_add_2 _ _) (list_addW l b its.toArray its2.toArray n n2 dd dd2 sl sl2 (by rw[List.size_toArray,List.size_toArray]; omega)) ⟨ho,ho2,?_⟩;rw[e];exact⟨.ref _,_,I.Di (t':=s.toks) (r.append r2) (by rw[List.length_append]; omega),rfl,q _ I.fresh⟩
theorem ql {xs ys:List D}(ha:PE X a (dE X.K C τ (.d (.lst xs))))(hb:PE X b (dE X.K C τ (.d (.lst ys))))(hl:xs.length+ys.length<1000000):PE X (.BinOp a .Add b pos) (dE X.K C τ (.o (xs++ys))):=peW (vA rG ha hb) λσ H Q ⟨A,H₀,B,S,k⟩=>
 aT S λv H1 e1 d1=>aT (S.mono e1) λw H2 e2 d2=>by
   cases d1 with
   | lst h1 r1=>cases d2 with
     | lst h2 r2=>refine⟨_,_,_,_,rfl,rfl,aO (aN.trans e2) h1,aO aN h2,by rw[r1.length,r2.length]; exact Nat.le_of_lt (Nat.lt_trans hl (by decide)),λp hp=>?_⟩;obtain⟨z1,z2,z3⟩:=jy (K:=X.K) hp ((r1.mono (av e2 λ_ z=>z)).append r2);exact k _ _ [p] (e1.trans (e2.trans z1)) (λb hb=>⟨(e1.trans e2).free (z2 b hb).1,(z2 b hb).2⟩) z3
theorem mkL (h:i.natAbs<2^60):aD i j:=.inl (by
 rcases Nat.eq_zero_or_pos i.natAbs with z | z
 . rw[z]; decide
 . exact Nat.lt_trans ((Nat.log2_lt (by omega)).mpr h) (by decide))
theorem mkR (h:j.natAbs<2^60):aD i j:=.inr (.inl (by
 rcases Nat.eq_zero_or_pos j.natAbs with z | z
 . rw[z]; decide
 . exact Nat.lt_trans ((Nat.log2_lt (by omega)).mpr h) (by decide)))
theorem mkD (h0:j≠0)(h:j.natAbs<2^62):aH j:=⟨h0,Nat.lt_trans ((Nat.log2_lt (by omega)).mpr h) (by decide)⟩
end
theorem aC {α:Type}{xs:List α}{i:Nat}{x:α}(h:xs[i]?=some x):atI xs (i:Int)=some x:=by unfold atI ixN;have:=(List.getElem?_eq_some_iff.mp h).1;rw[if_pos (by omega),if_pos (by omega)];simpa using h
theorem j5 {ns:List Int}{i:Int}(h0:0<=i)(h:i.toNat<ns.length):atI (ns.map D.int) i=some (.int (ns.getD i.toNat 0)):=by
 obtain⟨n,rfl⟩:=Int.eq_ofNat_of_zero_le h0
 exact aC (by
   have h:n<ns.length:=h;simp[h])
theorem iL {xs:List D}(n:Nat):cutD xs none (some (n:Int))=xs.take n:=by
 unfold cutD;rw[HT.ee,HT.gU,List.drop_zero,Nat.sub_zero];rcases Nat.le_total n xs.length with h | h
 . rw[Nat.min_eq_left h]
 . rw[Nat.min_eq_right h,List.take_of_length_le (Nat.le_refl _),List.take_of_length_le h]
theorem rM {xs:List D}(m n:Nat):cutD xs (some (m:Int)) (some (n:Int))=(xs.take n).drop m:=by
 unfold cutD;rw[HT.ee,HT.ee];rw[<- List.drop_take];rcases Nat.le_total n xs.length with h | h
 . rw[Nat.min_eq_left h];rcases Nat.le_total m xs.length with h' | h'
   . rw[Nat.min_eq_left h']
   . rw[Nat.min_eq_right h',List.drop_eq_nil_of_le (by simp; omega),List.drop_eq_nil_of_le (by simp; omega)]
 . rw[Nat.min_eq_right h,List.take_of_length_le (Nat.le_refl _),List.take_of_length_le h];rcases Nat.le_total m xs.length with h' | h'
   . rw[Nat.min_eq_left h']
   . rw[Nat.min_eq_right h',List.drop_eq_nil_of_le (Nat.le_refl _),List.drop_eq_nil_of_le h']
theorem getD_none {α:Type}{xs:List α}{i:Nat}{d:α}(h:xs.length<=i):xs.getD i d=d:=by simp[List.getD,h]
theorem ex1 {α:Type}{p:α->Prop}{a:α}(h:p a):∃a,p a:=⟨a,h⟩
theorem ex2 {α:Type}{p:α->α->Prop}{a b:α}(h:p a b):∃a b,p a b:=⟨a,b,h⟩
theorem ex3 {α:Type}{p:α->α->α->Prop}{a b c:α}(h:p a b c):∃a b c,p a b c:=⟨a,b,c,h⟩
end Hy
namespace L2
open PySem PySem.Spec PyProof.Rows PySem.SeqAt
section
variable {P:Program}{w:World}{A:Around}{E:Value->Shared->Prop}{s:Shared}
def HK (P:Program)(w:World)(A:Around)(h:Heap)(v:Value)(x:Int)(d:Nat):Prop:=∀(s:Shared) (E:Value->Shared->Prop) (Q:Int->Shared->Prop),s.heap=h->Q x { s with toks:=s.toks+d }->wpAny (model P w) A (pyHash v) Q E s
theorem sk {a:Addr}{u v:Value}{x y:Int}{m n:Nat}{Q:Int->Shared->Prop}(hu:A.units<cLine)(hk:IsTup s.heap a #[u,v])(h1:∀B,B.units<=A.units+1->HK P w B s.heap u x m)(h2:∀B,B.units<=A.units+1->HK P w B s.heap v y n)
   (h:Q (reduceHash (Builtin.Tuple.tupleHashOf [x,y])) { s with toks:=s.toks+(m+n+1) }):wpAny (model P w) A (pyHash (.ref a)) Q E s:=by
 obtain⟨o,ho,hc,k,hd⟩:=hk;have hT:s.TypeIs (.ref a) "tuple":=⟨o,ho,hc⟩;unfold pyHash;refine wpAny_bind (wpAny_cRoomFor_or (.inr hu) ?_);refine wpAny_bind (wpAny_specialOf hT F.slot_tuple_hash.lookup ?_);show wpAny _ _ (if (some (Value.builtin "tuple.__hash__")==some Value.none)=true then _ else _) Q E s;rw[if_neg (by rw[beq_builtin_none]; exact Bool.false_ne_true)];refine wpAny_bind (wpAny_specialOf hT F.slot_tuple_hash.lookup ?_);show wpAny _ _ (callSpecialIfBoundUnlessNone? (.ref a) "__hash__" _ >>= _) Q E s;refine wpAny_bind (wpAny_callSpecialIfBoundUnlessNone?_slot hT F.slot_tuple_hash (wpAny_call_entry F.slot_tuple_hash hT F.entry_tuple_hash ?_ (F.args_tuple_hash_1 _)));show wpAny _ _ (Builtin.Tuple.tupleItemsOf (.ref a) >>= _) _ _ s;refine wpAny_bind (wpAny_tupleItemsOf ho hd ?_);refine wpAny_bind ?_;rw[<- Array.forIn_toList]
 refine wpAny_forIn_list _
   (λrest (b:Array Int) s'=>(rest=[u,v]/\b=#[]/\s'=s)\/(rest=[v]/\b=#[x]/\s'={ s with toks:=s.toks+m })\/(rest=[]/\b=#[x,y]/\s'={ s with toks:=s.toks+(m+n) }))
   _ ?_ ?_ _ _ (.inl ⟨rfl,rfl,rfl⟩)
 . rintro z rest b s' (⟨e,rfl,rfl⟩ | ⟨e,rfl,rfl⟩ | ⟨e,_⟩)
   . cases e;refine wpAny_bind (h1 _ ?_ _ _ _ rfl ?_)
     . exact Nat.le_refl _
     . exact wpAny_pure (.inr (.inl ⟨rfl,rfl,rfl⟩))
   . cases e;refine wpAny_bind (h2 _ ?_ _ _ _ rfl ?_)
     . exact Nat.le_refl _
     . exact wpAny_pure (.inr (.inr ⟨rfl,rfl,by simp[Nat.add_assoc]⟩))
   . cases e
 . rintro b s' (⟨e,_⟩ | ⟨e,_⟩ | ⟨_,rfl,rfl⟩)
   . cases e
   . cases e
   show wpAny _ _ (retInt (Builtin.Tuple.tupleHashOf [x,y])) _ _ _;refine wpAny_ret_mkInt ?_;show wpAny _ _ (if (decide (-(2:Int)^63<=Builtin.Tuple.tupleHashOf [x,y])&&decide (Builtin.Tuple.tupleHashOf [x,y]<2^63))=true then _ else _) Q E _;unfold reduceHash at h;by_cases hr:(decide (-(2:Int)^63<=Builtin.Tuple.tupleHashOf [x,y])&&decide (Builtin.Tuple.tupleHashOf [x,y]<2^63))=true
   . rw[if_pos hr];rw[if_pos hr]at h;exact wpAny_pure (by simpa[Nat.add_assoc]using h)
   . rw[if_neg hr];rw[if_neg hr]at h;exact wpAny_bind (wpAny_rule (wpAny_pure (by simpa[Nat.add_assoc]using h)))
theorem p9 {a:Addr}{u v:Value}{n:Nat}{Q:Bool->Shared->Prop}(hk:IsTup s.heap a #[u,v])(h1:∀A E Q,Q true s->wpAny (model P w) A (eqIsQuiet n u) Q E s)(h2:∀A E Q,Q true s->wpAny (model P w) A (eqIsQuiet n v) Q E s)(h:Q true s):
   wpAny (model P w) A (eqIsQuiet (n+1) (.ref a)) Q E s:=by
 obtain⟨o,ho,hc,k,hd⟩:=hk;have hT:s.TypeIs (.ref a) "tuple":=⟨o,ho,hc⟩;unfold eqIsQuiet;refine wpAny_bind (wpAny_specialOf hT F.slot_tuple_eq.lookup ?_);show wpAny _ _ (isInstance (.ref a) (.type "tuple") >>= _) _ _ s;refine wpAny_bind (wpAny_isInstance hT isSubtype_tuple_tuple ?_);simp only[Bool.not_true,Bool.false_eq_true,if_false];refine wpAny_bind (wpAny_seqItems ho hd ?_);refine wpAny_bind ?_;show wpAny _ _ (forIn #[u,v] _ _) _ _ s;rw[<- Array.forIn_toList];refine wpAny_forIn_list _ (λrest r s'=>r.1=none/\s'=s/\∀z∈rest,z=u\/z=v) _ ?_ ?_ _ _ ⟨rfl,rfl,λz hz=>by simpa using hz⟩
 . rintro z rest r s' ⟨hr,rfl,hall⟩
   have hz:∀A E Q,Q true s'->wpAny (model P w) A (eqIsQuiet n z) Q E s':=by
     rcases hall z List.mem_cons_self with rfl | rfl
     . exact h1
     . exact h2
   refine wpAny_bind (hz _ _ _ ?_);simp only[Bool.not_true,Bool.false_eq_true,if_false];exact wpAny_pure ⟨rfl,rfl,λx hx=>hall x (List.mem_cons_of_mem _ hx)⟩
 . rintro⟨r1,r2⟩ s' ⟨hr,rfl,_⟩;simp only at hr;subst hr;exact wpAny_pure h
theorem wZ {a b:Addr}{u v u' v':Value}{p q:Bool}(hu:A.units<cLine)(ha:IsTup s.heap a #[u,v])(hb:IsTup s.heap b #[u',v'])(h1:EqAt A.in1 s u u' p)(h2:EqAt A.in1 s v v' q)(hs:a=b->(p&&q)=true):EqAt A s (.ref a) (.ref b) (p&&q):=by
 by_cases z:a=b
 . subst z;rw[hs rfl];exact .same _
 . have:=EqAt.of_refs z (RcAt.tuples (e:=λj=>if j=0 then p else q) ha hb hu λj j1 j2=>by
     match j,j1 with
     | 0,_=>exact h1
     | 1,_=>exact h2)
   have e:((List.range (min (#[u,v]:Array Value).size (#[u',v']:Array Value).size)).all (λj=>if j=0 then p else q)&&(#[u,v]:Array Value).size==(#[u',v']:Array Value).size)=(p&&q):=by show (p&&(q&&true)&&true)=(p&&q);cases p <;> cases q <;> rfl
   rw[e]at this;exact this
end
theorem jb {h:Heap}{a:Addr}{x y:Array Value}(p:IsTup h a x)(q:IsTup h a y):x=y:=by obtain⟨o,ho,_,n,hd⟩:=p;obtain⟨o',ho',_,n',hd'⟩:=q;rw[ho]at ho'; cases ho';rw[hd]at hd'; cases hd'; rfl
theorem q9 {h h':Heap}{a d:Addr}{x:Array Value}{o:Obj}{es ep}(p:IsTup h a x)(ho:h.get? d=some o)(hd:o.data=.dict es ep)(hs:Heap.SameBut d h h'):IsTup h' a x:=by
 obtain⟨o',ho',hc,n,hd'⟩:=p;have hne:a≠d:=by rintro rfl;rw[ho]at ho'; cases ho';rw[hd]at hd'; exact nomatch hd'
 exact⟨o',(hs.2 a hne).trans ho',hc,n,hd'⟩
structure IK (P:Program)(w:World)(K:Type)[DecidableEq K] where
 is:Heap->K->Value->Prop
 hash:K->Int
 draws:K->Nat
 dep:Nat
 inj:∀{h:Heap} {v:Value} {x y:K},is h x v->is h y v->x=y
 keeps:∀{h h':Heap} {k:K} {v:Value} {d:Addr} {o:Obj} {es ep},is h k v->h.get? d=some o->o.data=.dict es ep->Heap.SameBut d h h'->is h' k v
 hk:∀{A:Around} {h:Heap} {k:K} {v:Value},is h k v->A.units+dep<cLine->HK P w A h v (hash k) (draws k)
 eq:∀{A:Around} {s:Shared} {x y:K} {u v:Value},is s.heap x u->is s.heap y v->A.units+dep<cLine->EqAt A s u v (decide (x=y))
 quiet:∀{s:Shared} {k:K} {v:Value} {n:Nat},dep<n->is s.heap k v->∀A E Q,Q true s->wpAny (model P w) A (eqIsQuiet n v) Q E s
section
variable {P:Program}{w:World}
noncomputable def Ce:IK P w Int where
 is:=λ_ k v=>∃t,v=.int k t
 hash:=hashInt
 draws:=λ_=>1
 dep:=0
 inj:=λ⟨_,e⟩ ⟨_,g⟩=>by rw[e]at g; cases g; rfl
 keeps:=λh _ _ _=>h
 hk:=λ⟨_,e⟩ _ s E Q _ hq=>by rw[e]; exact wpAny_pyHash_int hq
 eq:=λ{A s x y u v} ⟨_,e⟩ ⟨_,g⟩ _=>by
   rw[e,g];have:decide (x=y)=(x==y):=by by_cases h:x=y <;> simp[h]
   rw[this];exact .int_int _ _ _ _
 quiet:=λ{s k v n} hn ⟨_,e⟩ A E Q q=>by obtain⟨m,rfl⟩:∃m,n=m+1:=⟨n-1,by omega⟩;rw[e];exact wpAny_pure q
variable {K K':Type}[DecidableEq K][DecidableEq K']
noncomputable def Ao (a:IK P w K)(b:IK P w K'):IK P w (K×K') where
 is:=λh k v=>∃p u u',v=.ref p/\IsTup h p #[u,u']/\a.is h k.1 u/\b.is h k.2 u'
 hash:=λk=>reduceHash (Builtin.Tuple.tupleHashOf [a.hash k.1,b.hash k.2])
 draws:=λk=>a.draws k.1+b.draws k.2+1
 dep:=max a.dep b.dep+1
 inj:=λ{h v x y} ⟨p,u,u',e,t,h1,h2⟩ ⟨p',v1,v2,e',t',g1,g2⟩=>by rw[e]at e';cases e';have q:=jb t t';simp only[Array.mk.injEq,List.cons.injEq,and_true]at q;obtain⟨rfl,rfl⟩:=q;exact Prod.ext (a.inj h1 g1) (b.inj h2 g2)
 keeps:=λ⟨p,u,u',e,t,h1,h2⟩ ho hd hs=>⟨p,u,u',e,q9 t ho hd hs,a.keeps h1 ho hd hs,b.keeps h2 ho hd hs⟩
 hk:=λ{A h k v} ⟨p,u,u',e,t,h1,h2⟩ hu s E Q eh hq=>by rw[e];subst eh;exact sk (by omega) t (λB hB=>a.hk h1 (by omega)) (λB hB=>b.hk h2 (by omega)) hq
 eq:=λ{A s x y u v} hx hy hu=>by
   obtain⟨p,u1,u2,e,t,h1,h2⟩:=id hx;obtain⟨p',v1,v2,e',t',g1,g2⟩:=id hy;have ed:decide (x=y)=(decide (x.1=y.1)&&decide (x.2=y.2)):=by obtain⟨x1,x2⟩:=x;obtain⟨y1,y2⟩:=y;rw[Bool.eq_iff_iff];simp
   rw[e,e',ed];refine wZ (by omega) t t' (a.eq h1 g1 (show A.units+1+a.dep<cLine by omega)) (b.eq h2 g2 (show A.units+1+b.dep<cLine by omega)) λz=>?_;subst z;have q:=jb t t';simp only[Array.mk.injEq,List.cons.injEq,and_true]at q;obtain⟨rfl,rfl⟩:=q;rw[a.inj h1 g1,b.inj h2 g2];simp
 quiet:=λ{s k v n} hn ⟨p,u,u',e,t,h1,h2⟩ A E Q q=>by obtain⟨m,rfl⟩:∃m,n=m+1:=⟨n-1,by omega⟩;rw[e];exact p9 t (a.quiet (by omega) h1) (b.quiet (by omega) h2) q
noncomputable def kindOf (a:IK P w K)(hd:a.dep<=7):HeapKind P w K where
 is:=λh k p=>a.is h k (.ref p)
 hash:=a.hash
 draws:=a.draws
 room:=λA=>A.units+8<cLine
 inj:=a.inj
 keeps:=a.keeps
 pyHash:=λ{A E s k p Q} hu hk h=>a.hk hk (by omega) s E Q rfl h
 eqBool:=λ{A E s x y p p' Q} hu hx hy h=>a.eq hx hy (by omega) _ _ _ _ h
 quiet:=λ{A E s k p Q} hk h=>a.quiet (by omega) hk A E Q h
end
inductive dF {K:Type}(R:K->Value->Prop):List K->List Value->Prop where
 | nil:dF R [] []
 | cons {x:K} {v:Value} {xs:List K} {vs:List Value} (h:R x v) (r:dF R xs vs):dF R (x::xs) (v::vs)
section
variable {K:Type}
theorem dF.mono {R S:K->Value->Prop}(f:∀x v,R x v->S x v):∀{xs:List K} {vs:List Value},dF R xs vs->dF S xs vs
 | _,_,.nil=>.nil
 | _,_,.cons h r=>.cons (f _ _ h) (r.mono f)
theorem dF.inj {R:K->Value->Prop}(f:∀x y v,R x v->R y v->x=y):∀{xs ys:List K} {vs:List Value},dF R xs vs->dF R ys vs->xs=ys
 | _,_,_,.nil,.nil=>rfl
 | _,_,_,.cons h r,.cons g q=>by rw[f _ _ _ h g,r.inj f q]
theorem dF.length {R:K->Value->Prop}:∀{xs:List K} {vs:List Value},dF R xs vs->xs.length=vs.length
 | _,_,.nil=>rfl
 | _,_,.cons _ r=>congrArg (·+1) r.length
theorem dF.at {R:K->Value->Prop}:∀{xs:List K} {vs:List Value},dF R xs vs->∀(j:Nat) (h1:j<xs.length) (h2:j<vs.length),R xs[j] vs[j]
 | _,_,.nil,_,h1,_=>absurd h1 (Nat.not_lt_zero _)
 | _,_,.cons h _,0,_,_=>h
 | _,_,.cons _ r,j+1,h1,h2=>r.at j (Nat.lt_of_succ_lt_succ h1) (Nat.lt_of_succ_lt_succ h2)
theorem dF.mem {R:K->Value->Prop}:∀{xs:List K} {vs:List Value},dF R xs vs->∀v∈vs,∃x,R x v
 | _,_,.nil,_,h=>nomatch h
 | _,_,.cons h r,v,hv=>(List.mem_cons.mp hv).elim (λz=>⟨_,z▸h⟩) (r.mem v)
theorem all_eq [DecidableEq K]{xs ys:List K}:((List.range (min xs.length ys.length)).all (λj=>decide (xs[j]?=ys[j]?))&&xs.length==ys.length)=decide (xs=ys):=by
 rw[Bool.eq_iff_iff];simp only[Bool.and_eq_true,List.all_eq_true,List.mem_range,decide_eq_true_eq,beq_iff_eq];constructor
 . rintro⟨h1,h2⟩;refine List.ext_getElem? λj=>?_;by_cases hj:j<xs.length
   . exact h1 j (by omega)
   . rw[List.getElem?_eq_none (by omega),List.getElem?_eq_none (by omega)]
 . rintro rfl;exact⟨λ_ _=>rfl,rfl⟩
end
section
variable {P:Program}{w:World}{K:Type}[DecidableEq K]
theorem rX {a:IK P w K}{A:Around}{E:Value->Shared->Prop}{s:Shared}{p:Addr}{its:List Value}{xs:List K}{Q:Int->Shared->Prop}(hu:A.units+(a.dep+1)<cLine)(hk:IsTup s.heap p its.toArray)(hs:dF (a.is s.heap) xs its)
   (h:Q (reduceHash (Builtin.Tuple.tupleHashOf (xs.map a.hash))) { s with toks:=s.toks+((xs.map a.draws).sum+1) }):wpAny (model P w) A (pyHash (.ref p)) Q E s:=by
 obtain⟨o,ho,hc,k,hd⟩:=hk;have hT:s.TypeIs (.ref p) "tuple":=⟨o,ho,hc⟩;unfold pyHash;refine wpAny_bind (wpAny_cRoomFor_or (.inr (by omega)) ?_);refine wpAny_bind (wpAny_specialOf hT F.slot_tuple_hash.lookup ?_);show wpAny _ _ (if (some (Value.builtin "tuple.__hash__")==some Value.none)=true then _ else _) Q E s;rw[if_neg (by rw[beq_builtin_none]; exact Bool.false_ne_true)];refine wpAny_bind (wpAny_specialOf hT F.slot_tuple_hash.lookup ?_);show wpAny _ _ (callSpecialIfBoundUnlessNone? (.ref p) "__hash__" _ >>= _) Q E s;refine wpAny_bind (wpAny_callSpecialIfBoundUnlessNone?_slot hT F.slot_tuple_hash (wpAny_call_entry F.slot_tuple_hash hT F.entry_tuple_hash ?_ (F.args_tuple_hash_1 _)));show wpAny _ _ (Builtin.Tuple.tupleItemsOf (.ref p) >>= _) _ _ s;refine wpAny_bind (wpAny_tupleItemsOf ho hd ?_);refine wpAny_bind ?_;rw[<- Array.forIn_toList]
 refine wpAny_forIn_list _
   (λrest (b:Array Int) s'=>∃(ks:List K) (n:Nat),dF (a.is s.heap) ks rest/\b.toList++ks.map a.hash=xs.map a.hash/\n+(ks.map a.draws).sum=(xs.map a.draws).sum/\s'={ s with toks:=s.toks+n })
   _ ?_ ?_ _ _ ⟨xs,0,hs,rfl,by omega,rfl⟩
 . rintro z rest b s' ⟨ks,n,hr,e1,e2,rfl⟩;cases hr with
   | @cons x _ ks' _ hx hr=>
     refine wpAny_bind (a.hk hx (show A.units+1+a.dep<cLine by omega) _ _ _ rfl ?_);refine wpAny_pure ⟨ks',n+a.draws x,hr,?_,?_,by simp[Nat.add_assoc]⟩
     . simpa using e1
     . rw[List.map_cons,List.sum_cons]at e2;omega
 . rintro b s' ⟨ks,n,hr,e1,e2,rfl⟩;cases hr;rw[List.map_nil,List.append_nil]at e1;rw[List.map_nil,List.sum_nil,Nat.add_zero]at e2;subst e2;show wpAny _ _ (retInt (Builtin.Tuple.tupleHashOf b.toList)) _ _ _;rw[e1];refine wpAny_ret_mkInt ?_;show wpAny _ _ (if (decide (-(2:Int)^63<=Builtin.Tuple.tupleHashOf (xs.map a.hash))&&decide (Builtin.Tuple.tupleHashOf (xs.map a.hash)<2^63))=true then _ else _) Q E _;unfold reduceHash at h;by_cases hr:(decide (-(2:Int)^63<=Builtin.Tuple.tupleHashOf (xs.map a.hash))&&decide (Builtin.Tuple.tupleHashOf (xs.map a.hash)<2^63))=true
   . rw[if_pos hr];rw[if_pos hr]at h;exact wpAny_pure (by simpa[Nat.add_assoc]using h)
   . rw[if_neg hr];rw[if_neg hr]at h;exact wpAny_bind (wpAny_rule (wpAny_pure (by simpa[Nat.add_assoc]using h)))
theorem pg {A:Around}{E:Value->Shared->Prop}{s:Shared}{p:Addr}{its:List Value}{n:Nat}{Q:Bool->Shared->Prop}(hk:IsTup s.heap p its.toArray)(h1:∀z∈its,∀A E Q,Q true s->wpAny (model P w) A (eqIsQuiet n z) Q E s)(h:Q true s):
   wpAny (model P w) A (eqIsQuiet (n+1) (.ref p)) Q E s:=by
 obtain⟨o,ho,hc,k,hd⟩:=hk;have hT:s.TypeIs (.ref p) "tuple":=⟨o,ho,hc⟩;unfold eqIsQuiet;refine wpAny_bind (wpAny_specialOf hT F.slot_tuple_eq.lookup ?_);show wpAny _ _ (isInstance (.ref p) (.type "tuple") >>= _) _ _ s;refine wpAny_bind (wpAny_isInstance hT isSubtype_tuple_tuple ?_);simp only[Bool.not_true,Bool.false_eq_true,if_false];refine wpAny_bind (wpAny_seqItems ho hd ?_);refine wpAny_bind ?_;show wpAny _ _ (forIn its.toArray _ _) _ _ s;rw[<- Array.forIn_toList];refine wpAny_forIn_list _ (λrest r s'=>r.1=none/\s'=s/\∀z∈rest,z∈its) _ ?_ ?_ _ _ ⟨rfl,rfl,λz hz=>by simpa using hz⟩
 . rintro z rest r s' ⟨hr,rfl,hall⟩;refine wpAny_bind (h1 z (hall z List.mem_cons_self) _ _ _ ?_);simp only[Bool.not_true,Bool.false_eq_true,if_false];exact wpAny_pure ⟨rfl,rfl,λx hx=>hall x (List.mem_cons_of_mem _ hx)⟩
 . rintro⟨r1,r2⟩ s' ⟨hr,rfl,_⟩;simp only at hr;subst hr;exact wpAny_pure h
noncomputable def AX (a:IK P w K):IK P w (List K) where
 is:=λh ks v=>∃p its,v=.ref p/\IsTup h p its.toArray/\dF (a.is h) ks its
 hash:=λks=>reduceHash (Builtin.Tuple.tupleHashOf (ks.map a.hash))
 draws:=λks=>(ks.map a.draws).sum+1
 dep:=a.dep+1
 inj:=λ{h v x y} ⟨p,its,e,t,r⟩ ⟨p',its',e',t',r'⟩=>by rw[e]at e';cases e';have q:its=its':=congrArg Array.toList (jb t t');subst q;exact dF.inj (R:=a.is h) (λ_ _ _ z1 z2=>a.inj z1 z2) r r'
 keeps:=λ⟨p,its,e,t,r⟩ ho hd hs=>⟨p,its,e,q9 t ho hd hs,r.mono λ_ _ z=>a.keeps z ho hd hs⟩
 hk:=λ{A h k v} ⟨p,its,e,t,r⟩ hu s E Q eh hq=>by rw[e];subst eh;exact rX hu t r hq
 eq:=λ{A s x y u v} hx hy hu=>by
   obtain⟨p,its,e,t,r⟩:=id hx;obtain⟨p',its',e',t',r'⟩:=id hy;rw[e,e'];by_cases z:p=p'
   . subst z;have q:its=its':=congrArg Array.toList (jb t t');subst q;rw[decide_eq_true (dF.inj (R:=a.is s.heap) (λ_ _ _ z1 z2=>a.inj z1 z2) r r')];exact .same _
   . have:=EqAt.of_refs z (RcAt.tuples (e:=λj=>decide (x[j]?=y[j]?)) t t' (show A.units<cLine by omega) λj j1 j2=>by
       have l1:j<x.length:=by rw[r.length]; simpa using j1
       have l2:j<y.length:=by rw[r'.length]; simpa using j2
       rw[List.getElem?_eq_getElem l1,List.getElem?_eq_getElem l2];have:=a.eq (A:=A.in1) (r.at j l1 (by simpa using j1)) (r'.at j l2 (by simpa using j2)) (show A.units+1+a.dep<cLine by omega);simpa using this)
     have el:(its.toArray.size,its'.toArray.size)=(x.length,y.length):=by rw[r.length,r'.length]; simp
     have e1:its.toArray.size=x.length:=congrArg Prod.fst el;have e2:its'.toArray.size=y.length:=congrArg Prod.snd el;rw[e1,e2,all_eq]at this;exact this
 quiet:=λ{s k v n} hn ⟨p,its,e,t,r⟩ A E Q q=>by obtain⟨m,rfl⟩:∃m,n=m+1:=⟨n-1,by omega⟩;rw[e];refine pg t (λz hz=>?_) q;obtain⟨x,hx⟩:=r.mem z hz;exact a.quiet (by omega) hx
end
end L2
namespace Ev
open PySem PySem.Spec PyProof.Rows L2
structure KD (K:Type)[DecidableEq K] where
 ik:∀(P:Program) (w:World),IK P w K
 dep:Nat
 dep_ok:∀P w,(ik P w).dep=dep
 toD:K->D
 den:∀{X:Cx} {pins:List (Addr×Obj)} {σ:L2.St} {H:Hp} {s:Shared} {v:V} {u:Value} {k:K},Inv X pins σ H s->Den X.K H v (toD k)->RelV v u->(ik X.prog X.w).is s.heap k u
noncomputable def Cs:KD Int where
 ik:=λ_ _=>Ce
 dep:=0
 dep_ok:=λ_ _=>rfl
 toD:=.int
 den:=λ_ d r=>by cases d; exact r
section
variable {K K':Type}[DecidableEq K][DecidableEq K']
noncomputable def AM (a:KD K)(b:KD K'):KD (K×K') where
 ik:=λP w=>Ao (a.ik P w) (b.ik P w)
 dep:=max a.dep b.dep+1
 dep_ok:=λP w=>by show max (a.ik P w).dep (b.ik P w).dep+1=_; rw[a.dep_ok,b.dep_ok]
 toD:=λk=>.tup [a.toD k.1,b.toD k.2]
 den:=λ{X pins σ H s v u k} I d r=>by
   cases d with
   | tup h q=>
     cases (show u=Value.ref _ from r);obtain⟨its,rv,t,_⟩:=I.tuple h;cases q with
     | cons d1 q=>cases q with
       | cons d2 q=>cases q with
         | nil=>cases rv with
           | cons r1 rv=>cases rv with
             | cons r2 rv=>cases rv with
               | nil=>exact⟨_,_,_,rfl,t,a.den I d1 r1,b.den I d2 r2⟩
theorem ot (a:KD K){X:Cx}{pins:List (Addr×Obj)}{σ:L2.St}{H:Hp}{s:Shared}(I:Inv X pins σ H s):∀{ks:List K} {vs:List V} {us:List Value},aq X.K H vs (ks.map a.toD)->Vals vs us->dF ((a.ik X.prog X.w).is s.heap) ks us
 | [],_,_,.nil,.nil=>.nil
 | _::_,_,_,.cons d r,.cons q t=>.cons (a.den I d q) (ot a I r t)
noncomputable def AE (a:KD K):KD (List K) where
 ik:=λP w=>AX (a.ik P w)
 dep:=a.dep+1
 dep_ok:=λP w=>by show (a.ik P w).dep+1=_; rw[a.dep_ok]
 toD:=λks=>.tup (ks.map a.toD)
 den:=λ{X pins σ H s v u k} I d r=>by
   generalize e:D.tup (k.map a.toD)=x at d;cases d with
   | tup h q=>cases e;cases (show u=Value.ref _ from r);obtain⟨its,rv,t,_⟩:=I.tuple h;exact⟨_,its,rfl,t,ot a I q rv⟩
   | _=>cases e
noncomputable abbrev NEs (K:Type):=List (K×Addr×Value)
noncomputable def kd (a:KD K)(hd:a.dep<=7)(P:Program)(w:World):HeapKind P w K:=kindOf (a.ik P w) (by rw[a.dep_ok]; exact hd)
variable {a:KD K}{hd:a.dep<=7}
noncomputable def dNk (a:KD K)(hd:a.dep<=7)(P:Program)(w:World)(p:Addr)(xs:NEs K):HO:=.ext λh=>(p==sysModules)=false/\∃o es ep,h.get? p=some o/\o.ExactDict/\o.data=.dict es ep/\es.toList=xs.map (entryOfKey (kd a hd P w))/\(xs.map (·.1)).Nodup
structure fO (a:KD K)(hd:a.dep<=7)(P:Program)(w:World)(F:PySem.W.Frag)(H:Hp)(d:Addr)(xs:NEs K):Prop where
 at_:H d=some (dNk a hd P w d xs)
 key:∀x∈xs,Den F H (.ref x.2.1) (a.toD x.1)
variable {X:Cx}{pins:List (Addr×Obj)}{σ:L2.St}{H:Hp}{s:Shared}{d b:Addr}{xs:NEs K}{k:K}{A:Around}
theorem key_is (I:Inv X pins σ H s)(q:Den X.K H (.ref b) (a.toD k)):(kd a hd X.prog X.w).is s.heap k b:=a.den I q rfl
theorem uo (I:Inv X pins σ H s)(D:fO a hd X.prog X.w X.K H d xs):(d==sysModules)=false/\s.heap.DictOfH (kd a hd X.prog X.w) d xs:=by obtain⟨⟨h0,o,es,ep,h1,h2,h3,h4,h5⟩,_⟩:=(show bA X.prog X.w H s.heap d (dNk a hd X.prog X.w d xs) from I.hok d _ D.at_);exact⟨h0,o,es,ep,h1,h2,h3,h4,λx hx=>key_is I (D.key x hx),h5⟩
def CG (a:KD K)(hd:a.dep<=7)(P:Program)(w:World)(F:PySem.W.Frag)(td ty:TE):TE:=λσ H Q=>td σ H λx H1=>ty σ H1 λy H2=>∃d b k xs p v,x=.ref d/\y=.ref b/\fO a hd P w F H2 d xs/\Den F H2 (.ref b) (a.toD k)/\atKey xs k=some p/\RelV v p.2/\Q v H2
def Bt (a:KD K)(hd:a.dep<=7)(P:Program)(w:World)(F:PySem.W.Frag)(td ty tv:TE):TS:=λD σ H=>tv σ H λv H1=>td σ H1 λx H2=>ty σ H2 λy H3=>∃d b k xs,x=.ref d/\y=.ref b/\fO a hd P w F H3 d xs/\Den F H3 (.ref b) (a.toD k)/\xs.length<=sizeLine/\∀u,RelV v u->D.nx σ (upd H3 d (dNk a hd P w d (storedH xs k b u)))
def BY (a:KD K)(hd:a.dep<=7)(P:Program)(w:World):TE:=λ_ H Q=>∀p,H p=none->Q (.ref p) (upd H p (dNk a hd P w p []))
variable {o i value:Expr}{pos pos':Pos}{td ty tv:TE}
theorem gz (hu:X.A.units+16<cLine)(ho:PE X o td)(hi:PE X i ty)(hs:kn i):PE X (.Subscript o i pos) (CG a hd X.prog X.w X.K td ty):=by intro pins s σ H Q I h;refine lE PySem.F.slot_dict_getitem.lookup hs (thn (ho pins s σ H _ I h) λu s1 ⟨x,H1,I1,rx,q1⟩=>thn (hi pins s1 σ H1 _ I1 q1) λiv s2 ⟨y,H2,I2,ry,d,b,k,xs,p,v,ex,ey,D,g,hp,rv,q2⟩=>?_);subst ex ey;obtain rfl:u=Value.ref d:=rx;obtain rfl:iv=Value.ref b:=ry;obtain⟨_,dd⟩:=uo I2 D;exact⟨dd.typeIs,wpAny_getItem_heap (show X.A.units+1+8<cLine by omega) (key_is I2 g) dd hp ⟨v,H2,I2.tok _,rv,q2⟩⟩
theorem l9 (hu:X.A.units+16<cLine)(ho:PE X o td)(hi:PE X i ty)(hv:PE X value tv)(hs:swapsWith value (some (.Subscript o i pos')) pos.line X.env=pure false):
   PS X (.Assign [.Subscript o i pos'] value pos) (Bt a hd X.prog X.w X.K td ty tv):=by
 intro pins s σ H D I h;refine wpAny_Assign_Subscript (thn (hv pins s σ H _ I h) λr s1 ⟨v,H1,I1,rv,q1⟩=>thn (ho pins s1 σ H1 _ I1 q1) λu s2 ⟨x,H2,I2,rx,q2⟩=>thn (hi pins s2 σ H2 _ I2 q2) λiv s3 ⟨y,H3,I3,ry,d,b,k,xs,ex,ey,D',g,hl,q3⟩=>?_) hs;subst ex ey;obtain rfl:u=Value.ref d:=rx;obtain rfl:iv=Value.ref b:=ry;obtain⟨hd',dd⟩:=uo I3 D';refine wpAny_setItem_heap (hsz:=hl) (show X.A.units+1+8<cLine by omega) (key_is I3 g) dd λh' dd' hs=>⟨σ,_,?_,q3 r rv⟩;obtain⟨q,es,ep,hq,h2,h3,h4,_,h5⟩:=dd';refine eN I3 (by rw[D'.at_]; exact True.intro) hs ⟨q,hq⟩ ⟨⟨hd',q,es,ep,hq,h2,h3,h4,h5⟩,⟨q,hq⟩,λa1 a2 ⟨z0,o,es,ep,z1,z2⟩ hk=>⟨z0,o,es,ep,hk o z1,z2⟩⟩
theorem lX:PE X (.Dict [] [] pos) (BY a hd X.prog X.w):=λpins s σ H Q I h=>
 wpAny_Dict_empty ⟨.ref s.heap.objs.size,_,I.laid (a:=s.heap.objs.size) (o:=dNk a hd X.prog X.w s.heap.objs.size []) (t':=s.toks) (λ_ _ q=>Heap.get?_push_of_some _ q) (Nat.le_refl _)
   ⟨⟨beq_eq_false_iff_ne.mpr (Ne.symm (Nat.ne_of_lt I.big)),_,#[],0,Heap.get?_push_size _ rfl,⟨rfl,rfl,rfl⟩,rfl,rfl,List.nodup_nil⟩,⟨_,Heap.get?_push_size _ rfl⟩,λa1 a2 ⟨z0,o,es,ep,z1,z2⟩ hk=>⟨z0,o,es,ep,hk o z1,z2⟩⟩,rfl,h _ (I.hok.fresh (Nat.le_refl _))⟩
end
end Ev
namespace Hy
open PySem PySem.Spec PyProof.Rows L2
open Ev (D Den aq KD NEs dNk fO)
section
variable {K:Type}[DecidableEq K]
inductive EnK (a:KD K)(F:PySem.W.Frag)(G:Hp):NEs K->List (K×D)->Prop where
 | nil:EnK a F G [] []
 | cons {k:K} {b:Addr} {u:Value} {v:V} {x:D} {xs:NEs K} {m:List (K×D)} (hk:Den F G (.ref b) (a.toD k)) (hr:RelV v u) (hv:Den F G v x) (r:EnK a F G xs m):EnK a F G ((k,b,u)::xs) ((k,x)::m)
variable {a:KD K}{F:PySem.W.Frag}{G G':Hp}
theorem EnK.mono (e:ah G G'):∀{xs:NEs K} {m:List (K×D)},EnK a F G xs m->EnK a F G' xs m
 | _,_,.nil=>.nil
 | _,_,.cons h1 h2 h3 r=>.cons (h1.mono e) h2 (h3.mono e) (r.mono e)
theorem EnK.length:∀{xs:NEs K} {m:List (K×D)},EnK a F G xs m->xs.length=m.length
 | _,_,.nil=>rfl
 | _,_,.cons _ _ _ r=>congrArg (·+1) r.length
theorem EnK.key:∀{xs:NEs K} {m:List (K×D)},EnK a F G xs m->∀x∈xs,Den F G (.ref x.2.1) (a.toD x.1)
 | _,_,.nil,_,h=>nomatch h
 | _,_,.cons h _ _ r,x,hx=>(List.mem_cons.mp hx).elim (λz=>z▸h) (r.key x)
noncomputable def getM (m:List (K×D))(k:K):Option D:=(m.find? λx=>decide (x.1=k)).map (·.2)
noncomputable def eX (m:List (K×D))(k:K)(x:D):List (K×D):=if (getM m k).isSome then m.map λy=>if y.1=k then (y.1,x) else y else m++[(k,x)]
theorem EnK.at:∀{xs:NEs K} {m:List (K×D)},EnK a F G xs m->∀k,match getM m k with
   | none=>atKey xs k=none
   | some x=>∃p v,atKey xs k=some p/\RelV v p.2/\Den F G v x
 | _,_,.nil,_=>rfl
 | _,_,.cons (k:=k') (x:=y) (m:=m) (xs:=xs) h1 h2 h3 r,k=>by
   have ih:=r.at k;unfold getM atKey at *
   by_cases e:k'=k
   . simp only[List.find?_cons,e,decide_true,Option.map_some];exact⟨_,_,rfl,h2,h3⟩
   . simp only[List.find?_cons,e,decide_false];exact ih
theorem EnK.isSome {xs:NEs K}{m:List (K×D)}(h:EnK a F G xs m)(k:K):(atKey xs k).isSome=(getM m k).isSome:=by
 have:=h.at k;cases e:getM m k with
 | none=>rw[e]at this; simp only at this; rw[this]; rfl
 | some x=>rw[e]at this; obtain⟨p,v,h1,_⟩:=this; rw[h1]; rfl
theorem EnK.snoc {k:K}{b:Addr}{u:Value}{v:V}{x:D}(h1:Den F G (.ref b) (a.toD k))(h2:RelV v u)(h3:Den F G v x):∀{xs:NEs K} {m:List (K×D)},EnK a F G xs m->EnK a F G (xs++[(k,b,u)]) (m++[(k,x)])
 | _,_,.nil=>.cons h1 h2 h3 .nil
 | _,_,.cons g1 g2 g3 r=>.cons g1 g2 g3 (r.snoc h1 h2 h3)
theorem EnK.over {k:K}{u:Value}{v:V}{x:D}(h2:RelV v u)(h3:Den F G v x):∀{xs:NEs K} {m:List (K×D)},EnK a F G xs m->EnK a F G (xs.map (putAt k u)) (m.map λy=>if y.1=k then (y.1,x) else y)
 | _,_,.nil=>.nil
 | _,_,.cons (k:=k') g1 g2 g3 r=>by
   rw[List.map_cons,List.map_cons];unfold putAt;by_cases e:k'=k
   . simp only[e,if_true];rw[e]at g1;exact .cons g1 h2 h3 (r.over h2 h3)
   . simp only[e,if_false];exact .cons g1 g2 g3 (r.over h2 h3)
theorem EnK.put {k:K}{b:Addr}{u:Value}{v:V}{x:D}{xs:NEs K}{m:List (K×D)}(h:EnK a F G xs m)(h1:Den F G (.ref b) (a.toD k))(h2:RelV v u)(h3:Den F G v x):EnK a F G (storedH xs k b u) (eX m k x):=by
 unfold storedH eX;rw[h.isSome k];split
 . exact h.over h2 h3
 . exact h.snoc h1 h2 h3
noncomputable def exK (a:KD K)(hd:a.dep<=7)(P:Program)(w:World)(m:List (K×D)):Ex where
 p:=λF G o p=>∃xs,o=dNk a hd P w p xs/\EnK a F G xs m
 mono:=λe ⟨xs,h1,h2⟩=>⟨xs,h1,h2.mono e⟩
 ext:=λ⟨xs,h1,_⟩=>.inl ⟨_,h1⟩
end
end Hy
namespace Hy
open PySem PySem.Spec PyProof.Rows L2
open Ev (D Den aq KD NEs dNk fO ai gz lX l9)
section
variable {K:Type}[DecidableEq K]{a:KD K}{hd:a.dep<=7}{X:Cx}{C:Bool}{τ:List Sl}{x:D}{b ix:Expr}{pos p q:Pos}{k:Nat}{N:Po}{m:List (K×D)}{key:K}
theorem pJ:PE X (.Dict [] [] pos) (dE X.K C τ (.x (exK a hd X.prog X.w []))):=peW lX λσ H Q ⟨A,H₀,B,S,k⟩=>λp hp=>k (.ref p) _ [p] (ai hp _) (λb hb=>by rw[List.mem_singleton.mp hb]; exact⟨hp,_,aB⟩) ⟨p,_,rfl,rfl,aB,[],rfl,.nil⟩
theorem Sta.dct {F:PySem.W.Frag}{P:Program}{w:World}{A:Addr->Prop}{H₀ H:Hp}{B:Nat->List Addr}{σ:L2.St}{i:Nat}(S:Sta F A H₀ τ B σ H)(hi:τ[i]?=some (.x (exK a hd P w m))):∃d xs,(σ[i]?).join=some (.ref d)/\B i=[d]/\H d=some (dNk a hd P w d xs)/\EnK a F (Hy.hd H (own A B)) xs m:=by obtain⟨d,o,h1,h2,h3,xs,rfl,h5⟩:=S.sl i _ hi;exact⟨d,xs,h2,h1,h3,h5⟩
theorem pV (i:Nat){n:Str}(hu:X.A.units+16<cLine)(hi:τ[i]?=some (.x (exK a hd X.prog X.w m)))(hk:PE X ix (dE X.K false τ (.d (a.toD key))))(hx:getM m key=some x)(hr:∀H v,Den X.K H v (a.toD key)->∃b,v=.ref b)(hs:kn ix)(hN:X.N[i]?=some n:=by rfl)
   (hv:Vis X.env.scope n:=by first | exact Or.inl rfl | exact Or.inr (Or.inl rfl) | exact Or.inr (Or.inr rfl)) (hd1:(n==("__debug__" : Str))=false:=by decide) (hcd:(n==("__classdict__" : Str))=false:=by decide):PE X (.Subscript (.Name n p) ix pos) (dE X.K C τ (.d x)):=
 peW (gz (a:=a) (hd:=hd) hu (bI (i:=i) hN hv hd1 hcd) hk hs) λσ H Q q=>by obtain⟨A,H₀,B,S,kk⟩:=c9 q;obtain⟨d,xs,e1,e2,e3,e4⟩:=S.dct hi;refine⟨_,slot_of e1,aT S λy H2 e5 dy=>?_⟩;obtain⟨b,rfl⟩:=hr _ _ dy;have S2:=S.mono e5;obtain⟨d',xs',g1,g2,g3,g4⟩:=S2.dct hi;rw[e1]at g1;cases g1;have:=g4.at key;rw[hx]at this;obtain⟨pp,v,h1,h2,h3⟩:=this;exact⟨d,b,key,xs',pp,v,rfl,rfl,⟨g3,λz hz=>(g4.key z hz).mono aN⟩,dy.mono aN,h1,h2,kk v H2 e5 (h3.mono (av (ah.refl _) λ_ z=>iB z))⟩
end
section
variable {K:PySem.W.Frag}{A:Addr->Prop}{H₀ H:Hp}{τ:List Sl}{B:Nat->List Addr}{σ:L2.St}
theorem Sta.x6 (S:Sta K A H₀ τ B σ H){i:Nat}{a:Addr}{E E':Ex}{o':HO}(hi:τ[i]?=some (.x E))(hB:B i=[a])(d:E'.p K (hd H (own A B)) o' a):Sta K A H₀ (τ.set i (.x E')) B σ (upd H a o'):=by
 have ha:own A B a:=.inr ⟨i,by rw[hB]; exact List.mem_singleton.mpr rfl⟩;have ne:∀b,b≠a->upd H a o' b=H b:=λb h=>au h;have sm:ah (hd H (own A B)) (hd (upd H a o') (own A B)):=λb o z=>by obtain⟨z1,z2⟩:=ag.mp z;exact ag.mpr ⟨z1,by rw[ne b (λe=>z1 (e▸ha))]; exact z2⟩
 have f0:H₀ a=none:=S.fr i a (by rw[hB]; exact List.mem_singleton.mpr rfl);have hs:ah H₀ (upd H a o'):=λb o z=>by rw[ne b (λe=>by rw[e,f0]at z; cases z)]; exact S.same b o z
 refine⟨hs,by rw[List.length_set,S.len],λj t hj=>?_,S.fr,S.uq,S.ad,λj b hb=>?_⟩
 . by_cases ej:j=i
   . subst ej;have hl:=(List.getElem?_eq_some_iff.mp hi).1;rw[List.getElem?_set_self hl]at hj;cases hj;obtain⟨a',o,e1,e2,_,_⟩:=S.sl j _ hi;rw[hB]at e1;cases e1;exact⟨a,o',hB,e2,aB,E'.mono sm d⟩
   . rw[List.getElem?_set_ne (λz=>ej z.symm)]at hj;have off:∀b∈B j,b≠a:=λb hb e=>ej (S.uq j i a (e▸hb) (by rw[hB]; exact List.mem_singleton.mpr rfl));have q:=S.sl j t hj;cases t with
     | un=>exact q
     | d x=>obtain⟨z,u,e,d⟩:=q; exact⟨z,u,e,d.mono sm⟩
     | o zs=>obtain⟨c,ws,z1,z2,z3,z4⟩:=q;exact⟨c,ws,z1,z2,by rw[ne c (off c (by rw[z1]; exact List.mem_singleton.mpr rfl))]; exact z3,z4.mono sm⟩
     | n t=>obtain⟨z0,u,z1,z2⟩:=q;exact⟨z0,u,z1,z2.frame sm λb hb=>ne b (off b hb)⟩
     | x E=>obtain⟨c,o,z1,z2,z3,z4⟩:=q;exact⟨c,o,z1,z2,by rw[ne c (off c (by rw[z1]; exact List.mem_singleton.mpr rfl))]; exact z3,E.mono sm z4⟩
 . by_cases e:b=a
   . subst e; exact⟨_,aB⟩
   . rw[ne b e]; exact S.bd j b hb
end
section
variable {K:Type}[DecidableEq K]{a:KD K}{hd:a.dep<=7}{X:Cx}{τ:List Sl}{x:D}{b e ix:Expr}{pos p sp:Pos}{N:Po}{rest:List Stmt}{m:List (K×D)}{key:K}
theorem my (i:Nat){n:Str}(hu:X.A.units+16<cLine)(hi:τ[i]?=some (.x (exK a hd X.prog X.w m)))(hk:PE X ix (dE X.K true τ (.d (a.toD key))))(he:PE X e (dE X.K true τ (.d x)))(hl:m.length<=sizeLine)(hr:∀H v,Den X.K H v (a.toD key)->∃b,v=.ref b)
   (hn:PSs X rest (dS X.K (τ.set i (.x (exK a hd X.prog X.w (eX m key x)))) N)) (hN:X.N[i]?=some n:=by rfl)
   (hv:Vis X.env.scope n:=by first | exact Or.inl rfl | exact Or.inr (Or.inl rfl) | exact Or.inr (Or.inr rfl)) (hd1:(n==("__debug__" : Str))=false:=by decide) (hcd:(n==("__classdict__" : Str))=false:=by decide)
   (hs:swapsWith e (some (.Subscript (.Name n p) ix sp)) pos.line X.env=pure false:=by rfl):PSs X (.Assign [.Subscript (.Name n p) ix sp] e pos::rest) (dS X.K τ N):=
 bf (M:=(·=τ.set i (.x (exK a hd X.prog X.w (eX m key x))))) (psW (l9 (a:=a) (hd:=hd) hu (bI (i:=i) hN hv hd1 hcd) hk he hs) λD σ H ⟨A,H₀,B,S,Me⟩=>aT S λv H1 e1 d1=>by
   have S1:=S.mono e1;obtain⟨d,xs,g1,_⟩:=S1.dct hi;refine⟨_,slot_of g1,aT S1 λy H2 e2 dy=>?_⟩;obtain⟨b,rfl⟩:=hr _ _ dy;have S2:=S1.mono e2;obtain⟨d',xs',h1,h2,h3,h4⟩:=S2.dct hi;rw[g1]at h1;cases h1;have d1':=d1.mono (av e2 λ_ z=>z);exact⟨d,b,key,xs',rfl,rfl,⟨h3,λz hz=>(h4.key z hz).mono aN⟩,dy.mono aN,by rw[h4.length]; exact hl,λu hu=>Me.nx _ _ _ _ rfl (S2.x6 hi h2 ⟨_,rfl,h4.put dy hu d1'⟩)⟩) λ_ e=>e▸hn
end
end Hy
namespace Hy
open PySem PySem.Spec PyProof.Rows L2
open Ev (D Den aq Bx ai bL Itk uT nP Itd iDn yf)
noncomputable def eY (kv:List (Int×Int))(k v:Int):List (Int×Int):=if (kv.any λp=>decide (p.1=k))=true then kv.map (λp=>if p.1=k then (p.1,v) else p) else kv++[(k,v)]
noncomputable def bP (kv:List (Int×Int))(k:Int):Option Int:=(kv.find? λp=>decide (p.1=k)).map (·.2)
theorem wQ (kv:List (Int×Int))(k:Int):((bL kv).any λp=>decide (p.1=.inl k))=kv.any λp=>decide (p.1=k):=by unfold bL;rw[List.any_map];congr 1;funext p;simp
theorem rn (kv:List (Int×Int))(k v:Int):putK (bL kv) (.inl k) (.int v)=bL (eY kv k v):=by
 unfold putK eY;rw[wQ];by_cases h:(kv.any λp=>decide (p.1=k))=true
 . rw[if_pos h,if_pos h];unfold bL;rw[List.map_map,List.map_map];refine List.map_congr_left λp _=>?_;simp only[Function.comp];by_cases z:p.1=k
   . rw[if_pos (congrArg Sum.inl z),if_pos z]
   . rw[if_neg (λy=>z (Sum.inl.inj y)),if_neg z]
 . rw[if_neg h,if_neg h];unfold bL;rw[List.map_append];rfl
theorem gk:∀(kv:List (Int×Int)) (k:Int),eE (bL kv) (.inl k)=(bP kv k).map V.int
 | [],_=>rfl
 | p::r,k=>by
   unfold bP;by_cases z:p.1=k
   . rw[List.find?_cons_of_pos (by simp[z])];exact bW (p:=(Sum.inl p.1,V.int p.2)) (congrArg Sum.inl z)
   . rw[List.find?_cons_of_neg (by simp[z])];exact(bV (p:=(Sum.inl p.1,V.int p.2)) (λy=>z (Sum.inl.inj y))).trans (gk r k)
theorem wg (kv:List (Int×Int))(k v:Int):(eY kv k v).length<=kv.length+1:=by
 unfold eY;split
 . rw[List.length_map]; omega
 . rw[List.length_append,List.length_cons,List.length_nil]; omega
noncomputable def exZ (m:List (Int×Int)):Ex where
 p:=λ_ _ o _=>o=.dK (bL m)
 mono:=λ_ h=>h
 ext:=λh=>.inr (.inr ⟨_,.inl h⟩)
noncomputable def exF (ob:Obj)(m:List (Int×Int)):Ex where
 p:=λ_ _ o _=>o=.frz ob (.dK (bL m))
 mono:=λ_ h=>h
 ext:=λh=>.inr (.inr ⟨_,.inr ⟨_,h⟩⟩)
noncomputable def bxZ (m:List (Int×Int)):Bx where
 p:=λ_ H d=>∃o,H d=some (.frz o (.dK (bL m)))
 mono:=λe ⟨o,h⟩=>⟨o,e _ _ h⟩
 isd:=λ⟨o,h⟩=>⟨_,h,λP w H' h z=>by
   obtain⟨_,_,_,vs,_,ob,_,_,z1,z2,_⟩:=z;exact⟨ob,z1,z2.1⟩⟩
section
variable {K:PySem.W.Frag}{A:Addr->Prop}{H₀ H:Hp}{τ:List Sl}{B:Nat->List Addr}{σ:L2.St}{m:List (Int×Int)}{i:Nat}
theorem Sta.dz (S:Sta K A H₀ τ B σ H)(hi:τ[i]?=some (.x (exZ m))):∃d,(σ[i]?).join=some (.ref d)/\B i=[d]/\H d=some (.dK (bL m)):=by obtain⟨d,o,h1,h2,h3,h4⟩:=S.sl i _ hi;cases (show o=_ from h4);exact⟨d,h2,h1,h3⟩
theorem Sta.fzF {ob:Obj}(S:Sta K A H₀ τ B σ H)(hi:τ[i]?=some (.x (exF ob m))):Sta K A H₀ (τ.set i (.d (.box (bxZ m)))) (upB B i []) σ H:=S.less (λ_ z=>nomatch z) λG g hv=>by obtain⟨d,o,h1,h2,h3,h4⟩:=S.sl i _ hi;cases (show o=_ from h4);exact⟨rfl,_,h2,.box ⟨ob,hv d _ (by rw[h1]; exact List.mem_singleton.mpr rfl) (λz=>nomatch z) h3⟩⟩
end
section
variable {X:Cx}{C:Bool}{τ:List Sl}{x:D}{a b e f o ix tg:Expr}{pos p q apos cpos sp:Pos}{k:Nat}{N:Po}{rest:List Stmt}{m:List (Int×Int)}{key v n:Int}
theorem Aa {xs:List D}{n:Nat}(h:xs.length=n):iz X (.builtin "len") [.lst xs] (.d (.int n)):=h▸ft
theorem eJ {n:Str}:kn (.Name n p):=λ_ _=>rfl
theorem uF {op:Operator}:kn (.BinOp a op b p):=λ_ _=>rfl
theorem yV:PE X (.Dict [] [] pos) (dE X.K C τ (.x (exZ []))):=peW ux λσ H Q ⟨A,H₀,B,S,k⟩=>λp hp=>k (.ref p) _ [p] (ai hp _) (λb hb=>by rw[List.mem_singleton.mp hb]; exact⟨hp,_,aB⟩) ⟨p,_,rfl,rfl,aB,rfl⟩
theorem yO {j l:Nat}:PE X (.Dict [some (.Constant (.int key) j p)] [.Constant (.int v) l q] pos) (dE X.K C τ (.x (exZ [(key,v)]))):=peW (xM (uY pR pR wB) rfl rfl (by simp) (by show (1:Nat)<=15; decide)) λσ H Q ⟨A,H₀,B,S,k⟩=>λp hp=>by
 refine⟨aB,[(.inl key,.int v)],rfl,(by show (1:Nat)<=15; decide),?_⟩;have e:upd (upd H p (.dK [])) p (.dK (hJ [] [(Sum.inl key,V.int v)]))=upd H p (.dK (bL [(key,v)])):=by funext b;unfold upd;split <;> rfl
 rw[e];exact k (.ref p) _ [p] (ai hp _) (λb hb=>by rw[List.mem_singleton.mp hb]; exact⟨hp,_,aB⟩) ⟨p,_,rfl,rfl,aB,rfl⟩
theorem Cv (i:Nat)(h:PSs X rest (dS X.K (τ.set i (.d (.box (bxZ m)))) N))(hi:τ[i]?=some (.x (exZ m)):=by rfl):PSs X rest (dS X.K τ N):=by intro pins s σ H D I ⟨A,H₀,B,S,Me⟩;obtain⟨d,h1,h2,h3⟩:=S.dz hi;obtain⟨z,hd,vs,rel,dd⟩:=qY I.hok h3;obtain⟨o,es,ep,e,r⟩:=id dd;have I2:Inv X pins σ (upd H d (.frz o (.dK (bL m)))) s:=eN (t':=s.toks) (h':=s.heap) I (by rw[h3]; exact True.intro) (.refl _ _) ⟨o,e⟩ ⟨e,mv z hd rel dd⟩;have hl:=(List.getElem?_eq_some_iff.mp hi).1;have S2:=S.x6 (E':=exF o m) hi h2 rfl;have S3:=S2.fzF (ob:=o) (m:=m) (List.getElem?_set_self hl);rw[List.set_set]at S3;exact h pins s σ _ D I2 ⟨A,H₀,_,S3,Me⟩
theorem AJ (hu:X.A.units+1<cLine)(hb:PE X b (dE X.K C τ (.d (.box (bxZ m)))))(hk:PE X ix (dE X.K C τ (.d (.int key))))(hx:bP m key=some v)(hs:kn ix):PE X (.Subscript b ix pos) (dE X.K C τ (.d (.int v))):=
 peW (xF hu hb hk hs) λσ H Q q=>by
   obtain⟨A,H₀,B,S,kk⟩:=c9 q;refine aT S λu H1 e1 d1=>aT (S.mono e1) λy H2 e2 dy=>?_;cases dy;cases d1.mono (av e2 λ_ z=>z) with
   | box h=>obtain⟨o,g⟩:=h;exact⟨_,.int v,rfl,⟨_,.inl key,.inr ⟨o,aN _ _ g⟩,rfl,by rw[gk,hx]; rfl⟩,kk _ H2 (e1.trans e2) .int⟩
theorem xr (i:Nat){nm:Str}(hu:X.A.units+1<cLine)(hi:τ[i]?=some (.x (exZ m)))(hk:PE X e (dE X.K false τ (.d (.int key))))(hx:PE X f (dE X.K false τ (.d (.int v))))(m2:M2 X (.Name nm p) "get" apos e f cpos:=by exact⟨rfl,rfl,rfl,rfl⟩)(hN:X.N[i]?=some nm:=by rfl)
   (hv:Vis X.env.scope nm:=by first | exact Or.inl rfl | exact Or.inr (Or.inl rfl) | exact Or.inr (Or.inr rfl)) (hd1:(nm==("__debug__" : Str))=false:=by decide) (hcd:(nm==("__classdict__" : Str))=false:=by decide):PE X (.Call (.Attribute (.Name nm p) "get" apos) [e,f] [] cpos) (dE X.K C τ (.d (.int ((bP m key).getD v)))):=
 peW (vx hu (bI (i:=i) hN hv hd1 hcd) hk hx m2) λσ H Q q=>by
   obtain⟨A,H₀,B,S,kk⟩:=c9 q;obtain⟨d,h1,h2,h3⟩:=S.dz hi;refine⟨_,slot_of h1,d,rfl,⟨_,.inl h3⟩,aT S λy H2 e2 dy=>aT (S.mono e2) λz H3 e3 dz=>?_⟩;cases dy;cases dz;refine⟨_,⟨_,.inl key,.inl ((e2.trans e3) _ _ h3),rfl,rfl⟩,?_⟩;have e:(eE (bL m) (.inl key)).getD (.int v)=V.int ((bP m key).getD v):=by rw[gk]; cases bP m key <;> rfl
   rw[e];exact kk _ H3 (e2.trans e3) .int
theorem zx (i:Nat){nm:Str}(hu:X.A.units+1<cLine)(hi:τ[i]?=some (.x (exZ m)))(hk:PE X ix (dE X.K true τ (.d (.int key))))(he:PE X e (dE X.K true τ (.d (.int v))))(hl:m.length<sizeLine)
   (hn:PSs X rest (dS X.K (τ.set i (.x (exZ (eY m key v)))) N)) (hN:X.N[i]?=some nm:=by rfl)
   (hv:Vis X.env.scope nm:=by first | exact Or.inl rfl | exact Or.inr (Or.inl rfl) | exact Or.inr (Or.inr rfl)) (hd1:(nm==("__debug__" : Str))=false:=by decide) (hcd:(nm==("__classdict__" : Str))=false:=by decide)
   (hs:swapsWith e (some (.Subscript (.Name nm p) ix sp)) pos.line X.env=pure false:=by rfl):PSs X (.Assign [.Subscript (.Name nm p) ix sp] e pos::rest) (dS X.K τ N):=
 bf (M:=(·=τ.set i (.x (exZ (eY m key v))))) (psW (wk hu (bI (i:=i) hN hv hd1 hcd) hk he hs) λD σ H ⟨A,H₀,B,S,Me⟩=>aT S λu H1 e1 d1=>by
   cases d1;have S1:=S.mono e1;obtain⟨d,g1,_⟩:=S1.dz hi;refine⟨_,slot_of g1,aT S1 λy H2 e2 dy=>?_⟩;cases dy;have S2:=S1.mono e2;obtain⟨d',h1,h2,h3⟩:=S2.dz hi;rw[g1]at h1;cases h1;refine⟨d,_,rfl,⟨_,.inl key,h3,rfl,by unfold bL; rw[List.length_map]; exact hl,rfl⟩,?_⟩;rw[rn];exact Me.nx _ _ _ _ rfl (S2.x6 hi h2 rfl)) λ_ e=>e▸hn
theorem xA (h:PE X e (dE X.K true τ (.d (.box (bxZ m)))))(hc:X.calm=true:=by first | rfl | assumption):PI X tg e (dI X.K τ (m.map λp=>.int p.1)):=piW (nP hc h) λσ H R ⟨A,H₀,B,S,k⟩=>aT S λv H1 e1 d1=>by
 cases d1 with
 | box h=>
   obtain⟨o,g⟩:=h;refine⟨_,o,m,rfl,aN _ _ g,k _ H1 e1 λH2 sg=>⟨λi hi=>⟨by simpa using hi,sg _ _ g⟩,λi hi=>⟨⟨by simpa using hi,sg _ _ g⟩,λx H' ⟨eH,p,hp,ex⟩=>?_⟩⟩⟩;subst eH ex;refine⟨ah.refl _,λM _ _=>?_⟩;have hi':i<m.length:=by simpa using hi
   rw[List.getElem?_eq_getElem hi']at hp;cases hp;rw[List.getElem_map];exact .int
theorem wy {m:List (Int×Int)}:∀i (h:i<(m.map λp=>D.int p.1).length),(m.map λp=>D.int p.1)[i]=.int (m.getD i (0,0)).1:=λi h=>by
 have:i<m.length:=by simpa using h
 simp[this]
noncomputable def dnD (n:Nat):List D:=(List.range n).map λi:Nat=>.int ((n:Int)-1-(i:Int))
theorem gG (n:Nat):(dnD n).length=n:=by simp[dnD]
theorem Dh {n:Nat}:∀i (h:i<(dnD n).length),(dnD n)[i]=.int ((n-1-i:Nat):Int):=λi h=>by rw[gG]at h;simp only[dnD,List.getElem_map,List.getElem_range];congr 1;omega
theorem De {n:Nat}{p' pos':Pos}(B:Bk X k)(h:PE X a (dE X.K false τ (.d (.int n))))(hn:n<1000)(hg:Gl X "reversed":=by rfl)(hg':Gl X "range":=by rfl)(hs':starEach [a] X.env=[(false,eval a X.env)]:=by rfl)
   (hs:starEach [.Call (.Name "range" p') [a] [] pos'] X.env=[(false,eval (.Call (.Name "range" p') [a] [] pos') X.env)]:=by rfl):PI X tg (.Call (.Name "reversed" p) [.Call (.Name "range" p') [a] [] pos'] [] pos) (dI X.K τ (dnD n)):=
 piW (yf B.calm hg (B.blt _ (by decide)) hg' (B.blt _ (by decide)) (ab h af hs') hs' hs) λσ H R ⟨A,H₀,B,S,k⟩=>eP S λvs H1 e1 d1=>by
   cases d1 with
   | cons d r=>cases r;cases d;refine⟨n,rfl,hn,k _ H1 e1 λH2 sg=>⟨λi hi=>by rw[gG]at hi; exact hi,λi hi=>⟨by rw[gG]at hi; exact hi,λx H' ⟨eH,ex⟩=>?_⟩⟩⟩;subst eH ex;refine⟨ah.refl _,λM _ _=>?_⟩;simp only[dnD,List.getElem_map,List.getElem_range];exact .int
end
end Hy
namespace Hy
open PySem PySem.Spec PyProof.Rows L2
open Ev (D Den aq ai aU aO)
noncomputable def cE:List Nat->Nd->Option Nd
 | [],t=>some t
 | i::p,.l xs=>(xs[i]?).bind (cE p)
 | i::p,.t xs=>(xs[i]?).bind (cE p)
 | _::_,.d _=>none
noncomputable def cw:List Nat->Nd->Nd->Nd
 | [],_,n=>n
 | i::p,.l xs,n=>.l (xs.set i (cw p (xs.getD i (.d .non)) n))
 | i::p,.t xs,n=>.t (xs.set i (cw p (xs.getD i (.d .non)) n))
 | _::_,.d x,_=>.d x
noncomputable def df (H:Hp):List Nat->V->V->Prop
 | [],u,v=>v=u
 | i::p,u,v=>∃a vs w,u=.ref a/\(H a=some (.lst vs)\/H a=some (.tup vs))/\vs[i]?=some w/\df H p w v
theorem df.mono {H H':Hp}(e:ah H H'):∀{p:List Nat} {u v:V},df H p u v->df H' p u v
 | [],_,_,h=>h
 | _::_,_,_,⟨a,vs,w,h1,h2,h3,h4⟩=>⟨a,vs,w,h1,h2.elim (λz=>.inl (e _ _ z)) (λz=>.inr (e _ _ z)),h3,h4.mono e⟩
theorem df.snoc {H:Hp}{i:Nat}{a:Addr}{vs:List V}{w:V}:∀{p:List Nat} {u:V},df H p u (.ref a)->(H a=some (.lst vs)\/H a=some (.tup vs))->vs[i]?=some w->df H (p++[i]) u w
 | [],_,h,h1,h2=>⟨a,vs,w,h.symm,h1,h2,rfl⟩
 | _::_,_,⟨b,us,x,z1,z2,z3,z4⟩,h1,h2=>⟨b,us,x,z1,z2,z3,z4.snoc h1 h2⟩
section
variable {K:PySem.W.Frag}{G H:Hp}
theorem aQ.length:∀{vs:List V} {bs:List Addr} {xs:List Nd},aQ K G H vs bs xs->vs.length=xs.length
 | _,_,_,.nil=>rfl
 | _,_,_,.cons _ r=>congrArg (·+1) r.length
theorem aQ.part:∀{vs:List V} {bs:List Addr} {xs:List Nd} {i:Nat} {c:Nd},aQ K G H vs bs xs->xs[i]?=some c->∃v l m r,vs[i]?=some v/\bs=l++(m++r)/\bN K G H v m c /\
   ∀{G' H':Hp} {m':List Addr} {c':Nd},ah G G'->(∀b,b∈l\/b∈r->H' b=H b)->bN K G' H' v m' c'->aQ K G' H' vs (l++(m'++r)) (xs.set i c')
 | _,_,_,_,_,.nil,e=>by cases e
 | _,_,_,0,_,.cons (b1:=b1) (b2:=b2) h r,e=>by cases e;exact⟨_,[],b1,b2,rfl,rfl,h,λg e h'=>by rw[List.nil_append]; exact .cons h' (r.frame g λb hb=>e b (.inr hb))⟩
 | _,_,_,i+1,c,.cons (b1:=b1) h r,e=>by obtain⟨v,l,m,q,h1,h2,h3,h4⟩:=aQ.part (i:=i) (c:=c) r (by simpa using e);refine⟨v,b1++l,m,q,by simpa using h1,by rw[h2,List.append_assoc],h3,λ{G' H' m' c'} g e h'=>?_⟩;rw[List.append_assoc];exact .cons (h.frame g λb hb=>e b (.inl (List.mem_append_left _ hb))) (h4 g (λb hb=>e b (hb.elim (λz=>.inl (List.mem_append_right _ z)) .inr)) h')
theorem bN.focus:∀(p:List Nat) {u:V} {bs:List Addr} {t c:Nd},bN K G H u bs t->cE p t=some c->∃v l m r,df H p u v/\bs=l++(m++r)/\bN K G H v m c /\
   ∀{G' H':Hp} {m':List Addr} {c':Nd},ah G G'->(∀b,b∈l\/b∈r->H' b=H b)->bN K G' H' v m' c'->bN K G' H' u (l++(m'++r)) (cw p t c')
 | [],u,bs,tr,c,h,e=>by cases e;exact⟨u,[],bs,[],rfl,by simp,h,λg _ h'=>by simpa[cw]using h'⟩
 | i::p,_,_,.l xs,c,.l (a:=a) (bs:=bs) hH r,e=>by
   rw[cE]at e;cases ei:xs[i]? with
   | none=>rw[ei]at e; cases e
   | some x=>rw[ei]at e;obtain⟨v,l,m,q,h1,h2,h3,h4⟩:=r.part ei;obtain⟨w,l',m',q',g1,g2,g3,g4⟩:=bN.focus p h3 e;refine⟨w,a::(l++l'),m',q'++q,⟨a,_,v,rfl,.inl hH,h1,g1⟩,by rw[h2,g2]; simp,g3,λ{G' H' m2 c2} g e2 h'=>?_⟩;have k1:=g4 g (λb hb=>e2 b (hb.elim (λz=>.inl (List.mem_cons_of_mem _ (List.mem_append_right _ z))) λz=>.inr (List.mem_append_left _ z))) h';have k2:=h4 g (λb hb=>e2 b (hb.elim (λz=>.inl (List.mem_cons_of_mem _ (List.mem_append_left _ z))) λz=>.inr (List.mem_append_right _ z))) k1;rw[cw,show xs.getD i (.d .non)=x by simp[List.getD,ei]];have k3:=bN.l (G:=G') (K:=K) (a:=a) (by rw[e2 a (.inl (List.mem_cons_self ..))]; exact hH) k2;simpa using k3
 | i::p,_,_,.t xs,c,.t (a:=a) (bs:=bs) hH r,e=>by
   rw[cE]at e;cases ei:xs[i]? with
   | none=>rw[ei]at e; cases e
   | some x=>rw[ei]at e;obtain⟨v,l,m,q,h1,h2,h3,h4⟩:=r.part ei;obtain⟨w,l',m',q',g1,g2,g3,g4⟩:=bN.focus p h3 e;refine⟨w,a::(l++l'),m',q'++q,⟨a,_,v,rfl,.inr hH,h1,g1⟩,by rw[h2,g2]; simp,g3,λ{G' H' m2 c2} g e2 h'=>?_⟩;have k1:=g4 g (λb hb=>e2 b (hb.elim (λz=>.inl (List.mem_cons_of_mem _ (List.mem_append_right _ z))) λz=>.inr (List.mem_append_left _ z))) h';have k2:=h4 g (λb hb=>e2 b (hb.elim (λz=>.inl (List.mem_cons_of_mem _ (List.mem_append_left _ z))) λz=>.inr (List.mem_append_right _ z))) k1;rw[cw,show xs.getD i (.d .non)=x by simp[List.getD,ei]];have k3:=bN.t (G:=G') (K:=K) (a:=a) (by rw[e2 a (.inl (List.mem_cons_self ..))]; exact hH) k2;simpa using k3
theorem df.det:∀{p:List Nat} {u v w:V},df H p u v->df H p u w->v=w
 | [],_,_,_,h,h'=>h.trans h'.symm
 | _::_,_,_,_,⟨a,vs,x,h1,h2,h3,h4⟩,⟨b,us,y,g1,g2,g3,g4⟩=>by
   rw[h1]at g1;cases g1;have e:vs=us:=by rcases h2 with h2 | h2 <;> rcases g2 with g2 | g2 <;> rw[h2]at g2 <;> cases g2 <;> rfl
   subst e;rw[h3]at g3;cases g3;exact h4.det g4
theorem bY.frame {G' H':Hp}(g:ah G G'){v:Option V}{bs:List Addr}:∀{s:Sl},(∀b∈bs,H' b=H b)->bY K G H v bs s->bY K G' H' v bs s
 | .un,_,h=>h
 | .d _,_,⟨h,u,e1,h2⟩=>⟨h,u,e1,h2.mono g⟩
 | .o _,e,⟨a,vs,h1,h2,h3,h4⟩=>⟨a,vs,h1,h2,by rw[e a (by rw[h1]; exact List.mem_cons_self ..)]; exact h3,h4.mono g⟩
 | .n _,e,⟨h0,u,h1,h2⟩=>⟨h0,u,h1,h2.frame g e⟩
 | .x E,e,⟨a,o,h1,h2,h3,h4⟩=>⟨a,o,h1,h2,by rw[e a (by rw[h1]; exact List.mem_cons_self ..)]; exact h3,E.mono g h4⟩
theorem qc {l r b0 b1:List Addr}{a:Addr}(h:(l++((a::b0)++r)).Nodup)(h1:b1.Nodup)(hb:∀b∈b1,b∈b0\/(b∉l/\b≠a/\b∉r)):(l++((a::b1)++r)).Nodup:=by
 obtain⟨z1,z2,z3⟩:=List.nodup_append.mp h;rw[List.cons_append]at z2;obtain⟨z4,z5⟩:=List.nodup_cons.mp z2;obtain⟨z6,z7,z8⟩:=List.nodup_append.mp z5;refine List.nodup_append.mpr ⟨z1,?_,λx hx y hy=>?_⟩
 . rw[List.cons_append];refine List.nodup_cons.mpr ⟨λz=>?_,List.nodup_append.mpr ⟨h1,z7,λx hx y hy=>?_⟩⟩
   . rcases List.mem_append.mp z with z | z
     . rcases hb a z with q | q
       . exact z4 (List.mem_append_left _ q)
       . exact q.2.1 rfl
     . exact z4 (List.mem_append_right _ z)
   . rcases hb x hx with q | q
     . exact z8 x q y hy
     . exact λe=>q.2.2 (e▸hy)
 . rw[List.cons_append]at hy;rcases List.mem_cons.mp hy with q | q
   . exact z3 x hx y (by rw[q]; exact List.mem_append_left _ (List.mem_cons_self ..))
   . rcases List.mem_append.mp q with q | q
     . rcases hb y q with q | q
       . exact z3 x hx y (List.mem_append_left _ (List.mem_cons_of_mem _ q))
       . exact λe=>q.1 (e▸hx)
     . exact z3 x hx y (List.mem_append_right _ q)
theorem Sta.putN {A:Addr->Prop}{H₀:Hp}{τ:List Sl}{B:Nat->List Addr}{σ:L2.St}{i:Nat}{t:Nd}{p:List Nat}{xs:List Nd}(S:Sta K A H₀ τ B σ H)(hi:τ[i]?=some (.n t))(hp:cE p t=some (.l xs)):
   ∃u a vs bs0,(σ[i]?).join=some u/\df H p u (.ref a)/\H a=some (.lst vs)/\aQ K (hd H (own A B)) H vs bs0 xs/\bs0.Nodup/\own A B a/\(∀b∈bs0,own A B b/\b≠a) /\
     ∀{H1:Hp} {vs':List V} {bs1:List Addr} {xs':List Nd},ah H H1->bs1.Nodup->(∀b∈bs1,b∈bs0\/(H b=none/\∃o,H1 b=some o))->aQ K (hd (upd H1 a (.lst vs')) λb=>own A B b\/b∈bs1) (upd H1 a (.lst vs')) vs' bs1 xs' ->
       ∃B',Sta K A H₀ (τ.set i (.n (cw p t (.l xs')))) B' σ (upd H1 a (.lst vs')):=by
 obtain⟨nd,u,eu,ok⟩:=S.sl i _ hi;obtain⟨v,l,m,r,pv,hbs,okc,back⟩:=ok.focus p hp;cases okc with
 | @l a vs bs0 _ hH r0=>
   have mem:∀b,b∈l\/b=a\/b∈bs0\/b∈r->b∈B i:=λb hb=>by
     rw[hbs];rcases hb with z | z | z | z
     . exact List.mem_append_left _ z
     . exact List.mem_append_right _ (by rw[z]; exact List.mem_append_left _ (List.mem_cons_self ..))
     . exact List.mem_append_right _ (List.mem_append_left _ (List.mem_cons_of_mem _ z))
     . exact List.mem_append_right _ (List.mem_append_right _ z)
   have nd':=nd;rw[hbs]at nd';obtain⟨n1,n2,n3⟩:=List.nodup_append.mp nd';rw[List.cons_append]at n2;obtain⟨n4,n5⟩:=List.nodup_cons.mp n2;obtain⟨n6,_,_⟩:=List.nodup_append.mp n5;have ha:own A B a:=.inr ⟨i,mem a (.inr (.inl rfl))⟩;refine⟨u,a,vs,bs0,eu,pv,hH,r0,n6,ha,λb hb=>⟨.inr ⟨i,mem b (.inr (.inr (.inl hb)))⟩,λz=>n4 (z▸List.mem_append_left _ hb)⟩,λ{H1 vs' bs1 xs'} e h1 hb hx=>?_⟩;have keep:∀b o,b≠a->H b=some o->upd H1 a (.lst vs') b=H b:=λb o ne h=>by rw[au ne,e _ _ h,h]
   have la:∀b,b∈l\/b∈r->b≠a:=λb hb z=>by
     rcases hb with q | q
     . exact n3 b q a (List.mem_append_left _ (List.mem_cons_self ..)) z
     . exact n4 (z▸List.mem_append_right _ q)
   have fresh:∀b∈bs1,b∈bs0\/(b∉l/\b≠a/\b∉r):=λb hb1=>by
     rcases hb b hb1 with q | ⟨q,_⟩
     . exact .inl q
     . have no:∀c,c∈B i->b≠c:=λc hc z=>by obtain⟨o,hc⟩:=S.bd i c hc; rw[<- z,q]at hc; cases hc
       exact .inr ⟨λz=>no b (mem b (.inl z)) rfl,no a (mem a (.inr (.inl rfl))),λz=>no b (mem b (.inr (.inr (.inr z)))) rfl⟩
   have sub:∀b,own A (upB B i (l++((a::bs1)++r))) b->own A B b\/b∈bs1:=λb z=>by
     rcases z with z | ⟨j,z⟩
     . exact .inl (.inl z)
     . rcases aP z with ⟨_,z⟩ | ⟨_,z⟩
       . rcases List.mem_append.mp z with z | z
         . exact .inl (.inr ⟨i,mem b (.inl z)⟩)
         . rw[List.cons_append]at z;rcases List.mem_cons.mp z with z | z
           . exact .inl (z▸ha)
           . rcases List.mem_append.mp z with z | z
             . exact .inr z
             . exact .inl (.inr ⟨i,mem b (.inr (.inr (.inr z)))⟩)
       . exact .inl (.inr ⟨j,z⟩)
   have sm:ah (hd H (own A B)) (hd (upd H1 a (.lst vs')) (own A (upB B i (l++((a::bs1)++r))))):=λb o z=>by
     obtain⟨z1,z2⟩:=ag.mp z;refine ag.mpr ⟨λy=>?_,by rw[keep b o (λq=>z1 (q▸ha)) z2]; exact z2⟩;rcases sub b y with y | y
     . exact z1 y
     . rcases hb b y with q | ⟨q,_⟩
       . exact z1 (.inr ⟨i,mem b (.inr (.inr (.inl q)))⟩)
       . rw[q]at z2; cases z2
   have hs:ah H₀ (upd H1 a (.lst vs')):=λb o z=>by have f0:=S.fr i a (mem a (.inr (.inl rfl)));rw[au (λq=>by rw[q,f0]at z; cases z)];exact e _ _ (S.same _ _ z)
   refine⟨upB B i (l++((a::bs1)++r)),hs,by rw[List.length_set,S.len],λj s hj=>?_,λj b z=>?_,λj k b z1 z2=>?_,S.ad,λj b z=>?_⟩
   . by_cases ej:j=i
     . subst ej;have hl:=(List.getElem?_eq_some_iff.mp hi).1;rw[List.getElem?_set_self hl]at hj;cases hj;unfold upB;rw[if_pos rfl];refine⟨qc nd' h1 fresh,u,eu,back sm (λb hb=>?_) (.l aB (hx.frame (av (ah.refl _) sub) λ_ _=>rfl))⟩;obtain⟨o,q⟩:=S.bd j b (mem b (hb.elim .inl λz=>.inr (.inr (.inr z))));exact keep b o (la b hb) q
     . rw[List.getElem?_set_ne (λz=>ej z.symm)]at hj;unfold upB;rw[if_neg ej];refine(S.sl j s hj).frame sm λb hb=>?_;obtain⟨o,q⟩:=S.bd j b hb;exact keep b o (λz=>ej (S.uq j i a (z▸hb) (mem a (.inr (.inl rfl))))) q
   . rcases aP z with ⟨_,z⟩ | ⟨_,z⟩
     . rcases sub b (.inr ⟨i,by unfold upB; rw[if_pos rfl]; exact z⟩) with y | y
       . rcases List.mem_append.mp z with z | z
         . exact S.fr i b (mem b (.inl z))
         . rw[List.cons_append]at z;rcases List.mem_cons.mp z with z | z
           . exact S.fr i b (mem b (.inr (.inl z)))
           . rcases List.mem_append.mp z with z | z
             . rcases hb b z with q | ⟨q,_⟩
               . exact S.fr i b (mem b (.inr (.inr (.inl q))))
               . exact S.same.free q
             . exact S.fr i b (mem b (.inr (.inr (.inr z))))
       . rcases hb b y with q | ⟨q,_⟩
         . exact S.fr i b (mem b (.inr (.inr (.inl q))))
         . exact S.same.free q
     . exact S.fr j b z
   . have inB:∀{c},c∈l++((a::bs1)++r)->c∈B i\/H c=none:=λ{c} z=>by
       rcases List.mem_append.mp z with z | z
       . exact .inl (mem c (.inl z))
       . rw[List.cons_append]at z;rcases List.mem_cons.mp z with z | z
         . exact .inl (mem c (.inr (.inl z)))
         . rcases List.mem_append.mp z with z | z
           . rcases hb c z with q | ⟨q,_⟩
             . exact .inl (mem c (.inr (.inr (.inl q))))
             . exact .inr q
           . exact .inl (mem c (.inr (.inr (.inr z))))
     have cross:∀{j},j≠i->b∈B j->b∈l++((a::bs1)++r)->False:=λ{j} nj y1 y2=>by
       rcases inB y2 with q | q
       . exact nj (S.uq j i b y1 q)
       . obtain⟨o,w⟩:=S.bd j b y1; rw[q]at w; cases w
     rcases aP z1 with ⟨e1,y1⟩ | ⟨e1,y1⟩ <;> rcases aP z2 with ⟨e2,y2⟩ | ⟨e2,y2⟩
     . exact e1.trans e2.symm
     . exact(cross e2 y2 y1).elim
     . exact(cross e1 y1 y2).elim
     . exact S.uq j k b y1 y2
   . rcases aP z with ⟨_,z⟩ | ⟨_,z⟩
     . by_cases e':b=a
       . exact⟨_,by rw[e']; exact aB⟩
       . rw[au e'];have old:b∈B i->∃o,H1 b=some o:=λq=>let ⟨o,w⟩:=S.bd i b q; ⟨o,e _ _ w⟩
         rcases List.mem_append.mp z with z | z
         . exact old (mem b (.inl z))
         . rw[List.cons_append]at z;rcases List.mem_cons.mp z with z | z
           . exact absurd z e'
           . rcases List.mem_append.mp z with z | z
             . rcases hb b z with q | ⟨_,q⟩
               . exact old (mem b (.inr (.inr (.inl q))))
               . exact q
             . exact old (mem b (.inr (.inr (.inr z))))
     . by_cases e':b=a
       . exact⟨_,by rw[e']; exact aB⟩
       . rw[au e'];obtain⟨o,w⟩:=S.bd j b z;exact⟨o,e _ _ w⟩
end
def dP (K:PySem.W.Frag)(τ:List Sl)(i:Nat)(p:List Nat):TE:=λσ H Q=>∃A H₀ B,Sta K A H₀ τ B σ H/\∀u v H',(σ[i]?).join=some u->ah H H'->df H' p u v->Q v H'
noncomputable def ky:Sl->Option Nd
 | .un=>none
 | .d x=>some (.d x)
 | .o xs=>some (.l (xs.map .d))
 | .n t=>some t
 | .x _=>none
section
variable {K:PySem.W.Frag}{G H:Hp}
theorem lx:∀{vs:List V} {xs:List D},aq K G vs xs->aQ K G H vs [] (xs.map .d)
 | _,_,.nil=>.nil
 | _,_,.cons h r=>.cons (b1:=[]) (b2:=[]) (.d h) (lx r)
theorem bY.nd {v:V}{bs:List Addr}{s:Sl}{c:Nd}(h:bY K G H (some v) bs s)(e:ky s=some c):bN K G H v bs c/\bs.Nodup:=by
 cases s with
 | un=>cases e
 | d x=>cases e; obtain⟨rfl,u,eu,d⟩:=h; cases eu; exact⟨.d d,List.nodup_nil⟩
 | o xs=>cases e; obtain⟨a,vs,rfl,e2,h3,h4⟩:=h; cases e2; exact⟨.l h3 (lx h4),by simp⟩
 | n t=>cases e; obtain⟨h0,u,eu,h2⟩:=h; cases eu; exact⟨h2,h0⟩
 | x E=>cases e
theorem aQ.snoc {v:V}{c:Nd}{b2:List Addr}(h:bN K G H v b2 c):∀{vs:List V} {bs:List Addr} {xs:List Nd},aQ K G H vs bs xs->aQ K G H (vs++[v]) (bs++b2) (xs++[c])
 | _,_,_,.nil=>by have:=aQ.cons h .nil; rw[List.append_nil]at this; exact this
 | _,_,_,.cons h1 r=>by rw[List.append_assoc]; exact .cons h1 (aQ.snoc h r)
theorem Sta.nd {A:Addr->Prop}{H₀:Hp}{τ:List Sl}{B:Nat->List Addr}{σ:L2.St}(S:Sta K A H₀ τ B σ H){i:Nat}{s:Sl}{c:Nd}(hi:τ[i]?=some s)(hc:ky s=some c):Sta K A H₀ (τ.set i (.n c)) (upB B i (B i)) σ H:=
 S.less (λ_ z=>z) λG' g _=>by
   have q:=S.sl i s hi
   obtain⟨u,e⟩:∃u,(σ[i]?).join=some u:=by
     cases s with
     | un=>cases hc
     | d x=>obtain⟨_,u,e,_⟩:=q; exact⟨u,e⟩
     | o xs=>obtain⟨_,_,_,e,_⟩:=q; exact⟨_,e⟩
     | n t=>obtain⟨_,u,e,_⟩:=q; exact⟨u,e⟩
     | x E=>cases hc
   rw[e]at q ⊢;obtain⟨q1,q2⟩:=q.nd hc;exact⟨q2,u,rfl,q1.frame g λ_ _=>rfl⟩
end
section
variable {X:Cx}{C:Bool}{τ:List Sl}{x y z:D}{a b e o:Expr}{pos q:Pos}{k:Nat}{s:Sl}{N:Po}{rest:List Stmt}{i:Nat}{t c:Nd}{pt:List Nat}{xs:List Nd}{j:Int}{m:Nat}
theorem xn (i:Nat){s:Sl}{c:Nd}(h:PSs X rest (dS X.K (τ.set i (.n c)) N))(hi:τ[i]?=some s:=by rfl)(hc:ky s=some c:=by rfl):PSs X rest (dS X.K τ N):=gM h λD σ H ⟨A,H₀,B,S,Me⟩=>⟨A,H₀,_,S.nd hi hc,Me⟩
theorem ba (i:Nat){n:Str}{t:Nd}(h:τ[i]?=some (.n t):=by rfl)(hN:X.N[i]?=some n:=by rfl)(hv:Vis X.env.scope n:=by first | exact Or.inl rfl | exact Or.inr (Or.inl rfl) | exact Or.inr (Or.inr rfl))
   (hd:(n==("__debug__" : Str))=false:=by decide) (hcd:(n==("__classdict__" : Str))=false:=by decide):PE X (.Name n pos) (dP X.K τ i []):=peW (bI hN hv hd hcd) λσ H Q ⟨A,H₀,B,S,k⟩=>by
 obtain⟨_,u,e,_⟩:=S.sl i _ h;exact⟨u,slot_of e,k u u H e (ah.refl _) rfl⟩
theorem Sta.at {K:PySem.W.Frag}{A:Addr->Prop}{H₀ H:Hp}{τ:List Sl}{B:Nat->List Addr}{σ:L2.St}(S:Sta K A H₀ τ B σ H)(hi:τ[i]?=some (.n t))(hp:cE pt t=some c):∃u v m,(σ[i]?).join=some u/\df H pt u v/\bN K (hd H (own A B)) H v m c/\∀b∈m,b∈B i:=by obtain⟨_,u,e,ok⟩:=S.sl i _ hi;obtain⟨v,l,m,r,h1,h2,h3,_⟩:=ok.focus pt hp;exact⟨u,v,m,e,h1,h3,λb hb=>by rw[h2]; exact List.mem_append_right _ (List.mem_append_left _ hb)⟩
theorem xV {K:PySem.W.Frag}{G H:Hp}{vs:List V}{bs:List Addr}{m:Nat}(r:aQ K G H vs bs xs)(hm:m<xs.length):∃v,vs[m]?=some v:=⟨vs[m]'(by rw[r.length]; exact hm),List.getElem?_eq_getElem _⟩
theorem zg {n m:Nat}{j:Int}(h:ixN n j=some m):m<n:=by
 unfold ixN at h;split at h
 . split at h
   . cases h; omega
   . cases h
 . split at h
   . cases h; omega
   . cases h
theorem a8 (ha:PE X a (dP X.K τ i pt))(hb:PE X b (dE X.K false τ (.d (.int j))))(hi:τ[i]?=some (.n t))(hp:cE pt t=some (.l xs))(hj:ixN xs.length j=some m)(hs:i8 b:=by exact λ_ _=>rfl):PE X (.Subscript a b pos) (dP X.K τ i (pt++[m])):=
 peW (yw qK ha hb hs) λσ H Q ⟨A,H₀,B,S,k⟩=>⟨A,H₀,B,S,λu v H1 eu e1 pv=>aT (S.mono e1) λw H2 e2 d2=>by
   cases d2;obtain⟨u',v',m',eu',pv',ok,_⟩:=((S.mono e1).mono e2).at hi hp;rw[eu]at eu';cases eu';obtain rfl:=(pv.mono e2).det pv';cases ok with
   | @l ad vs _ _ hH r=>
     obtain⟨x,hx⟩:=xV r (zg hj);exact⟨ad,vs,j,x,rfl,rfl,SqL.of hH,by unfold atI; rw[r.length,hj]; exact hx,k u x H2 eu (e1.trans e2) (pv'.snoc (.inl hH) hx)⟩⟩
theorem hV (h:PE X e (dP X.K τ i pt))(hi:τ[i]?=some (.n t))(hp:cE pt t=some (.d x)):PE X e (dE X.K C τ (.d x)):=peW h λσ H Q q=>by
 obtain⟨A,H₀,B,S,k⟩:=c9 q;refine⟨A,H₀,B,S,λu v H1 eu e1 pv=>?_⟩;obtain⟨u',v',m',eu',pv',ok,_⟩:=(S.mono e1).at hi hp;rw[eu]at eu';cases eu';obtain rfl:=pv.det pv';cases ok with
 | d h=>exact k v H1 e1 (h.mono (av (ah.refl _) λ_ z=>iB z))
theorem lu {ap cp:Pos}(ho:PE X o (dP X.K τ i pt))(he:PE X e (dE X.K true τ s))(hi:τ[i]?=some (.n t))(hp:cE pt t=some (.l xs))(hc:ky s=some c)(hl:xs.length<1000000)(hr:PSs X rest (dS X.K (τ.set i (.n (cw pt t (.l (xs++[c]))))) N))
   (hfew:((backTo cp (starEach [e] X.env)).all (λx=>!x.1)&&(backToKw cp (keywordEach [] X.env)).all (λx=>x.1.isSome)&&decide (([e]:List Expr).length+([]:List Keyword).length+(if ([]:List Keyword).isEmpty then 0 else 1)<30))=true:=by rfl)
   (hline:(ap.endLine==cp.line)=true:=by rfl) (hst:starEach [e] X.env=(false,eval e X.env)::starEach [] X.env:=by rfl) (hpl:(backTo cp (starEach [] X.env)).any (·.1)=false:=by rfl)
   (hs:swapsWith (.Call (.Attribute o "append" ap) [e] [] cp) none pos.line X.env=pure false:=by rfl) (hbase:attributeBase o "append" X.env (eval o X.env)=eval o X.env:=by rfl) :
   PSs X (.Expr (.Call (.Attribute o "append" ap) [e] [] cp) pos::rest) (dS X.K τ N):=
 bf (M:=(·=τ.set i (.n (cw pt t (.l (xs++[c])))))) (psW (fK (qz PySem.F.plainAttrs_list PySem.F.slot_list_append PySem.F.type_list_append dW ho (b7 he eO hst) hbase hfew hline hst hpl) hs) λD σ H ⟨A,H₀,B,S,Me⟩=>by
   refine⟨A,H₀,B,S,λu v H1 eu e1 pv=>?_⟩;have S1:=S.mono e1;obtain⟨u',l,vs,bs0,eu',pv',hH,r0,nd0,hal,hown,put⟩:=S1.putN hi hp;rw[eu]at eu';cases eu';obtain rfl:=pv.det pv';refine⟨.inl ⟨rfl,_,SqL.of hH⟩,A,H₀,B,S1,λw H2 bs e2 hf hw=>⟨l,vs,w,rfl,rfl,e2 _ _ hH,by rw[r0.length]; exact Nat.lt_trans hl (by decide),?_⟩⟩;obtain⟨nw,ndw⟩:=hw.nd hc;have off:∀b∈bs,b≠l:=λb hb z=>by rw[z]at hb; rw[(hf l hb).1]at hH; cases hH
   have sm:ah (hd H2 λb=>own A B b\/b∈bs) (hd (upd H2 l (.lst (vs++[w]))) λb=>own A B b\/b∈bs0++bs):=λb o z=>by
     obtain⟨z1,z2⟩:=ag.mp z;refine ag.mpr ⟨λy=>z1 ?_,by rw[au (λy:b=l=>z1 (.inl (by rw[y]; exact hal)))]; exact z2⟩;rcases y with y | y
     . exact .inl y
     . exact(List.mem_append.mp y).elim (λz=>.inl (hown b z).1) .inr
   have sm0:ah (hd H1 (own A B)) (hd (upd H2 l (.lst (vs++[w]))) λb=>own A B b\/b∈bs0++bs):=λb o z=>by
     obtain⟨z1,z2⟩:=ag.mp z;refine ag.mpr ⟨λy=>?_,by rw[au (λy:b=l=>z1 (by rw[y]; exact hal))]; exact e2 _ _ z2⟩;rcases y with y | y
     . exact z1 y
     . rcases List.mem_append.mp y with y | y
       . exact z1 (hown b y).1
       . rw[(hf b y).1]at z2; cases z2
   obtain⟨B',S'⟩:=put (H1:=H2) (vs':=vs++[w]) (bs1:=bs0++bs) (xs':=xs++[c]) e2 (List.nodup_append.mpr ⟨nd0,ndw,λx hx y hy z=>by
       obtain⟨o,q⟩:=r0.some_of x hx;rw[z,(hf y hy).1]at q; cases q⟩)
     (λb hb=>(List.mem_append.mp hb).elim .inl λz=>.inr (hf b z))
     (aQ.snoc (nw.frame sm λb hb=>au (off b hb)) (r0.frame sm0 λb hb=>by
       obtain⟨o,q⟩:=r0.some_of b hb;rw[au (hown b hb).2,e2 _ _ q,q]))
   exact Me.nx _ B' _ _ rfl S') λ_ e=>e▸hr
end
end Hy
namespace Ev
open PySem PySem.Spec PyProof.Rows L2
noncomputable def bad:Str:=⟨#[0x110000]⟩
mutual
noncomputable def eqD:D->D->Bool
 | .non,.non=>true
 | .bl a,.bl b=>a==b
 | .bl a,.int j=>(if a then 1 else 0)==j
 | .int i,.bl b=>i==(if b then 1 else 0)
 | .int a,.int b=>a==b
 | .str a,.str b=>a==b
 | .tup xs,.tup ys=>jH xs ys
 | .lst xs,.lst ys=>jH xs ys
 | .box _,.box _=>true
 | .box _,.str b=>bad==b
 | .str a,.box _=>a==bad
 | .box _,.non | .box _,.bl _ | .box _,.int _ | .box _,.tup _ | .box _,.lst _=>false
 | .non,.box _ | .bl _,.box _ | .int _,.box _ | .tup _,.box _ | .lst _,.box _=>false
 | .non,.bl _ | .non,.int _ | .non,.str _ | .non,.tup _ | .non,.lst _=>false
 | .bl _,.non | .bl _,.str _ | .bl _,.tup _ | .bl _,.lst _=>false
 | .int _,.non | .int _,.str _ | .int _,.tup _ | .int _,.lst _=>false
 | .str _,.non | .str _,.bl _ | .str _,.int _ | .str _,.tup _ | .str _,.lst _=>false
 | .tup _,.non | .tup _,.bl _ | .tup _,.int _ | .tup _,.str _ | .tup _,.lst _=>false
 | .lst _,.non | .lst _,.bl _ | .lst _,.int _ | .lst _,.str _ | .lst _,.tup _=>false
noncomputable def jH:List D->List D->Bool
 | [],[]=>true
 | x::xs,y::ys=>eqD x y&&jH xs ys
 | [],_::_=>false
 | _::_,[]=>false
end
mutual
noncomputable def toP:D->PyData
 | .non=>.none
 | .bl b=>.bool b
 | .int i=>.int i
 | .str x=>.str x
 | .tup xs=>.tuple (fN xs)
 | .lst xs=>.list (fN xs)
 | .box _=>.str bad
noncomputable def fN:List D->List PyData
 | []=>[]
 | x::xs=>toP x::fN xs
end
mutual
noncomputable def cln:D->Bool
 | .str x=>PyData.strOk x
 | .tup xs=>e8 xs
 | .lst xs=>e8 xs
 | .box _=>false
 | .non | .bl _ | .int _=>true
noncomputable def e8:List D->Bool
 | []=>true
 | x::xs=>cln x&&e8 xs
end
mutual
noncomputable def dep:D->Nat
 | .tup xs=>fM xs+1
 | .lst xs=>fM xs+1
 | .non | .bl _ | .int _ | .str _ | .box _=>0
noncomputable def fM:List D->Nat
 | []=>0
 | x::xs=>max (dep x) (fM xs)
end
def eV (x:D):Prop:=cln x=true/\dep x<=64
noncomputable instance (x:D):Decidable (eV x):=inferInstanceAs (Decidable (_/\_))
mutual
theorem gx:∀x y:D,PyData.eqv (toP x) (toP y)=eqD x y
 | .non,y=>by cases y <;> simp[toP,PyData.eqv,eqD]
 | .bl a,y=>by cases y <;> simp[toP,PyData.eqv,eqD]
 | .int a,y=>by cases y <;> simp[toP,PyData.eqv,eqD]
 | .str a,y=>by cases y <;> simp[toP,PyData.eqv,eqD]
 | .tup xs,.tup ys=>by simp only[toP,PyData.eqv,eqD]; exact jZ xs ys
 | .lst xs,.lst ys=>by simp only[toP,PyData.eqv,eqD]; exact jZ xs ys
 | .tup xs,.non=>by simp[toP,PyData.eqv,eqD]
 | .tup xs,.bl _=>by simp[toP,PyData.eqv,eqD]
 | .tup xs,.int _=>by simp[toP,PyData.eqv,eqD]
 | .tup xs,.str _=>by simp[toP,PyData.eqv,eqD]
 | .tup xs,.lst _=>by simp[toP,PyData.eqv,eqD]
 | .lst xs,.non=>by simp[toP,PyData.eqv,eqD]
 | .lst xs,.bl _=>by simp[toP,PyData.eqv,eqD]
 | .lst xs,.int _=>by simp[toP,PyData.eqv,eqD]
 | .lst xs,.str _=>by simp[toP,PyData.eqv,eqD]
 | .lst xs,.tup _=>by simp[toP,PyData.eqv,eqD]
 | .tup xs,.box _=>by simp[toP,PyData.eqv,eqD]
 | .lst xs,.box _=>by simp[toP,PyData.eqv,eqD]
 | .box _,y=>by cases y <;> simp[toP,PyData.eqv,eqD]
theorem jZ:∀xs ys:List D,PyData.eqvAll (fN xs) (fN ys)=jH xs ys
 | [],[]=>by simp[fN,PyData.eqvAll,jH]
 | [],_::_=>by simp[fN,PyData.eqvAll,jH]
 | _::_,[]=>by simp[fN,PyData.eqvAll,jH]
 | x::xs,y::ys=>by simp only[fN,PyData.eqvAll,jH]; rw[gx x y,jZ xs ys]
end
mutual
theorem lY:∀x:D,(toP x).canLay0=cln x
 | .non=>by simp[toP,PyData.canLay0,cln]
 | .bl _=>by simp[toP,PyData.canLay0,cln]
 | .int _=>by simp[toP,PyData.canLay0,cln]
 | .str _=>by simp[toP,PyData.canLay0,cln]
 | .tup xs=>by simp only[toP,PyData.canLay0,cln]; exact jA xs
 | .lst xs=>by simp only[toP,PyData.canLay0,cln]; exact jA xs
 | .box _=>by simp only[toP,PyData.canLay0,cln]; decide +kernel
theorem jA:∀xs:List D,PyData.canLayAll0 (fN xs)=e8 xs
 | []=>by simp[fN,PyData.canLayAll0,e8]
 | x::xs=>by simp only[fN,PyData.canLayAll0,e8]; rw[lY x,jA xs]
end
mutual
theorem mx:∀x:D,(toP x).depth=dep x
 | .non=>by simp[toP,PyData.depth,dep]
 | .bl _=>by simp[toP,PyData.depth,dep]
 | .int _=>by simp[toP,PyData.depth,dep]
 | .str _=>by simp[toP,PyData.depth,dep]
 | .tup xs=>by simp only[toP,PyData.depth,dep]; rw[jG xs]
 | .lst xs=>by simp only[toP,PyData.depth,dep]; rw[jG xs]
 | .box _=>by simp[toP,PyData.depth,dep]
theorem jG:∀xs:List D,PyData.depthAll (fN xs)=fM xs
 | []=>by simp[fN,PyData.depthAll,fM]
 | x::xs=>by simp only[fN,PyData.depthAll,fM]; rw[mx x,jG xs]
end
theorem cX {x:D}(h:eV x):SeqAt.shaped (toP x)=true:=by unfold SeqAt.shaped;rw[lY,mx,h.1,Bool.true_and];exact decide_eq_true h.2
section
variable {X:Cx}{pins:List (Addr×Obj)}{σ:L2.St}{H G:Hp}{s:Shared}
mutual
theorem cW (I:Inv X pins σ H s)(e:ah G H):∀{v:V} {d:D} {u:Value},Den X.K G v d->RelV v u->cln d=true->∃as,Reads s.heap u (toP d) as
 | _,_,_,.non,r,_=>by cases r; exact⟨_,.none⟩
 | _,_,_,.bl,r,_=>by cases r; exact⟨_,.bool _⟩
 | _,_,_,.int,r,_=>by obtain⟨t,rfl⟩:=r; exact⟨_,.int _ _⟩
 | _,_,_,.str,r,_=>by obtain⟨t,rfl⟩:=r; exact⟨_,.str _ _⟩
 | _,_,_,.tup h q,r,c=>by cases r;obtain⟨its,rv,⟨o,h1,h2,n,h3⟩,_⟩:=I.tuple (aU e h);obtain⟨as,z⟩:=iE I e q rv (by rw[cln]at c; exact c);exact⟨_,.tuple h1 h2 h3 (by simpa using z)⟩
 | _,_,_,.lst h q,r,c=>by cases r;obtain⟨its,rv,⟨o,n,h1,h2,_,h3⟩,_⟩:=I.list (aO e h);obtain⟨as,z⟩:=iE I e q rv (by rw[cln]at c; exact c);exact⟨_,.list h1 h2 h3 (by simpa using z)⟩
 | _,_,_,.box _,_,c=>by rw[cln]at c; cases c
theorem iE (I:Inv X pins σ H s)(e:ah G H):∀{vs:List V} {ds:List D} {us:List Value},aq X.K G vs ds->Vals vs us->e8 ds=true->∃as,ReadsAll s.heap us (fN ds) as
 | _,_,_,.nil,.nil,_=>⟨_,.nil⟩
 | _,_,_,.cons h q,.cons r rs,c=>by rw[e8,Bool.and_eq_true]at c;obtain⟨as,z⟩:=cW I e h r c.1;obtain⟨bs,z'⟩:=iE I e q rs c.2;exact⟨_,.cons z z'⟩
end
end
end Ev
namespace Hy
open PySem PySem.Spec PyProof.Rows L2
open Ev (D Den aq ai aU aO Itz Itv zK yN o9 oP eqD eV cW cX gx)
section
variable {X:Cx}{τ:List Sl}{x y z:D}{a b e c tg:Expr}{pos p q:Pos}{k:Nat}{s:Sl}{N:Po}{rest body:List Stmt}{xs ys:List D}{i:Int}
theorem qO (M:Nat->Bool->List Sl->Prop)(B:Bk X k)(h0:∃n t,M n t τ)(hc:∀n t τ',M n t τ'->PT X c (dT X.K τ' t))(hb:∀n τ',M n true τ'->PSs X body (dS X.K τ' { N with nx:=λτ2=>∃m t,m<n/\M m t τ2,ct:=λτ2=>∃m t,m<n/\M m t τ2,bk:=λ_=>False }))
   (hr:∀n τ',M n false τ'->PSs X rest (dS X.K τ' N)):PSs X (.While c body [] pos::rest) (dS X.K τ N):=by
 have hc':PT X c λσ H Q=>∃n t τ',M n t τ'/\dT X.K τ' t σ H Q:=λpins s σ H Q I ⟨n,t,τ',m,q⟩=>hc n t τ' m pins s σ H Q I q;have hb':PSs X body λD σ H=>∃n τ',M n true τ'/\dS X.K τ' { N with nx:=λτ2=>∃m t,m<n/\M m t τ2,ct:=λτ2=>∃m t,m<n/\M m t τ2,bk:=λ_=>False } D σ H:=λpins s σ H D I ⟨n,τ',m,q⟩=>hb n τ' m pins s σ H D I q;refine bf (M:=λτ'=>∃n,M n false τ') (psW (vH B.po hc' hb') λD σ H ⟨A,H₀,B,S,Me⟩=>⟨λm σ' H'=>∃t τ' B',M m t τ'/\Sta X.K A H₀ τ' B' σ' H',?_,?_⟩) λτ' h=>let ⟨n,h⟩:=h; hr n τ' h
 . obtain⟨n,t,h0⟩:=h0;exact⟨n,t,τ,B,h0,S⟩
 rintro m σ' H' ⟨t,τ',B',hM,S'⟩;refine⟨m,t,τ',hM,A,H₀,B',S',λH1 e1=>?_⟩;cases t with
 | false=>exact pY (Me.nx τ' B' σ' H1 ⟨m,hM⟩ (S'.mono e1))
 | true=>refine oj ⟨λσ2 H2=>∃τ2 B2,(∃n t,n<m/\M n t τ2)/\Sta X.K A H₀ τ2 B2 σ2 H2,λσ2 H2 ⟨τ2,B2,⟨n,t,l,q⟩,S2⟩=>⟨n,l,t,τ2,B2,q,S2⟩,m,τ',hM,A,H₀,B',S'.mono e1,?_⟩;exact⟨λτ2 B2 σ2 H2 m S2=>⟨τ2,B2,m,S2⟩,λ_ _ _ _ z=>z.elim,λτ2 B2 σ2 H2 m S2=>⟨τ2,B2,m,S2⟩,Me.rt,Me.xc⟩
noncomputable def eW (xs ys:List D):List D:=(xs.zip ys).map λp=>.tup [p.1,p.2]
theorem cy:(eW xs ys).length=min xs.length ys.length:=by simp[eW]
theorem lL (i:Nat)(h:i<(eW xs ys).length):(eW xs ys)[i]=.tup [xs.getD i .non,ys.getD i .non]:=by rw[cy]at h;simp[eW,show i<xs.length by omega,show i<ys.length by omega]
theorem Aq {K:PySem.W.Frag}{G:Hp}{a b:Addr}{vs ws:List V}(h:SqL K G a vs)(r:aq K G vs xs)(h':SqL K G b ws)(r':aq K G ws ys):Yl K (Itz K a b) (eW xs ys) G:=by
 intro H sg;have hl:=r.length;have hl':=r'.length;refine⟨λi hi=>⟨vs,ws,aO sg h,aO sg h',by rw[cy]at hi; omega⟩,λi hi=>?_⟩;have hi':=hi;rw[cy]at hi';obtain⟨v,hv,dv⟩:=r.get (List.getElem?_eq_getElem (show i<xs.length by omega));obtain⟨w,hw,dw⟩:=r'.get (List.getElem?_eq_getElem (show i<ys.length by omega));refine⟨⟨vs,ws,v,w,aO sg h,aO sg h',hv,hw⟩,λy H' ⟨p,x1,x2,hp,e0,e1,e2,e3⟩=>?_⟩;subst e0 e1;have ex:x1=v:=by have:=e2 vs (aO sg h); rw[hv]at this; exact(Option.some.inj this).symm
 have ey:x2=w:=by have:=e3 ws (aO sg h'); rw[hw]at this; exact(Option.some.inj this).symm
 subst ex ey;refine⟨ai hp _,λM hM sv=>?_⟩;rw[lL,show xs.getD i .non=xs[i] by simp[show i<xs.length by omega],show ys.getD i .non=ys[i] by simp[show i<ys.length by omega]];have up:=sv.trans (av (ai hp (.tup [x1,x2])) λ_ z=>z);exact .tup (SqT.of (jF hM hp)) (.cons (dv.mono up) (.cons (dw.mono up) .nil))
theorem uS {ts:List Expr}{m:Nat}{tp:Pos}(B:Bk X k)(h:PE X a (dE X.K true τ (.d (.lst xs))))(h':PE X b (dE X.K true τ (.d (.lst ys))))(hg:Gl X "zip":=by rfl)(hs:starEach [a,b] X.env=(false,eval a X.env)::starEach [b] X.env:=by rfl)(hs2:starEach [b] X.env=[(false,eval b X.env)]:=by rfl):
   PI X (.Tuple ts m tp) (.Call (.Name "zip" p) [a,b] [] pos) (dI X.K τ (eW xs ys)):=
 piW (o9 B.calm hg (B.blt _ (by decide)) (ab h (ab h' af hs2) hs) hs hs2) λσ H R ⟨A,H₀,B,S,k⟩=>eP S λvs H1 e1 d1=>by
   cases d1 with
   | cons d r=>
     cases r with
     | cons d' r=>
       cases r;cases d with
       | lst h r=>cases d' with
         | lst h' r'=>exact⟨_,_,rfl,⟨_,aO aN h⟩,⟨_,aO aN h'⟩,k _ H1 e1 (Aq h r h' r')⟩
theorem zX {K:PySem.W.Frag}{G:Hp}{a:Addr}{vs:List V}(h:SqL K G a vs)(r:aq K G vs xs):Yl K (Itv K a vs.length) xs.reverse G:=by
 intro H sg;have hl:=r.length;refine⟨λi hi=>by rw[List.length_reverse]at hi; show vs.length<=i; omega,λi hi=>?_⟩;rw[List.length_reverse]at hi;obtain⟨v,hv,dv⟩:=r.get (List.getElem?_eq_getElem (show xs.length-1-i<xs.length by omega));rw[<- hl]at hv;refine⟨⟨by omega,vs,v,aO sg h,hv⟩,λx H' ⟨e1,e2⟩=>?_⟩;subst e1;have ex:x=v:=by have:=e2 vs (aO sg h); rw[hv]at this; exact(Option.some.inj this).symm
 subst ex;refine⟨ah.refl _,λM _ sv=>?_⟩;rw[List.getElem_reverse];exact dv.mono sv
theorem BK (B:Bk X k)(h:PE X a (dE X.K true τ (.d (.lst xs))))(hg:Gl X "reversed":=by rfl)(hs:starEach [a] X.env=[(false,eval a X.env)]:=by rfl):PI X tg (.Call (.Name "reversed" p) [a] [] pos) (dI X.K τ xs.reverse):=
 piW (oP B.calm hg (B.blt _ (by decide)) (ab h af hs) hs) λσ H R ⟨A,H₀,B,S,k⟩=>eP S λvs H1 e1 d1=>by
   cases d1 with
   | cons d r=>
     cases r;cases d with
     | lst h r=>exact⟨_,_,rfl,aO aN h,k _ H1 e1 (zX h r)⟩
theorem zD (hu:X.A.units+64<cLine):OpR X (compareOp .Eq) (λx y H Q=>∃G d e,ah G H/\Den X.K G x d/\Den X.K G y e/\eV d/\eV e/\Q (.bl (eqD d e)) H):=by intro pins s σ H x y v u Q I rx ry ⟨G,d,e,sg,dx,dy,o1,o2,q⟩;obtain⟨as,r1⟩:=cW I sg dx rx o1.1;obtain⟨bs,r2⟩:=cW I sg dy ry o2.1;exact eq_dataH r1 r2 (cX o1) (cX o2) hu ⟨.bl _,H,I,by rw[gx]; rfl,q⟩
theorem AU (hu:X.A.units+64<cLine):OpR X (compareOp .NotEq) (λx y H Q=>∃G d e,ah G H/\Den X.K G x d/\Den X.K G y e/\eV d/\eV e/\Q (.bl (!eqD d e)) H):=by intro pins s σ H x y v u Q I rx ry ⟨G,d,e,sg,dx,dy,o1,o2,q⟩;obtain⟨as,r1⟩:=cW I sg dx rx o1.1;obtain⟨bs,r2⟩:=cW I sg dy ry o2.1;exact ne_dataH r1 r2 (cX o1) (cX o2) hu ⟨.bl _,H,I,by rw[gx]; rfl,q⟩
theorem BI (B:Bk X k)(h1:eV x)(h2:eV y):cM X (compareOp .Eq) x y (.bl (eqD x y)):=⟨_,zD B.room.units,λM v w H Q _ d1 d2 q=>⟨_,x,y,aN,d1,d2,h1,h2,q _ H (ah.refl _) .bl⟩⟩
theorem yo (B:Bk X k)(h1:eV x)(h2:eV y):cM X (compareOp .NotEq) x y (.bl (!eqD x y)):=⟨_,AU B.room.units,λM v w H Q _ d1 d2 q=>⟨_,x,y,aN,d1,d2,h1,h2,q _ H (ah.refl _) .bl⟩⟩
variable {u v:Str}
theorem iM:∀{bs:List Bool} {us:List Value},Vals (bs.map V.bl) us->us=bs.map Value.bool
 | [],_,h=>by cases h; rfl
 | b::bs,_,h=>by
   cases h with
   | cons rv rs=>rw[iM rs,show _=Value.bool b from rv]; rfl
theorem t4 (hc:X.calm=true):eQ X (.builtin "all") (λxs H Q=>∃(p:Addr) (bs:List Bool),xs=[.ref p]/\SqL X.K H p (bs.map V.bl)/\Q (.bl (bs.all id)) H):=by
 intro pins s σ H xs us Q I r q;obtain⟨p,bs,rfl,h,q⟩:=q
 obtain⟨u,rfl,ru⟩:∃u,us=[u]/\RelV (.ref p) u:=by
   cases r with
   | cons r1 r=>cases r; exact⟨_,rfl,r1⟩
 cases (show u=Value.ref _ from ru);obtain⟨its,rv,pl,hz⟩:=I.list h;obtain rfl:=iM rv;have lt:∀a,s.heap.IsList a (bs.map Value.bool).toArray->a≠s.heap.objs.size:=λa ⟨o,z,_⟩=>Nat.ne_of_lt (Heap.lt_size z);refine call_all_walk (wpAny_pyIter_list pl.isList ⟨_,_,_,_,_,_,λi=>(bs.map Value.bool)[i]?==some (Value.bool true),rfl,Walks.list (A:=X.A.in1) (I.ok.hd hc) _ _ (lt _ pl.isList) (bs.map Value.bool).toArray,⟨⟨_,Heap.get?_push_size _ rfl,rfl,rfl⟩,?_⟩,λi v s' Q' E' hP hQ=>?_,λh' tk hk=>?_⟩)
 . obtain⟨o,z1,z2⟩:=pl.isList;exact⟨o,Heap.get?_push_of_some _ z1,z2⟩
 . have hP':(bs.map Value.bool)[i]?=some v:=by simpa using hP
   obtain⟨c,_,rfl⟩:=List.mem_map.mp (List.mem_of_getElem? hP');refine wpAny_truthy_bool ?_;have hQ:Q' ((bs.map Value.bool)[i]?==some (Value.bool true)) s':=hQ;rw[hP']at hQ;cases c
   . exact hQ
   . exact hQ
 . refine⟨.bl (bs.all id),H,I.kept (t':=tk) λb' o z=>?_,?_,q⟩
   . refine hk b' o (λhm=>?_) (Heap.get?_push_of_some _ z);have:b'=s.heap.objs.size:=by simpa using hm
     exact absurd (Heap.lt_size z) (by rw[this]; exact Nat.lt_irrefl _)
   . have e:∀bs:List Bool,bs.all id=(List.range (bs.map Value.bool).toArray.size).all λi=>(bs.map Value.bool)[i]?==some (Value.bool true):=λbs=>by
       rw[List.size_toArray,List.length_map];induction bs with
       | nil=>rfl
       | cons b bs ih=>rw[List.all_cons,ih,List.length_cons,List.range_succ_eq_map,List.all_cons,List.all_map];congr 1;cases b <;> rfl
     rw[e]; rfl
theorem rA {K:PySem.W.Frag}{H:Hp}:∀{vs:List V} {bs:List Bool},aq K H vs (bs.map .bl)->vs=bs.map V.bl
 | _,[],h=>by cases h; rfl
 | _,_::_,h=>by
   cases h with
   | cons d r=>cases d; rw[rA r]; rfl
theorem vq (hc:X.calm=true)(bs:List Bool)(hx:xs=bs.map .bl):iz X (.builtin "all") [.lst xs] (.d (.bl (bs.all id))):=⟨_,t4 hc,λM vs H Q _ d q=>by
 subst hx;cases d with
 | cons d r=>
   cases r;cases d with
   | lst h r=>
     cases rA r;exact⟨_,_,rfl,aO aN h,q _ H [] (ah.refl _) eI (iH .bl)⟩⟩
end
end Hy
namespace Hy
open PySem PySem.Spec PyProof.Rows L2
open Ev (D Den aq aD aH ai aU aO)
end Hy
namespace Hy
open PySem PySem.Spec PyProof.Rows L2
open Ev (D Den aq ai aU aO aM eZ dt PTs cQ da)
section
variable {X:Cx}{C:Bool}{τ:List Sl}{x y z:D}{b e o:Expr}{es:List Expr}{pos p q:Pos}{k:Nat}{s:Sl}{i:Int}
def dN' (K:PySem.W.Frag)(C:Bool)(τ:List Sl)(ns:List Nd):TA:=λσ H Q=>∃A H₀ B,Sta K A H₀ τ B σ H/\∀vs H' bs,ah H H'->Fr H H' bs->bs.Nodup->aQ K (hd H' λb=>vw C A B b\/b∈bs) H' vs bs ns->Q vs H'
theorem yb:PA X [] (dN' X.K C τ []):=paW eO λσ H Q ⟨A,H₀,B,S,k⟩=>k [] H [] (ah.refl _) eI List.nodup_nil .nil
theorem Sta.hide {K:PySem.W.Frag}{A:Addr->Prop}{H₀ H H1:Hp}{B:Nat->List Addr}{σ:L2.St}{b1:List Addr}(S:Sta K A H₀ τ B σ H)(e:ah H H1)(f:Fr H H1 b1):Sta K (λb=>A b\/b∈b1) (hd H1 λb=>∃i,b∈B i) τ B σ H1 where
 same:=aN
 len:=S.len
 sl:=λi s h=>(S.sl i s h).mono (λb o z=>by
   obtain⟨z1,z2⟩:=ag.mp z;refine ag.mpr ⟨λw=>?_,e _ _ z2⟩;rcases w with (w | w) | w
   . exact z1 (.inl w)
   . rw[(f b w).1]at z2; cases z2
   . exact z1 (.inr w)) e
 fr:=λi b hb=>by
   cases q:hd H1 (λb=>∃i,b∈B i) b with
   | none=>rfl
   | some o=>exact absurd ⟨i,hb⟩ (ag.mp q).1
 uq:=S.uq
 ad:=λb hb=>by
   rcases hb with z | z
   . obtain⟨o,q⟩:=S.ad b z;exact⟨o,ag.mpr ⟨λ⟨i,w⟩=>(by rw[S.fr i b w]at q; cases q),e _ _ (S.same _ _ q)⟩⟩
   . obtain⟨w1,o,w2⟩:=f b z;exact⟨o,ag.mpr ⟨λ⟨i,w⟩=>(by obtain⟨o',q⟩:=S.bd i b w; rw[w1]at q; cases q),w2⟩⟩
 bd:=λi b hb=>let ⟨o,q⟩:=S.bd i b hb; ⟨o,e _ _ q⟩
theorem lN {A:Addr->Prop}{B:Nat->List Addr}{b1:List Addr}{b:Addr}(h:vw C A B b\/b∈b1):vw C (λb=>A b\/b∈b1) B b:=by
 cases C with
 | true=>
   rcases h with (h | h) | h
   . exact .inl (.inl h)
   . exact .inr h
   . exact .inl (.inr h)
 | false=>exact h
theorem uD {n:Nd}{ns:List Nd}(ha:PE X e (dE X.K C τ s))(hn:ky s=some n)(hr:PA X es (dN' X.K C τ ns))(hs:starEach (e::es) X.env=(false,eval e X.env)::starEach es X.env:=by rfl):PA X (e::es) (dN' X.K C τ (n::ns)):=paW (b7 ha hr hs) λσ H Q ⟨A,H₀,B,S,k⟩=>
 ⟨A,H₀,B,S,λv H1 b1 e1 f1 h1=>⟨_,_,B,S.hide e1 f1,λvs H2 b2 e2 f2 n2 h2=>by
   obtain⟨q1,n1⟩:=h1.nd hn;refine k _ H2 (b1++b2) (e1.trans e2) (λb hb=>?_) (List.nodup_append.mpr ⟨n1,n2,λx hx y hy z=>?_⟩) (.cons (q1.frame ?_ λb hb=>?_) (h2.frame ?_ λ_ _=>rfl))
   . rcases List.mem_append.mp hb with z | z
     . obtain⟨w1,o,w2⟩:=f1 b z; exact⟨w1,o,e2 _ _ w2⟩
     . exact⟨e1.free (f2 b z).1,(f2 b z).2⟩
   . obtain⟨_,o,w⟩:=f1 x hx; rw[z,(f2 y hy).1]at w; cases w
   . intro b o z;obtain⟨z1,z2⟩:=ag.mp z;refine ag.mpr ⟨λw=>?_,e2 _ _ z2⟩;rcases w with w | w
     . exact z1 (.inl w)
     . rcases List.mem_append.mp w with w | w
       . exact z1 (.inr w)
       . rw[(f2 b w).1]at z2; cases z2
   . obtain⟨_,o,w⟩:=f1 b hb;rw[w,e2 _ _ w]
   . refine av (ah.refl _) λb w=>?_;rcases w with w | w
     . exact .inl (lN (.inl w))
     . rcases List.mem_append.mp w with w | w
       . exact .inl (lN (.inr w))
       . exact .inr w⟩⟩
theorem vo {K:PySem.W.Frag}{H:Hp}{M:Addr->Prop}{p:Addr}{o:HO}{vs:List V}{bs:List Addr}{ns:List Nd}(hp:H p=none)(d:aQ K (hd H λb=>M b\/b∈bs) H vs bs ns)(nd:bs.Nodup):
   aQ K (hd (upd H p o) λb=>M b\/b∈p::bs) (upd H p o) vs bs ns/\(p::bs).Nodup:=by
 have off:∀b∈bs,b≠p:=λb hb z=>by obtain⟨w,q⟩:=d.some_of b hb; rw[z,hp]at q; cases q
 refine⟨d.frame (λb w z=>?_) λb hb=>au (off b hb),List.nodup_cons.mpr ⟨λz=>off p z rfl,nd⟩⟩;obtain⟨z1,z2⟩:=ag.mp z;have ne:b≠p:=λy=>by rw[y,hp]at z2; cases z2
 refine ag.mpr ⟨λy=>?_,by rw[au ne]; exact z2⟩;rcases y with y | y
 . exact z1 (.inl y)
 . rcases List.mem_cons.mp y with y | y
   . exact ne y
   . exact z1 (.inr y)
theorem ug {ns:List Nd}(h:PA X es (dN' X.K C τ ns))(hl:Nat.ble ns.length 1000=true:=by rfl):PE X (.List es pos) (dE X.K C τ (.n (.l ns))):=peW (uI h) λσ H Q ⟨A,H₀,B,S,k⟩=>
 ⟨A,H₀,B,S,λvs H1 bs e1 f1 n1 h1=>⟨by rw[h1.length]; exact Nat.le_of_lt (hX (Nat.le_of_ble_eq_true hl)),λp hp=>by
   obtain⟨z1,z2⟩:=vo (o:=.lst vs) hp h1 n1
   exact k _ _ (p::bs) (e1.trans (ai hp _)) (λb hb=>by
     rcases List.mem_cons.mp hb with w | w
     . subst w; exact⟨e1.free hp,_,aB⟩
     . obtain⟨w1,o,w2⟩:=f1 b w; exact⟨w1,o,ai hp _ _ _ w2⟩) ⟨z2,_,rfl,.l aB z1⟩⟩⟩
end
section
variable {X:Cx}{C:Bool}{τ τ':List Sl}{x y z:D}{b e tg it elt o:Expr}{es ifs:List Expr}{pos p q:Pos}{k:Nat}{s:Sl}{N:Po}{rest:List Stmt}{xs:List D}{i:Nat}{j:Int}{scope:Scope}
noncomputable def dGs (K:PySem.W.Frag)(τ:List Sl)(xs:List D)(τ':List Sl):TGs:=λvs σ H Q=>∃A H₀ B,Sta K A H₀ τ B σ H/\aq K (hd H (own A B)) vs xs/\∀σ' B',Sta K A H₀ τ' B' σ' H->Q σ' H
theorem Bp {es:List Expr}{t t':TGs}(h:PGs X es t)(f:∀v σ H Q,t' v σ H Q->t v σ H Q):PGs X es t':=λpins s σ H v u Q I r q=>h pins s σ H v u Q I r (f v σ H Q q)
theorem AA:PGs X [] (dGs X.K τ [] τ):=Bp qA λv σ H Q ⟨A,H₀,B,S,d,k⟩=>by cases d;exact⟨rfl,k σ B S⟩
theorem rj (i:Nat){n:Str}(hN:X.N.Nodup)(h:PGs X es (dGs X.K (τ.set i (.d x)) xs τ'))(hi:X.N[i]?=some n:=by rfl)(hx:Loc X.env.scope n:=by first | exact .inl rfl | exact .inr rfl)(hf:X.fn n=true\/X.env.scope.names.lookup n=some .local:=by first | exact .inl rfl | exact .inr rfl | assumption):PGs X (.Name n p::es) (dGs X.K τ (x::xs) τ'):=
 Bp (jq (dg (i:=i) hN hi hx hf) h) λv σ H Q ⟨A,H₀,B,S,d,k⟩=>by
   cases d with
   | cons d r=>have sub:∀b,own A (upB B i []) b->own A B b:=λb z=>z.elim .inl λ⟨j,z⟩=>(aP z).elim (λz=>nomatch z.2) λz=>.inr ⟨j,z.2⟩;exact⟨_,_,rfl,A,H₀,_,S.set (ah.refl _) (bs:=[]) (λ_ z=>nomatch z) (iH d),r.mono (av (ah.refl _) sub),k⟩
theorem CF {m:Nat}(hc:X.calm=true)(h:PGs X es (dGs X.K τ xs τ'))(hl:(assignEach es X.env).length=xs.length:=by rfl)(hst:(assignEach es X.env).findIdx? (·.1)=none:=by rfl):PG X (.Tuple es m pos) (dG X.K τ (.tup xs) τ'):=
 pgW (uL (n:=xs.length) hc h hl hst) λv σ H Q ⟨A,H₀,B,S,d,k⟩=>by
   cases d with
   | tup h r=>exact⟨_,_,rfl,aU aN h,r.length,A,H₀,B,S,r,k⟩
theorem A1 {m:Nat}(he:PE X e (dE X.K true τ (.d x)))(hg:PG X (.Tuple es m p) (dG X.K τ x τ'))(hr:PSs X rest (dS X.K τ' N))(hs:swapsWithSole [.Tuple es m p] e pos.line X.env=pure false:=by rfl)(hw:swappedStores [.Tuple es m p] e X.env=pure none:=by rfl)
   (h1:(assignEach [.Tuple es m p] X.env).map (·.2)=[assign (.Tuple es m p) X.env]:=by rfl):PSs X (.Assign [.Tuple es m p] e pos::rest) (dS X.K τ N):=
 bf (M:=(·=τ')) (psW (qi he hg hs hw h1) λD σ H ⟨A,H₀,B,S,Me⟩=>aT S λv H1 e1 d1=>⟨A,H₀,B,S.mono e1,d1,λσ' B' S'=>Me.nx _ _ _ _ rfl S'⟩) λ_ e=>e▸hr
theorem CV (T:Nat->List Sl){f:Nat->D}(B:Bk X k)(hi:PI X tg it (dI X.K τ xs))(hl:xs.length<1000000)(hT:∀i,(T i).length=(bR τ (bCp X.N scope)++[Sl.un]).length/\∀(l:Nat) (x:D),(bR τ (bCp X.N scope)++[Sl.un])[l]?=some (.d x)->(T i)[l]?=some (.d x))
   (hg:∀i (h:i<xs.length) s H fp,PG (cpX X s H scope fp) tg (dG X.K (bR τ (bCp X.N scope)++[.un]) xs[i] (T i)))
   (he:∀i,i<xs.length->∀s H fp,PE (cpX X s H scope fp) elt (dE X.K true (T i) (.d (f i)))) (hc:bOk X.env.scope scope=true:=by kernel_rfl) (hs:∀x,foldedSetIterable it X.env x=pure x:=by intro _; rfl) :
   Cmp X elt tg it [] scope τ ((List.range xs.length).map f):=by
 have h:=vW (T:=T) (t:=λ_=>true) (f:=f) (elt:=elt) (ifs:=[]) hc hi hT hg (λi h s H fp=>λpins s' σ H' Q I ⟨A,H₀,B,S,q⟩=>mz pins s' σ H' Q I (q H' (ah.refl _))) (λi h _ s H fp=>he i h s H fp) hl hs
 rwa [List.filter_eq_self.mpr λ_ _=>rfl]at h
structure ue (X:Cx)(elt tg it:Expr)(ifs:List Expr)(scope:Scope)(τ:List Sl)(ns:List Nd):Prop where
 ex:∃(In:TG->TT->TE->Prop) (caps:List (Option Nat)) (N:List Str) (wi:TI),dt X scope N caps/\PI X tg it wi/\(∀g tt te,In g tt te->∀s H fp,PG (aM X s H scope N fp) tg g/\PTs (aM X s H scope N fp) ifs tt/\PE (aM X s H scope N fp) elt te) /\
   ∀C σ H Q,dE X.K C τ (.n (.l ns)) σ H Q->da In caps wi σ H Q
 hs:∀x,foldedSetIterable it X.env x=pure x
theorem xJ {T:Nat->List Sl}{f:Nat->Nd}{S':Nat->Sl}(B:Bk X k)(hc:bOk X.env.scope scope=true)(hi:PI X tg it (dI X.K τ xs))(hT:∀i,(T i).length=(bR τ (bCp X.N scope)++[Sl.un]).length/\∀(l:Nat) (x:D),(bR τ (bCp X.N scope)++[Sl.un])[l]?=some (.d x)->(T i)[l]?=some (.d x))
   (hg:∀i (h:i<xs.length) s H fp,PG (cpX X s H scope fp) tg (dG X.K (bR τ (bCp X.N scope)++[.un]) xs[i] (T i)))
   (he:∀i,i<xs.length->∀s H fp,PE (cpX X s H scope fp) elt (dE X.K true (T i) (S' i))) (hn:∀i,i<xs.length->ky (S' i)=some (f i)) (hl:xs.length<1000000) (hs:∀x,foldedSetIterable it X.env x=pure x:=by intro _; rfl) :
   ue X elt tg it [] scope τ ((List.range xs.length).map f):=by
 obtain⟨cap,_⟩:=gL hc;generalize hτ:bR τ (bCp X.N scope)++[Sl.un]=τb at *
 refine⟨⟨λg tt te=>g=(λv σ H Q=>∃(i:Nat) (h:i<xs.length),dG X.K τb xs[i] (T i) v σ H Q)/\tt=(λσ H Q=>Q true H)/\te=(λσ H Q=>∃i,i<xs.length/\dE X.K true (T i) (S' i) σ H Q),_,_,_,cap,hi,?_,?_⟩,hs⟩
 . rintro g tt te ⟨rfl,rfl,rfl⟩ s H fp;exact⟨λpins s' σ H' v u Q I r ⟨i,h,q⟩=>hg i h s H fp pins s' σ H' v u Q I r q,mz,λpins s' σ H' Q I ⟨i,h,q⟩=>he i h s H fp pins s' σ H' Q I q⟩
 rintro C σ H Q ⟨A,H₀,B,S,kk⟩;refine⟨A,H₀,B,S,λJ H1 e1 yl=>⟨_,_,_,⟨rfl,rfl,rfl⟩,λD hD=>?_⟩⟩;have S1:=S.mono e1
 have flat:∀(l:Nat) (s:Sl),τb[l]?=some s->s=.un\/∃x,s=.d x:=λl s h=>by
   rw[<- hτ]at h;rcases List.mem_append.mp (List.mem_of_getElem? h) with z | z
   . unfold bR at z;obtain⟨o,_,ho⟩:=List.mem_map.mp z;split at ho
     . split at ho
       . exact .inr ⟨_,ho.symm⟩
       . exact .inl ho.symm
     . exact .inl ho.symm
   . exact .inl (List.mem_singleton.mp z)
 have slots:∀{σ':L2.St} {H':Hp} {rs:List Addr},ah H1 H'->(∃o,H' D=some o)->(∀b∈rs,∃o,H' b=some o)->σ'.length=τb.length->(∀(l:Nat) (s:Sl),τb[l]?=some s->bY X.K (hd H' λb=>own A B b\/b=D\/b∈rs) H' (σ'[l]?).join [] s)->Sta X.K (λb=>own A B b\/b=D\/b∈rs) H' τb (λ_=>[]) σ' H':=λ{σ' H' rs} e1 e2 e5 e3 e4=>⟨ah.refl _,e3,λl s h=>(e4 l s h).mono (av (ah.refl _) λ_ z=>z.elim id λ⟨_,z⟩=>(nomatch z)) (ah.refl _),λ_ _ z=>(nomatch z),λ_ _ _ z=>(nomatch z),λb z=>z.elim (λz=>let ⟨o,q⟩:=S1.dm b z; ⟨o,e1 _ _ q⟩) λz=>z.elim (λz=>z▸e2) (e5 b),λ_ _ z=>(nomatch z)⟩
 refine⟨λi m σ' H'=>m=xs.length-i/\i<=xs.length/\ah H1 H'/\(∃vs rs,H' D=some (.lst vs)/\vs.length<=i/\aQ X.K (hd H' λb=>own A B b\/b=D\/b∈rs) H' vs rs ((List.range i).map f)/\(D::rs).Nodup/\(∀b∈rs,H1 b=none) /\
   σ'.length=τb.length/\∀(l:Nat) (s:Sl),τb[l]?=some s->bY X.K (hd H' λb=>own A B b\/b=D\/b∈rs) H' (σ'[l]?).join [] s),⟨xs.length,rfl,Nat.zero_le _,ai hD _,[],[],aB,Nat.le_refl _,.nil,by simp,λ_ z=>(nomatch z),?_,λl s h=>?_⟩,?_⟩
 . rw[<- hτ]; unfold eZ bR; rw[List.length_append,List.length_append,List.length_map,List.length_map]; rfl
 . have hv:ah (hd H (own A B)) (hd (upd H1 D (.lst [])) λb=>own A B b\/b=D\/b∈([]:List Addr)):=λb o z=>by
     obtain⟨z1,z2⟩:=ag.mp z;have z2:=e1 _ _ z2;have ne:b≠D:=λz=>by rw[z,hD]at z2; cases z2
     exact ag.mpr ⟨λy=>y.elim z1 λy=>y.elim ne λy=>(nomatch y),by rw[au ne]; exact z2⟩
   rcases flat l s h with rfl | ⟨x,rfl⟩
   . rfl
   . rw[<- hτ]at h
     have hlt:l<(bCp X.N scope).length:=by
       rcases Nat.lt_or_ge l (bCp X.N scope).length with h' | h'
       . exact h'
       . exfalso;rw[List.getElem?_append_right (by unfold bR; rw[List.length_map]; exact h')]at h;cases e:l-(bR τ (bCp X.N scope)).length with
         | zero=>rw[e]at h; cases h
         | succ n=>rw[e]at h; cases h
     rw[List.getElem?_append_left (by unfold bR; rw[List.length_map]; exact hlt)]at h;rw[List.getElem?_append_left (by unfold eZ; rw[List.length_map]; exact hlt)];unfold bR at h;unfold eZ;rw[List.getElem?_map]at h ⊢;cases e:(bCp X.N scope)[l]? with
     | none=>rw[e]at h; cases h
     | some o=>
       rw[e]at h;cases o with
       | none=>cases h
       | some i=>
         simp only[Option.map_some,Option.some.injEq]at h;split at h
         . rename_i x' hx';cases h;obtain⟨_,u,eu,d⟩:=S.sl i _ hx';exact⟨rfl,u,by simpa using eu,d.mono hv⟩
         . cases h
 rintro i m σ' H' ⟨rfl,hi,e2,vs,rs,hv1,hv2,hv3,hnd,hfr,hlen,hsl⟩;obtain⟨y1,y2⟩:=yl H' (aN.trans e2);have rsd:∀b∈rs,∃o,H' b=some o:=hv3.some_of;by_cases hlt:i<xs.length
 . obtain⟨g,y⟩:=y2 i hlt;refine .inr ⟨g,λx H2 hy=>?_⟩;obtain⟨e3,dx⟩:=y x H2 hy;have S2:=slots e2 ⟨_,hv1⟩ rsd hlen hsl;have o0:∀b,own (λb=>own A B b\/b=D\/b∈rs) (λ_=>([]:List Addr)) b->own A B b\/b=D\/b∈rs:=λb z=>z.elim id λ⟨_,z⟩=>(nomatch z)
   have dx':=dx _ S2.dm (λb o z=>by
     obtain⟨z1,z2⟩:=ag.mp z;exact ag.mpr ⟨λy=>(o0 b y).elim z1 λy=>y.elim (λy=>(by rw[y,hD]at z2; cases z2)) λy=>(by rw[hfr b y]at z2; cases z2),e2 _ _ z2⟩)
   refine⟨i,hlt,_,_,_,S2.mono e3,dx',λσ2 B2 S3=>?_⟩;refine oj ⟨i,hlt,_,_,_,S3,λv H5 bs e5 hf5 d5=>?_⟩;obtain⟨nv,ndv⟩:=d5.nd (hn i hlt);have e6:=e3.trans e5;have hv5:=e6 _ _ hv1;have bsD:∀b∈bs,b≠D:=λb hb z=>by have:=(hf5 b hb).1; rw[z,e3 _ _ hv1]at this; cases this
   have bsR:∀b∈bs,b∉rs:=λb hb z=>by obtain⟨o,q⟩:=rsd b z; have:=(hf5 b hb).1; rw[e3 _ _ q]at this; cases this
   refine⟨vs,xs.length-(i+1),hv5,Nat.lt_trans (Nat.lt_of_le_of_lt hv2 (Nat.lt_trans hlt hl)) (by decide),by omega,rfl,hlt,?_,vs++[v],rs++bs,aB,by rw[List.length_append]; exact Nat.succ_le_succ hv2,?_,?_,?_,S3.len.trans (hT i).1,λl s h=>?_⟩
   . intro b o z;have ne:b≠D:=λy=>by rw[y,hD]at z; cases z
     rw[au ne];exact e6 _ _ (e2 _ _ z)
   . rw[List.range_succ,List.map_append]
     have sm1:ah (hd H5 λb=>vw true (λb=>own A B b\/b=D\/b∈rs) B2 b\/b∈bs) (hd (upd H5 D (.lst (vs++[v]))) λb=>own A B b\/b=D\/b∈rs++bs):=λb o z=>by
       obtain⟨z1,z2⟩:=ag.mp z;refine ag.mpr ⟨λy=>z1 ?_,by rw[au (λy:b=D=>z1 (.inl (.inl (.inr (.inl y)))))]; exact z2⟩;rcases y with y | y | y
       . exact .inl (.inl (.inl y))
       . exact .inl (.inl (.inr (.inl y)))
       . exact(List.mem_append.mp y).elim (λy=>.inl (.inl (.inr (.inr y)))) .inr
     have sm2:ah (hd H' λb=>own A B b\/b=D\/b∈rs) (hd (upd H5 D (.lst (vs++[v]))) λb=>own A B b\/b=D\/b∈rs++bs):=λb o z=>by
       obtain⟨z1,z2⟩:=ag.mp z;refine ag.mpr ⟨λy=>?_,by rw[au (λy:b=D=>z1 (.inr (.inl y)))]; exact e6 _ _ z2⟩;rcases y with y | y | y
       . exact z1 (.inl y)
       . exact z1 (.inr (.inl y))
       . rcases List.mem_append.mp y with y | y
         . exact z1 (.inr (.inr y))
         . have:=(hf5 b y).1; rw[e3 _ _ z2]at this; cases this
     refine aQ.snoc (nv.frame sm1 λb hb=>au (bsD b hb)) (hv3.frame sm2 λb hb=>?_);obtain⟨o,q⟩:=rsd b hb;rw[au (λz:b=D=>(List.nodup_cons.mp hnd).1 (by rw[<- z]; exact hb)),e6 _ _ q,q]
   . obtain⟨n1,n2⟩:=List.nodup_cons.mp hnd;refine List.nodup_cons.mpr ⟨λz=>?_,List.nodup_append.mpr ⟨n2,ndv,λx hx y hy z=>bsR y hy (z▸hx)⟩⟩;exact(List.mem_append.mp z).elim n1 λz=>bsD D z rfl
   . intro b hb;rcases List.mem_append.mp hb with z | z
     . exact hfr b z
     . exact(e2.trans e3).free (hf5 b z).1
   . rcases flat l s h with rfl | ⟨x,rfl⟩
     . rfl
     . obtain⟨_,u,eu,d⟩:=S3.sl l _ ((hT i).2 l x h);refine⟨rfl,u,eu,d.mono λb o z=>?_⟩;obtain⟨z1,z2⟩:=ag.mp z;refine ag.mpr ⟨λy=>?_,by rw[au (λy:b=D=>z1 (.inl (.inr (.inl y))))]; exact e5 _ _ z2⟩;rcases y with y | y | y
       . exact z1 (.inl (.inl y))
       . exact z1 (.inl (.inr (.inl y)))
       . rcases List.mem_append.mp y with y | y
         . exact z1 (.inl (.inr (.inr y)))
         . rw[(hf5 b y).1]at z2; cases z2
 . have e:i=xs.length:=by omega
   subst e;refine .inl ⟨y1 _ (Nat.le_refl _),kk _ _ (D::rs) (e1.trans e2) (λb hb=>?_) ⟨hnd,_,rfl,.l hv1 (hv3.frame (av (ah.refl _) λb z=>?_) λ_ _=>rfl)⟩⟩
   . rcases List.mem_cons.mp hb with rfl | z
     . exact⟨e1.free hD,_,hv1⟩
     . exact⟨e1.free (hfr b z),rsd b z⟩
   . rcases z with z | z
     . exact .inl (iB z)
     . exact .inr ((List.mem_cons.mp z).elim .inl .inr)
theorem A9 (j:Nat){n:Str}{g:Nat->D}{f:Nat->Nd}{S':Nat->Sl}(B:Bk X k)(hi:PI X (.Name n p) it (dI X.K τ xs))(hx:∀i (h:i<xs.length),xs[i]=g i)(hl:xs.length<1000000)
   (he:∀i,i<xs.length->∀s H fp,PE (cpX X s H scope fp) elt (dE X.K true ((bR τ (bCp X.N scope)++[Sl.un]).set j (.d (g i))) (S' i))) (hn:∀i,i<xs.length->ky (S' i)=some (f i))
   (hc:bOk X.env.scope scope=true:=by kernel_rfl) (hu:(bR τ (bCp X.N scope)++[Sl.un])[j]?=some .un:=by rfl) (hN:(bNm scope++[("#" : Str)])[j]?=some n:=by rfl) (hv:∀s H fp,Loc (cpX X s H scope fp).env.scope n:=by intro _ _ _; first | exact .inl rfl | exact .inr rfl)
   (hf:∀s H fp,(cpX X s H scope fp).fn n=true\/(cpX X s H scope fp).env.scope.names.lookup n=some .local:=by intro _ _ _; first | exact .inr rfl | exact .inl rfl) (hs:∀x,foldedSetIterable it X.env x=pure x:=by intro _; rfl) :
   ue X elt (.Name n p) it [] scope τ ((List.range xs.length).map f):=by
 refine xJ (T:=λi=>(bR τ (bCp X.N scope)++[Sl.un]).set j (.d (g i))) B hc hi (λi=>⟨List.length_set,λl x h=>?_⟩) (λi h s H fp=>?_) he hn hl hs
 . rw[List.getElem?_set_ne (λz=>by rw[<- z,hu]at h; cases h)];exact h
 . rw[hx i h];exact z9 j (gL hc).2 hN (hv s H fp) (hf s H fp)
end
section
variable {X:Cx}{τ:List Sl}{x z:D}{it elt:Expr}{p:Pos}{k:Nat}{s:Sl}{N:Po}{xs:List D}{i:Nat}{scope:Scope}
theorem zd (j l:Nat){n m:Str}{p2 pt:Pos}{md:Nat}{g g' f:Nat->D}(B:Bk X k)(hi:PI X (.Tuple [.Name n p,.Name m p2] md pt) it (dI X.K τ xs))(hx:∀i (h:i<xs.length),xs[i]=.tup [g i,g' i])(hl:xs.length<1000000)
   (he:∀i,i<xs.length->∀s H fp,PE (cpX X s H scope fp) elt (dE X.K true (((bR τ (bCp X.N scope)++[Sl.un]).set j (.d (g i))).set l (.d (g' i))) (.d (f i))))
   (hc:bOk X.env.scope scope=true:=by kernel_rfl) (hu:(bR τ (bCp X.N scope)++[Sl.un])[j]?=some .un:=by rfl) (hu':(bR τ (bCp X.N scope)++[Sl.un])[l]?=some .un:=by rfl) (hN:(bNm scope++[("#" : Str)])[j]?=some n:=by rfl) (hN':(bNm scope++[("#" : Str)])[l]?=some m:=by rfl) (hv:∀s H fp,Loc (cpX X s H scope fp).env.scope n:=by intro _ _ _; first | exact .inl rfl | exact .inr rfl) (hv':∀s H fp,Loc (cpX X s H scope fp).env.scope m:=by intro _ _ _; first | exact .inl rfl | exact .inr rfl)
   (hf:∀s H fp,(cpX X s H scope fp).fn n=true\/(cpX X s H scope fp).env.scope.names.lookup n=some .local:=by intro _ _ _; first | exact .inr rfl | exact .inl rfl) (hf':∀s H fp,(cpX X s H scope fp).fn m=true\/(cpX X s H scope fp).env.scope.names.lookup m=some .local:=by intro _ _ _; first | exact .inr rfl | exact .inl rfl) (hs:∀x,foldedSetIterable it X.env x=pure x:=by intro _; rfl) :
   Cmp X elt (.Tuple [.Name n p,.Name m p2] md pt) it [] scope τ ((List.range xs.length).map f):=
 CV (λi=>((bR τ (bCp X.N scope)++[Sl.un]).set j (.d (g i))).set l (.d (g' i))) B hi hl (λi=>⟨by rw[List.length_set,List.length_set],λr x h=>by
     rw[List.getElem?_set_ne (λz=>by rw[<- z,hu']at h; cases h),List.getElem?_set_ne (λz=>by rw[<- z,hu]at h; cases h)];exact h⟩)
   (λi h s H fp=>by rw[hx i h]; exact yB j l (B.comp s H scope fp).calm (gL hc).2 hN hN' (hv s H fp) (hv' s H fp) (hf s H fp) (hf' s H fp)) he hc hs
end
end Hy
namespace Su
open PySem PyProof.Rows HT
open PySem.SeqAt
open PySem.AutoSeq1 (wpAny_loadPart')
open PySem.MeetsSeq PySem.MeetsSeq2 PySem.MeetsSeq3
end Su
namespace Hy
open PySem PySem.Spec PyProof.Rows L2
open Ev (D Den aq aD aH ai aU aO)
section
variable {X:Cx}{x y z:D}{a b e:Expr}{p:Pos}{k:Nat}{s:Sl}{xs ys:List D}
theorem xT:OpR X (binaryOp .Add) (λx y H Q=>∃a b ys,x=.ref a/\y=.ref b/\SqT X.K H a []/\SqT X.K H b ys/\Q (.ref b) H):=by intro pins s σ H x y v u Q I rx ry h;obtain⟨a,b,ys,rfl,rfl,ha,hb,q⟩:=h;cases rx;cases ry;obtain⟨its,r1,p1,_⟩:=I.tuple ha;obtain⟨its2,r2,p2,_⟩:=I.tuple hb;cases r1;obtain⟨⟨cls,dd,data,sl⟩,ho,hc,n,hd⟩:=id p1;obtain⟨⟨cls2,dd2,data2,sl2⟩,ho2,hc2,n2,hd2⟩:=id p2;simp only at hc hd hc2 hd2;subst hc hd hc2 hd2;exact concat_meets ⟨_,ho,rfl⟩ ⟨_,ho2,rfl⟩ noFill_tuple_add seq_tuple_add PySem.F.slot_tuple_add PySem.F.entry_tuple_add (PySem.F.args_tuple_add_2 _ _) (tuple_addW0 a b _ _ n n2 dd dd2 sl sl2 (by simp)) ⟨ho,ho2,⟨.ref b,H,I,rfl,q⟩⟩
theorem pU (hl:xs.length+ys.length<1000000):cM X (binaryOp .Add) (.tup xs) (.tup ys) (.tup (xs++ys)):=by
 have lim:1000000<=sizeLine:=by decide
 cases xs with
 | nil=>exact⟨_,xT,λM v w H Q _ d1 d2 k=>by
     cases d1 with
     | tup h1 r1=>
       cases r1;cases d2 with
       | tup h2 r2=>exact⟨_,_,_,rfl,rfl,aU aN h1,aU aN h2,k _ H (ah.refl _) (.tup h2 r2)⟩⟩
 | cons x0 xs=>exact⟨_,wV,λM v w H Q hM d1 d2 k=>by
     cases d1 with
     | @tup a1 vs _ h1 r1=>
     cases d2 with
     | @tup a2 ws _ h2 r2=>
     have l1:=r1.length;have l2:=r2.length;refine⟨_,_,_,_,rfl,rfl,aU aN h1,aU aN h2,λz=>by subst z; simp at l1,by omega,λz=>?_,λ_ p hp=>?_⟩
     . subst z;cases r2;rw[List.append_nil]at k;exact k _ H (ah.refl _) (.tup h1 r1)
     . have e:=ai hp (.tup (vs++ws));exact k _ _ e (.tup (SqT.of (jF hM hp)) ((r1.append r2).mono (av e λ_ z=>z)))⟩
end
section
variable {X:Cx}{τ:List Sl}{x z:D}{e:Expr}{pos p:Pos}{xs ys:List D}{N:Po}{rest:List Stmt}
theorem yd (i:Nat){n:Str}{ap cp:Pos}(he:PE X e (dE X.K true τ (.o ys)))(hl:xs.length+ys.length<1000000)(hr:PSs X rest (dS X.K (τ.set i (.o (xs++ys))) N))(hi:τ[i]?=some (.o xs):=by rfl)(hN:X.N[i]?=some n:=by rfl)
   (hv:Vis X.env.scope n:=by first | exact Or.inl rfl | exact Or.inr (Or.inl rfl) | exact Or.inr (Or.inr rfl)) (hd:(n==("__debug__" : Str))=false:=by decide) (hcd:(n==("__classdict__" : Str))=false:=by decide)
   (hfew:((backTo cp (starEach [e] X.env)).all (λx=>!x.1)&&(backToKw cp (keywordEach [] X.env)).all (λx=>x.1.isSome)&&decide (([e]:List Expr).length+([]:List Keyword).length+(if ([]:List Keyword).isEmpty then 0 else 1)<30))=true:=by rfl)
   (hline:(ap.endLine==cp.line)=true:=by rfl) (hst:starEach [e] X.env=(false,eval e X.env)::starEach [] X.env:=by rfl) (hpl:(backTo cp (starEach [] X.env)).any (·.1)=false:=by rfl)
   (hs:swapsWith (.Call (.Attribute (.Name n p) "extend" ap) [e] [] cp) none pos.line X.env=pure false:=by rfl) (hbase:attributeBase (.Name n p) "extend" X.env (eval (.Name n p) X.env)=eval (.Name n p) X.env:=by rfl) :
   PSs X (.Expr (.Call (.Attribute (.Name n p) "extend" ap) [e] [] cp) pos::rest) (dS X.K τ N):=
 bf (M:=(·=τ.set i (.o (xs++ys)))) (psW (fK (qz PySem.F.plainAttrs_list PySem.F.slot_list_extend PySem.F.type_list_extend sD (bI hN hv hd hcd) (b7 he eO hst) hbase hfew hline hst hpl) hs) λD σ H ⟨A,H₀,B,S,Me⟩=>by
   obtain⟨l,vs,hb,e1,e2,d⟩:=S.sl i _ hi;refine⟨_,slot_of e1,.inl ⟨rfl,_,SqL.of e2⟩,A,H₀,B,S,λv H1 bs e3 fr ⟨l2,ws,eb,ev,h2,d2⟩=>?_⟩;cases ev;have lim:1000000<=sizeLine:=by decide
   refine⟨l,l2,vs,ws,rfl,rfl,e3 _ _ e2,h2,by rw[d.length,d2.length]; omega,?_⟩;exact Me.nx _ _ _ _ rfl ((S.mono e3).put hi hb ((d.mono (av e3 λ_ z=>z)).append (d2.mono (av (ah.refl _) λ_ z=>.inl z))))) λ_ e=>e▸hr
end
end Hy
namespace Hy
open PySem PySem.Spec PyProof.Rows L2
open Ev (D Den aq)
mutual
noncomputable def qf:Nd->Bool
 | .d x=>flat x
 | .l xs=>iU xs
 | .t xs=>iU xs
noncomputable def iU:List Nd->Bool
 | []=>true
 | x::xs=>qf x&&iU xs
end
section
variable {K:PySem.W.Frag}{G G' H:Hp}
mutual
theorem bN.fl:∀{u:V} {bs:List Addr} {t:Nd},bN K G H u bs t->qf t=true->bN K G' H u bs t
 | _,_,_,.d h,f=>.d (tX h (by rw[qf]at f; exact f))
 | _,_,_,.l h r,f=>.l h (aQ.fl r (by rw[qf]at f; exact f))
 | _,_,_,.t h r,f=>.t h (aQ.fl r (by rw[qf]at f; exact f))
theorem aQ.fl:∀{vs:List V} {bs:List Addr} {ts:List Nd},aQ K G H vs bs ts->iU ts=true->aQ K G' H vs bs ts
 | _,_,_,.nil,_=>.nil
 | _,_,_,.cons h r,f=>by rw[iU,Bool.and_eq_true]at f;exact .cons (bN.fl h f.1) (aQ.fl r f.2)
end
end
theorem lI {X:Cx}{τ:List Sl}{elt tg it:Expr}{ifs:List Expr}{pos p spos:Pos}{scope:Scope}{rest:List Stmt}{N:Po}{ns:List Nd}(i:Nat){n:Str}(hN:X.N.Nodup)(h:ue X elt tg it ifs scope τ ns)(hr:PSs X rest (dS X.K (τ.set i (.n (.l ns))) N))
   (hi:X.N[i]?=some n:=by rfl) (hl:Loc X.env.scope n:=by first | exact .inl rfl | exact .inr rfl)
   (hsw:swapsWith (.ListComp elt [⟨tg,it,ifs,0⟩] scope pos) (some (.Name n p)) spos.line X.env=pure true:=by rfl) (hf:X.fn n=true\/X.env.scope.names.lookup n=some .local:=by first | exact .inl rfl | exact .inr rfl | assumption) :
   PSs X (.Assign [.Name n p] (.ListComp elt [⟨tg,it,ifs,0⟩] scope pos) spos::rest) (dS X.K τ N):=by
 obtain⟨In,caps,N',wi,h1,h2,h3,h4⟩:=h.ex;exact bf (M:=(·=τ.set i (.n (.l ns)))) (psW (Ev.gQ (dg (i:=i) hN hi hl hf) h1 h2 h.hs h3 hsw) λD σ H ⟨A,H₀,B,S,Me⟩=>h4 true _ _ _ ⟨A,H₀,B,S,λv H' bs e hf h=>Me.nx _ _ _ _ rfl (S.set e hf h)⟩) λ_ e=>e▸hr
end Hy
namespace Hy
open PySem PySem.Spec PyProof.Rows L2
open Ev (D Den aq ai aU aO)
section
variable {y:D}{i:Nat}{xs:List Nd}
theorem set_same {α:Type}{xs:List α}{i:Nat}{y:α}(h:xs[i]?=some y):xs.set i y=xs:=by obtain⟨h1,h2⟩:=List.getElem?_eq_some_iff.mp h;rw[<- h2];exact List.set_getElem_self h1
end
end Hy
namespace Hy
open PySem PySem.Spec PyProof.Rows L2
open Ev (D Den aq)
def sR (P:Program)(w:World)(K:PySem.W.Frag)(mg:Str->Option Value)(base:Heap)(k:Nat)(n:Str)(sp:Sp):Prop:=∃f fd ps,a4 P w K mg base CX0 k f fd ps sp/\mg n=some (.ref f)/\PySem.W.keepIn K (.ref f)=true/\Binds K fd ps []
theorem sR.mono {P:Program}{w:World}{K:PySem.W.Frag}{mg:Str->Option Value}{base:Heap}{j k:Nat}{n:Str}{sp:Sp}(c:sR P w K mg base j n sp)(h:j<=k):sR P w K mg base k n sp:=let ⟨f,fd,ps,F,r⟩:=c; ⟨f,fd,ps,F.mono h,r⟩
end Hy
namespace Ev
open PySem PySem.Spec PyProof.Rows L2
section
variable {K:Type}[DecidableEq K]{a:KD K}{hd:a.dep<=7}{X:Cx}{o e f:Expr}{pos:Pos}{tk tv:TE}
def CD (a:KD K)(hd:a.dep<=7)(P:Program)(w:World)(F:PySem.W.Frag)(tk tv:TE):TE:=λσ H Q=>∀p,H p=none->tk σ (upd H p (dNk a hd P w p [])) λy H1=>tv σ H1 λv H2=>∃b k,y=.ref b/\H2 p=some (dNk a hd P w p [])/\Den F H2 (.ref b) (a.toD k)/\∀u,RelV v u->Q (.ref p) (upd H2 p (dNk a hd P w p (storedH [] k b u)))
theorem qk (hu:X.A.units+16<cLine)(hk:PE X e tk)(hv:PE X f tv):PE X (.Dict [some e] [f] pos) (CD a hd X.prog X.w X.K tk tv):=λpins s σ H Q I h=>by
 refine wpAny_Dict_any rfl rfl (by simp) (show 1<=15 by decide) (pairTrees_cons_walk ?_)
 have I0:=I.laid (a:=s.heap.objs.size) (o:=dNk a hd X.prog X.w s.heap.objs.size []) (t':=s.toks) (h':=s.heap.push { cls:=.type "dict",data:=.dict #[] }) (λ_ _ q=>Heap.get?_push_of_some _ q) (Nat.le_refl _)
   ⟨⟨beq_eq_false_iff_ne.mpr (Ne.symm (Nat.ne_of_lt I.big)),_,#[],0,Heap.get?_push_size _ rfl,⟨rfl,rfl,rfl⟩,rfl,rfl,List.nodup_nil⟩,⟨_,Heap.get?_push_size _ rfl⟩,λa1 a2 ⟨z0,o,es,ep,z1,z2⟩ hk=>⟨z0,o,es,ep,hk o z1,z2⟩⟩
 refine thn (hk _ _ σ _ _ I0 (h _ (I.hok.fresh (Nat.le_refl _)))) λkv s1 ⟨y,H1,I1,ry,q1⟩=>thn (hv _ s1 σ H1 _ I1 q1) λvv s2 ⟨v,H2,I2,rv,b,k,ey,hp,g,q2⟩=>pairTrees_nil_walk ?_;subst ey;obtain rfl:kv=Value.ref b:=ry;have D:fO a hd X.prog X.w X.K H2 s.heap.objs.size []:=⟨hp,λ_ z=>nomatch z⟩;obtain⟨hd',dd⟩:=uo I2 D;unfold storeAll;rw[List.forIn_cons];refine wpAny_bind (wpAny_bind (wpAny_dictSet_heap (hsz:=Nat.zero_le _) (show X.A.units+8<cLine by omega) (key_is I2 g) dd λh' dd' hs=>wpAny_pure ?_));dsimp only;rw[List.forIn_nil];refine wpAny_pure ?_;obtain⟨q,es,ep,hq,h2,h3,h4,_,h5⟩:=dd';refine⟨.ref s.heap.objs.size,_,eN (ob:=dNk a hd X.prog X.w s.heap.objs.size (storedH [] k b vv)) I2 (by rw[hp]; exact True.intro) hs ⟨q,hq⟩ ⟨⟨hd',q,es,ep,hq,h2,h3,h4,h5⟩,⟨q,hq⟩,λa1 a2 ⟨z0,o,es,ep,z1,z2⟩ hk=>⟨z0,o,es,ep,hk o z1,z2⟩⟩,rfl,q2 vv rv⟩
end
end Ev
namespace Hy
open PySem PySem.Spec PyProof.Rows L2
open Ev (D Den aq KD NEs dNk fO Bx ai gz qk)
section
variable {K:Type}[DecidableEq K]{a:KD K}{hd:a.dep<=7}{X:Cx}{C:Bool}{τ:List Sl}{x y:D}{b e f o ix:Expr}{pos p q:Pos}{k:Nat}{N:Po}{rest:List Stmt}{m:List (K×D)}{key:K}
noncomputable def bxK (a:KD K)(hd:a.dep<=7)(P:Program)(w:World)(m:List (K×D)):Bx where
 p:=λF H d=>∃xs,H d=some (dNk a hd P w d xs)/\EnK a F H xs m
 mono:=λe ⟨xs,h1,h2⟩=>⟨xs,e _ _ h1,h2.mono e⟩
 isd:=λ{_ _ d} ⟨xs,h1,_⟩=>⟨_,h1,λP w H' h z=>let ⟨_,o,_,_,z1,z2,_⟩:=z.1; ⟨o,z1,z2.1⟩⟩
noncomputable abbrev bxD (a:KD K)(hd:a.dep<=7)(P:Program)(w:World)(m:List (K×D)):D:=.box (bxK a hd P w m)
theorem Sta.fzX {F:PySem.W.Frag}{P:Program}{w:World}{A:Addr->Prop}{H₀ H:Hp}{B:Nat->List Addr}{σ:L2.St}{i:Nat}(S:Sta F A H₀ τ B σ H)(hi:τ[i]?=some (.x (exK a hd P w m))):Sta F A H₀ (τ.set i (.d (bxD a hd P w m))) (upB B i []) σ H:=S.less (λ_ z=>nomatch z) λG g hv=>by obtain⟨d,xs,h1,h2,h3,h4⟩:=S.dct hi;exact⟨rfl,_,h1,.box ⟨xs,hv d _ (by rw[h2]; exact List.mem_singleton.mpr rfl) (λz=>nomatch z) h3,h4.mono g⟩⟩
theorem yg (i:Nat)(h:PSs X rest (dS X.K (τ.set i (.d (bxD a hd X.prog X.w m))) N))(hi:τ[i]?=some (.x (exK a hd X.prog X.w m)):=by rfl):PSs X rest (dS X.K τ N):=gM h λD σ H ⟨A,H₀,B,S,Me⟩=>⟨A,H₀,_,S.fzX hi,Me⟩
theorem yE (h:PE X e (dE X.K C τ (.x (exK a hd X.prog X.w m)))):PE X e (dE X.K C τ (.d (bxD a hd X.prog X.w m))):=peW h λσ H Q q=>by
 obtain⟨A,H₀,B,S,k⟩:=c9 q;refine⟨A,H₀,B,S,λv H' bs e hf ⟨d,o,h1,h2,h3,xs,h4,h5⟩=>?_⟩;cases h2;subst h1 h4;have vd:=S.vd (C:=C);have un:¬vw C A B d:=λz=>by obtain⟨_,q⟩:=vd d z;rw[(hf d (List.mem_singleton.mpr rfl)).1]at q;cases q
 exact k _ H' e (.box ⟨xs,ag.mpr ⟨un,h3⟩,h5.mono (av (ah.refl _) λ_ z=>.inl z)⟩)
theorem pj (hu:X.A.units+16<cLine)(hb:PE X b (dE X.K C τ (.d (bxD a hd X.prog X.w m))))(hk:PE X ix (dE X.K C τ (.d (a.toD key))))(hx:getM m key=some x)(hr:∀H v,Den X.K H v (a.toD key)->∃b,v=.ref b)(hs:kn ix):PE X (.Subscript b ix pos) (dE X.K C τ (.d x)):=
 peW (gz (a:=a) (hd:=hd) hu hb hk hs) λσ H Q q=>by
   obtain⟨A,H₀,B,S,kk⟩:=c9 q;refine aT S λv H1 e1 d1=>aT (S.mono e1) λy H2 e2 dy=>?_;obtain⟨b',rfl⟩:=hr _ _ dy;cases d1.mono (av e2 λ_ z=>z) with
   | box h=>obtain⟨xs,g3,g4⟩:=h;have:=g4.at key;rw[hx]at this;obtain⟨pp,v,h1,h2,h3⟩:=this;exact⟨_,b',key,xs,pp,v,rfl,rfl,⟨aN _ _ g3,λz hz=>(g4.key z hz).mono aN⟩,dy.mono aN,h1,h2,kk v H2 (e1.trans e2) h3⟩
theorem pF (hu:X.A.units+16<cLine)(hk:PE X e (dE X.K C τ (.d (a.toD key))))(hv:PE X f (dE X.K C τ (.d x)))(hr:∀H v,Den X.K H v (a.toD key)->∃b,v=.ref b):PE X (.Dict [some e] [f] pos) (dE X.K C τ (.x (exK a hd X.prog X.w [(key,x)]))):=
 peW (qk (a:=a) (hd:=hd) hu hk hv) λσ H Q ⟨A,H₀,B,S,kk⟩=>λp hp=>by
   have e0:=ai hp (dNk a hd X.prog X.w p []);have f0:Fr H (upd H p (dNk a hd X.prog X.w p [])) [p]:=λb hb=>by rw[List.mem_singleton.mp hb]; exact⟨hp,_,aB⟩
   have S1:=S.hide e0 f0;refine aT S1 λy H2 e2 dy=>aT (S1.mono e2) λv H3 e3 dv=>?_;obtain⟨b',rfl⟩:=hr _ _ dy;have e03:=e2.trans e3;have hp3:=e03 _ _ (aB (H:=H) (a:=p) (o:=dNk a hd X.prog X.w p []));have dy3:=dy.mono (av e3 λ_ z=>z);refine⟨b',key,rfl,hp3,dy3.mono aN,λu hu=>?_⟩;have sm:ah (Hy.hd H3 (vw C (λb=>A b\/b∈[p]) B)) (Hy.hd (upd H3 p (dNk a hd X.prog X.w p (storedH [] key b' u))) λb=>vw C A B b\/b∈[p]):=λb o z=>by obtain⟨z1,z2⟩:=ag.mp z;have nh:¬(vw C A B b\/b∈[p]):=λy=>z1 (lN y);exact ag.mpr ⟨nh,by rw[au (λq=>nh (.inr (List.mem_singleton.mpr q)))]; exact z2⟩
   have hs:ah H (upd H3 p (dNk a hd X.prog X.w p (storedH [] key b' u))):=λb o z=>by
     have ne:b≠p:=λq=>by rw[q,hp]at z; cases z
     rw[au ne];exact e03 _ _ (e0 _ _ z)
   exact kk (.ref p) _ [p] hs (λb hb=>by rw[List.mem_singleton.mp hb]; exact⟨hp,_,aB⟩) ⟨p,_,rfl,rfl,aB,_,rfl,(EnK.nil.put dy3 hu dv).mono sm⟩
end
end Hy
namespace Hy
open PySem PySem.Spec PyProof.Rows L2
open Ev (D Den aq ai aM eZ dt PTs cQ da)
end Hy
namespace Hy
open PySem PySem.Spec PyProof.Rows L2
open Ev (D Den aq ai aU aO)
end Hy
namespace Hy
open PySem PySem.Spec PyProof.Rows L2
open Ev (D Den aq ai)
end Hy
namespace Ev
open PySem PySem.Spec PyProof.Rows L2
section
variable {prog:Program}{w:World}{A:Around}{E:Value->Shared->Prop}{s:Shared}{d it:Addr}{o:Obj}{es:Array DictEntry}{ep i:Nat}
theorem qC {Q:Value->Shared->Prop}(hd:(d==sysModules)=false)(ho:s.heap.get? d=some o)(hx:o.ExactDict)(hdat:o.data=.dict es ep)
   (hQ:Q (.ref s.heap.objs.size) { s with heap:=s.heap.push { cls:=.type "dict_keyiterator",data:=.fields #[.ref d,.int 0 0,.int es.size 0,.int ep 0] } }):wpAny (model prog w) A (pyIter (.ref d)) Q E s:=by
 have hT:s.TypeIs (.ref d) "dict":=⟨o,ho,hx.1⟩;refine wpAny_pyIter_slot hT PySem.F.slot_dict_iter (wpAny_call_entry PySem.F.slot_dict_iter hT PySem.F.entry_dict_iter ?_ (PySem.F.args_dict_iter_1 _));unfold Builtin.«dict.__iter__»;refine wpAny_bind ?_;unfold Builtin.Dict.dictSlotNone;refine wpAny_bind (wpAny_notOrdered_dict hT (wpAny_pure ?_));show wpAny _ _ (Builtin.Dict.showsAll d >>= _) _ _ s;unfold Builtin.Dict.showsAll;rw[if_neg (by rw[hd]; exact Bool.false_ne_true)];refine wpAny_bind (wpAny_pure (wpAny_bind (wpAny_dictEntries ho hdat (wpAny_bind (wpAny_dictEpoch ho hdat ?_)))));refine wpAny_bind (wpAny_newObj_type (wpAny_pure ⟨_,rfl,"dict_keyiterator",_,⟨_,Heap.get?_push_size _ rfl,rfl⟩,PySem.F.slot_dict_keyiterator_next.lookup,?_⟩));simpa[rawInt]using hQ
theorem vQ:Builtin.Dict_items.ownsTuple "dict_keyiterator" = false:=by decide
theorem qT {Q:Option Value->Shared->Prop}(hit:s.heap.IsKeyIter it d i es.size ep)(ho:s.heap.get? d=some o)(hdat:o.data=.dict es ep)(hlt:i<es.size)
   (hQ:∀h',h'.IsKeyIter it d (i+1) es.size ep->Heap.SameBut it s.heap h'->Q (some es[i].key) { s with heap:=h' }):wpAny (model prog w) A (pyNext (.ref it)) Q E s:=by
 obtain⟨oi,hoi,hc,hdi⟩:=id hit;unfold pyNext;refine wpAny_bind (wpAny_attempt (wpAny_callSpecial?_slot (name:=Str.ofString "__next__") hit.typeIs PySem.F.slot_dict_keyiterator_next (wpAny_call_entry PySem.F.slot_dict_keyiterator_next hit.typeIs PySem.F.entry_dict_keyiterator_next ?_ (PySem.F.args_dict_keyiterator_next_1 _))));refine wpAny_bind (wpAny_pure (wpAny_bind (wpAny_bind ?_)))
 first | refine wpAny_bind (wpAny_typeNameOfWhole_keyiter hit.typeIs (wpAny_pure ?_)) | refine wpAny_bind (wpAny_typeNameOf_keyiter hit.typeIs (wpAny_pure ?_))
 refine wpAny_bind (wpAny_fieldsOf hoi hdi ?_);simp only[vQ,Bool.false_eq_true,if_false];show wpAny _ _ (if (Value.ref d==Value.none)=true then _ else _) _ _ s;rw[if_neg (show ¬((Value.ref d==Value.none)=true) from Bool.false_ne_true)];refine wpAny_bind (wpAny_pure (wpAny_bind (wpAny_dictEntries ho hdat ?_)));rw[if_neg (by simp)];refine wpAny_bind (wpAny_pure (wpAny_bind (wpAny_dictEpoch ho hdat ?_)));rw[if_neg (by simp)];refine wpAny_pure ?_;simp only[show ¬((i:Int)<0) from by omega,if_false,Int.toNat_natCast,Array.getElem?_eq_getElem hlt];refine wpAny_bind ?_
 first | refine wpAny_bind (wpAny_typeNameOfWhole_keyiter hit.typeIs (wpAny_pure ?_)) | refine wpAny_bind (wpAny_typeNameOf_keyiter hit.typeIs (wpAny_pure ?_))
 refine wpAny_bind (wpAny_isOneOf_keyiter hit.typeIs ?_);show wpAny _ _ (setField (.ref it) 1 (rawInt ((i:Int)+1)) >>= _) _ _ s;refine wpAny_bind (wpAny_setField hoi hdi (by simp) ?_);have hit':(s.heap.update it (Obj.mapFields (·.setIfInBounds 1 (rawInt ((i:Int)+1))))).IsKeyIter it d (i+1) es.size ep:=⟨_,Heap.get?_update_self _ hoi (Obj.isFreed_of_fields (Obj.data_mapFields hdi _)),(Obj.cls_mapFields ..).trans hc,by rw[Obj.data_mapFields hdi]; simp[rawInt]⟩;refine wpAny_bind (wpAny_holding ?_);refine wpAny_bind (wpAny_isOneOf_keyiter (s:={ s with heap:=s.heap.update it (Obj.mapFields (·.setIfInBounds 1 (rawInt ((i:Int)+1)))) }) hit'.typeIs ?_);show wpAny _ _ (pure es[i].key) _ _ _;exact wpAny_pure (wpAny_pure ⟨_,rfl,wpAny_pure (hQ _ hit' (Heap.SameBut.update ..))⟩)
theorem vB {Q:Option Value->Shared->Prop}(hh:A.handled=none)(hit:s.heap.IsKeyIter it d i es.size ep)(ho:s.heap.get? d=some o)(hdat:o.data=.dict es ep)(hge:es.size<=i)
   (hQ:∀h',Heap.ExtBut it s.heap h'->Q none { s with heap:=h' }):wpAny (model prog w) A (pyNext (.ref it)) Q E s:=by
 obtain⟨oi,hoi,hc,hdi⟩:=id hit;unfold pyNext;refine wpAny_bind (wpAny_attempt (wpAny_callSpecial?_slot (name:=Str.ofString "__next__") hit.typeIs PySem.F.slot_dict_keyiterator_next (wpAny_call_entry PySem.F.slot_dict_keyiterator_next hit.typeIs PySem.F.entry_dict_keyiterator_next ?_ (PySem.F.args_dict_keyiterator_next_1 _))));refine wpAny_bind (wpAny_pure (wpAny_bind (wpAny_bind ?_)))
 first | refine wpAny_bind (wpAny_typeNameOfWhole_keyiter hit.typeIs (wpAny_pure ?_)) | refine wpAny_bind (wpAny_typeNameOf_keyiter hit.typeIs (wpAny_pure ?_))
 refine wpAny_bind (wpAny_fieldsOf hoi hdi ?_);simp only[vQ,Bool.false_eq_true,if_false];show wpAny _ _ (if (Value.ref d==Value.none)=true then _ else _) _ _ s;rw[if_neg (show ¬((Value.ref d==Value.none)=true) from Bool.false_ne_true)];refine wpAny_bind (wpAny_pure (wpAny_bind (wpAny_dictEntries ho hdat ?_)));rw[if_neg (by simp)];refine wpAny_bind (wpAny_pure (wpAny_bind (wpAny_dictEpoch ho hdat ?_)));rw[if_neg (by simp)];refine wpAny_pure ?_;simp only[show ¬((i:Int)<0) from by omega,if_false,Int.toNat_natCast,Array.getElem?_eq_none hge];refine wpAny_bind ?_
 first | refine wpAny_bind (wpAny_typeNameOfWhole_keyiter hit.typeIs (wpAny_pure ?_)) | refine wpAny_bind (wpAny_typeNameOf_keyiter hit.typeIs (wpAny_pure ?_))
 show wpAny _ _ (setField (.ref it) 0 .none >>= _) _ _ s;refine wpAny_bind (wpAny_setField hoi hdi (by simp) ?_);show wpAny _ _ (newExc (.type "StopIteration") [] >>= _) _ _ _;refine wpAny_bind ?_;simp only[newExc,newTuple];refine wpAny_bind (wpAny_newObj_type ?_ (by size_fits));refine wpAny_bind (m:=firstArgMember _ _) (wpAny_of_eq (a:=Value.none) (by first | rfl | (simp only[firstArgMember]; rfl)) ?_);refine wpAny_newObj_type ?_ (by size_fits);simp only[raiseNew];refine wpAny_bind (wpAny_handled ?_);rw[show A.in1.handled=none from hh];refine wpAny_bind (wpAny_pure (wpAny_throw ?_));refine wpAny_bind (wpAny_isInstance (T:="StopIteration") (b:=true) ⟨_,Heap.get?_push_size _ rfl,rfl⟩ isSubtype_stop ?_);exact wpAny_pure (hQ _ (((Heap.SameBut.update ..).extBut.push _).push _))
end
section
variable {K:Type}[DecidableEq K]{a:KD K}{hd:a.dep<=7}{X:Cx}{pins:List (Addr×Obj)}{σ:L2.St}{H:Hp}{s:Shared}{d:Addr}{xs:NEs K}{ob:Obj}
theorem vc (I:Inv X pins σ H s)(h:H d=some (.frz ob (dNk a hd X.prog X.w d xs))):(d==sysModules)=false/\∃es ep,s.heap.get? d=some ob/\ob.ExactDict/\ob.data=.dict es ep/\es.toList=xs.map (entryOfKey (kd a hd X.prog X.w))/\(xs.map (·.1)).Nodup:=by obtain⟨e,⟨h0,o,es,ep,h1,h2⟩,_⟩:=(show bA X.prog X.w H s.heap d (.frz ob (dNk a hd X.prog X.w d xs)) from I.hok d _ h);rw[e]at h1;cases h1;exact⟨h0,es,ep,e,h2⟩
noncomputable def Itw (a:KD K)(hd:a.dep<=7)(P:Program)(w:World)(d:Addr)(ob:Obj)(xs:NEs K):L2.It:=⟨λi H=>i<xs.length/\H d=some (.frz ob (dNk a hd P w d xs)),λi H x H'=>H'=H/\∃p,xs[i]?=some p/\x=.ref p.2.1,λi H=>xs.length<=i/\H d=some (.frz ob (dNk a hd P w d xs))⟩
theorem wu {P:Program}{w:World}{F:PySem.W.Frag}{tg:Expr}(it:Addr)(es:Array DictEntry)(ep:Nat)(hdat:ob.data=.dict es ep):
   Turn P w F false tg (Itw a hd P w d ob xs) [it] it (λi h=>i<=xs.length/\h.IsKeyIter it d i xs.length ep) where
 mem:=by simp
 obj:=λi h st b hb=>by
   have e:b=it:=by simpa using hb
   subst e;obtain⟨o,e,c,d⟩:=st.2;exact⟨o,e,λv z=>by rw[d]at z; cases z⟩
 keep:=λi h h' st k=>⟨st.1,st.2.at λo e=>k it (by simp) o e⟩
 item:=by
   intro X hP hw hK hc i pins s σ H E I hf st hg;subst hP hw hK;obtain⟨hi,ha⟩:=hg;obtain⟨f0,f1,f2,f3,f4,f5⟩:=hf it (by simp);obtain⟨_,es',ep',g1,_,g3,g4,_⟩:=vc I ha;rw[hdat]at g3;injection g3 with z1 z2;subst z1 z2;have hl:es.size=xs.length:=by rw[<- Array.length_toList,g4,List.length_map]
   have st2:=st.2;rw[<- hl]at st2;have hie:i<es.size:=by omega
   have hk:es[i].key=.ref (xs[i]).2.1:=by
     have e:es.toList[i]?=some (entryOfKey (kd a hd X.prog X.w) xs[i]):=by rw[g4,List.getElem?_map,List.getElem?_eq_getElem hi]; rfl
     rw[Array.getElem?_toList,Array.getElem?_eq_getElem hie]at e;rw[Option.some.inj e];rfl
   refine qT st2 g1 hdat hie λh' st' sb=>?_;have I1:Inv X pins σ H { s with heap:=h' }:=I.turned (t':=s.toks) (λb o hb e=>(sb.2 b hb).trans e) f0 f1 f3 f4 f5;obtain⟨o',e,c,dd⟩:=id st';rw[hk];refine⟨_,rfl,jM (s:={ s with heap:=h' }) e c dd (by decide) ⟨.ref (xs[i]).2.1,H,I1,rfl,⟨rfl,_,List.getElem?_eq_getElem hi,rfl⟩,⟨hi,by rw[<- hl]; exact st'⟩,λb hb=>(hf b hb).1⟩⟩
 done:=by
   intro X hP hw hK hc i pins s σ H E I hf st hg;subst hP hw hK;obtain⟨hi,ha⟩:=hg;obtain⟨f0,f1,f2,f3,f4,f5⟩:=hf it (by simp);obtain⟨_,es',ep',g1,_,g3,g4,_⟩:=vc I ha;rw[hdat]at g3;injection g3 with z1 z2;subst z1 z2;have hl:es.size=xs.length:=by rw[<- Array.length_toList,g4,List.length_map]
   have st2:=st.2;rw[<- hl]at st2;exact vB (I.ok.hd hc.calm) st2 g1 hdat (by omega) λh' eb=>⟨rfl,I.turned (t':=s.toks) (λb o hb e=>eb b o hb e) f0 f1 f3 f4 f5⟩
 self:=λ_ _ _ _ _ st h=>wpAny_pyIter_keyiter st.2 h
end
section
variable {K:Type}[DecidableEq K]{a:KD K}{hd:a.dep<=7}{X:Cx}{tg l o i:Expr}{tl td ty:TE}{pos:Pos}
def zR (a:KD K)(hd:a.dep<=7)(P:Program)(w:World)(tl:TE):TI:=λσ H R=>tl σ H λx H1=>∃d ob xs,x=.ref d/\H1 d=some (.frz ob (dNk a hd P w d xs))/\R (Itw a hd P w d ob xs) H1
theorem nB (hc:X.calm=true)(hl:PE X l tl):PI X tg l (zR a hd X.prog X.w tl):=by
 intro pins s σ H R I h;refine thn (hl pins s σ H _ I h) λu s1 ⟨x,H1,I1,r1,d,ob,xs,ex,ha,q⟩=>?_;subst ex;cases r1;obtain⟨h0,es,ep,g1,g2,g3,g4,_⟩:=vc I1 ha;have hl:es.size=xs.length:=by rw[<- Array.length_toList,g4,List.length_map]
 refine qC h0 g1 g2 g3 ?_;refine⟨false,s1.heap.objs.size,[s1.heap.objs.size],_,_,H1,rfl,I1.kept (t':=s1.toks) λb o e=>Heap.get?_push_of_some _ e,.inl hc,wu (xs:=xs) _ es ep g3,⟨Nat.zero_le _,?_⟩,λb hb=>?_,q⟩
 . rw[<- hl];exact⟨_,Heap.get?_push_size _ rfl,rfl,rfl⟩
 . have e:b=s1.heap.objs.size:=by simpa using hb
   subst e;exact I1.jX (Nat.le_refl _) (I1.hok.fresh (Nat.le_refl _))
def Br (a:KD K)(hd:a.dep<=7)(P:Program)(w:World)(F:PySem.W.Frag)(td ty:TE):TE:=λσ H Q=>td σ H λx H1=>ty σ H1 λy H2=>∃d ob b k xs p v,x=.ref d/\y=.ref b/\H2 d=some (.frz ob (dNk a hd P w d xs))/\(∀x∈xs,Den F H2 (.ref x.2.1) (a.toD x.1))/\Den F H2 (.ref b) (a.toD k)/\atKey xs k=some p/\RelV v p.2/\Q v H2
theorem qS (hu:X.A.units+16<cLine)(ho:PE X o td)(hi:PE X i ty)(hs:kn i):PE X (.Subscript o i pos) (Br a hd X.prog X.w X.K td ty):=by intro pins s σ H Q I h;refine lE PySem.F.slot_dict_getitem.lookup hs (thn (ho pins s σ H _ I h) λu s1 ⟨x,H1,I1,rx,q1⟩=>thn (hi pins s1 σ H1 _ I1 q1) λiv s2 ⟨y,H2,I2,ry,d,ob,b,k,xs,p,v,ex,ey,ha,hk,g,hp,rv,q2⟩=>?_);subst ex ey;obtain rfl:u=Value.ref d:=rx;obtain rfl:iv=Value.ref b:=ry;obtain⟨_,es,ep,g1,g2,g3,g4,g5⟩:=vc I2 ha;have dd:s2.heap.DictOfH (kd a hd X.prog X.w) d xs:=⟨ob,es,ep,g1,g2,g3,g4,λx hx=>key_is I2 (hk x hx),g5⟩;exact⟨dd.typeIs,wpAny_getItem_heap (show X.A.units+1+8<cLine by omega) (key_is I2 g) dd hp ⟨v,H2,I2.tok _,rv,q2⟩⟩
end
end Ev
namespace Hy
open PySem PySem.Spec PyProof.Rows L2
open Ev (D Den aq KD NEs dNk fO Bx ai vc Itw nB qS)
section
variable {K:Type}[DecidableEq K]{a:KD K}{hd:a.dep<=7}{X:Cx}{C:Bool}{τ:List Sl}{x:D}{b e o ix tg:Expr}{pos p q:Pos}{k:Nat}{N:Po}{rest:List Stmt}{m:List (K×D)}{key:K}
noncomputable def bxW (a:KD K)(hd:a.dep<=7)(P:Program)(w:World)(m:List (K×D)):Bx where
 p:=λF H d=>∃ob xs,H d=some (.frz ob (dNk a hd P w d xs))/\EnK a F H xs m
 mono:=λe ⟨ob,xs,h1,h2⟩=>⟨ob,xs,e _ _ h1,h2.mono e⟩
 isd:=λ{_ _ d} ⟨ob,xs,h1,_⟩=>⟨_,h1,λP w H' h z=>let ⟨_,o,_,_,z1,z2,_⟩:=z.2.1; ⟨o,z1,z2.1⟩⟩
noncomputable def exW (a:KD K)(hd:a.dep<=7)(P:Program)(w:World)(ob:Obj)(m:List (K×D)):Ex where
 p:=λF G o p=>∃xs,o=.frz ob (dNk a hd P w p xs)/\EnK a F G xs m
 mono:=λe ⟨xs,h1,h2⟩=>⟨xs,h1,h2.mono e⟩
 ext:=λ⟨xs,h1,_⟩=>.inr (.inl ⟨_,_,h1⟩)
theorem Sta.fzW {F:PySem.W.Frag}{P:Program}{w:World}{A:Addr->Prop}{H₀ H:Hp}{B:Nat->List Addr}{σ:L2.St}{i:Nat}{ob:Obj}(S:Sta F A H₀ τ B σ H)(hi:τ[i]?=some (.x (exW a hd P w ob m))):Sta F A H₀ (τ.set i (.d (.box (bxW a hd P w m)))) (upB B i []) σ H:=S.less (λ_ z=>nomatch z) λG g hv=>by obtain⟨d,o,h1,h2,h3,xs,h4,h5⟩:=S.sl i _ hi;subst h4;exact⟨rfl,_,h2,.box ⟨ob,xs,hv d _ (by rw[h1]; exact List.mem_singleton.mpr rfl) (λz=>nomatch z) h3,h5.mono g⟩⟩
theorem yh (i:Nat)(h:PSs X rest (dS X.K (τ.set i (.d (.box (bxW a hd X.prog X.w m)))) N))(hi:τ[i]?=some (.x (exK a hd X.prog X.w m)):=by rfl):PSs X rest (dS X.K τ N):=by intro pins s σ H D I ⟨A,H₀,B,S,Me⟩;obtain⟨d,xs,h1,h2,h3,h4⟩:=S.dct hi;obtain⟨⟨z0,o,es,ep,z1,z2⟩,z3,z4⟩:=(show bA X.prog X.w H s.heap d (dNk a hd X.prog X.w d xs) from I.hok d _ h3);have I2:Inv X pins σ (upd H d (.frz o (dNk a hd X.prog X.w d xs))) s:=eN (t':=s.toks) (h':=s.heap) I (by rw[h3]; exact True.intro) (.refl _ _) ⟨o,z1⟩ ⟨z1,⟨z0,o,es,ep,z1,z2⟩,z3,z4⟩;have hl:=(List.getElem?_eq_some_iff.mp hi).1;have S2:=S.x6 (E':=exW a hd X.prog X.w o m) hi h2 ⟨xs,rfl,h4⟩;have S3:=S2.fzW (ob:=o) (m:=m) (List.getElem?_set_self hl);rw[List.set_set]at S3;exact h pins s σ _ D I2 ⟨A,H₀,_,S3,Me⟩
theorem u0 (hu:X.A.units+16<cLine)(hb:PE X b (dE X.K C τ (.d (.box (bxW a hd X.prog X.w m)))))(hk:PE X ix (dE X.K C τ (.d (a.toD key))))(hx:getM m key=some x)(hr:∀H v,Den X.K H v (a.toD key)->∃b,v=.ref b)(hs:kn ix):PE X (.Subscript b ix pos) (dE X.K C τ (.d x)):=
 peW (qS (a:=a) (hd:=hd) hu hb hk hs) λσ H Q q=>by
   obtain⟨A,H₀,B,S,kk⟩:=c9 q;refine aT S λv H1 e1 d1=>aT (S.mono e1) λy H2 e2 dy=>?_;obtain⟨b',rfl⟩:=hr _ _ dy;cases d1.mono (av e2 λ_ z=>z) with
   | box h=>obtain⟨ob,xs,g3,g4⟩:=h;have:=g4.at key;rw[hx]at this;obtain⟨pp,v,h1,h2,h3⟩:=this;exact⟨_,ob,b',key,xs,pp,v,rfl,rfl,aN _ _ g3,λz hz=>(g4.key z hz).mono aN,dy.mono aN,h1,h2,kk v H2 (e1.trans e2) h3⟩
theorem EnK.uV {F:PySem.W.Frag}{G:Hp}:∀{xs:NEs K} {m:List (K×D)},EnK a F G xs m->∀i (h:i<m.length),∃p,xs[i]?=some p/\p.1=(m[i]).1
 | _,_,.nil,i,h=>absurd h (by simp)
 | _,_,.cons ..,0,_=>⟨_,rfl,rfl⟩
 | _,_,.cons _ _ _ r,i+1,h=>by obtain⟨p,h1,h2⟩:=EnK.uV r i (by simpa using h);exact⟨p,h1,h2⟩
theorem rQ (h:PE X e (dE X.K true τ (.d (.box (bxW a hd X.prog X.w m)))))(hc:X.calm=true:=by first | rfl | assumption):PI X tg e (dI X.K τ (m.map λp=>a.toD p.1)):=piW (nB (a:=a) (hd:=hd) hc h) λσ H R ⟨A,H₀,B,S,k⟩=>aT S λv H1 e1 d1=>by
 cases d1 with
 | box h=>
   obtain⟨ob,xs,g,en⟩:=h;have ln:=en.length;refine⟨_,ob,xs,rfl,aN _ _ g,k _ H1 e1 λH2 sg=>⟨λi hi=>⟨by rw[ln]; simpa using hi,sg _ _ g⟩,λi hi=>⟨⟨by rw[ln]; simpa using hi,sg _ _ g⟩,λx H' ⟨eH,p,hp,ex⟩=>?_⟩⟩⟩;subst eH ex;refine⟨ah.refl _,λM hM sM=>?_⟩;have hi':i<m.length:=by simpa using hi
   obtain⟨p',hp',ek⟩:=en.uV i hi';rw[hp]at hp';cases hp';rw[List.getElem_map,<- ek];exact(en.key p (List.mem_of_getElem? hp)).mono sM
end
end Hy
namespace Ev
open PySem PySem.Spec PyProof.Rows L2
end Ev
namespace Hy
open PySem PySem.Spec PyProof.Rows L2
open Ev (D Den aq ai)
end Hy
namespace Tx
open PySem
noncomputable def inj (c:Nat):List (List Nat)->List Nat
 | []=>[]
 | [a]=>a
 | a::b::r=>a++c::inj c (b::r)
noncomputable def cs (x:Str):List Nat:=x.cps.toList
end Tx
namespace Hx
open PySem PySem.Spec PyProof.Rows
end Hx
namespace Hx
open PySem PySem.Spec PySem.Calls PyProof.Rows PySem.W
end Hx
namespace Hx
open PySem PySem.Spec PySem.Calls PyProof.Rows PySem.W L2
theorem there {P:Program}{w:World}{H:Hp}{h:Heap}{a:Addr}{o:HO}(x:bA P w H h a o):∃u,h.get? a=some u:=by
 cases o with
 | lst xs=>obtain⟨_,_,_,_,e⟩:=x; exact⟨_,e⟩
 | tup xs=>obtain⟨_,_,_,o,e,_⟩:=x; exact⟨_,e⟩
 | dK kvs=>obtain⟨_,_,_,_,o,_,_,e,_⟩:=x; exact⟨_,e⟩
 | dT kvs=>obtain⟨_,_,_,_,o,_,_,e,_⟩:=x; exact⟨_,e⟩
 | set S n=>obtain⟨o,_,_,_,e,_⟩:=x; exact⟨_,e⟩
 | ins C dx fs=>obtain⟨_,_,_,e,_⟩:=x; exact⟨_,e⟩
 | own y=>exact x
 | xd fs=>obtain⟨_,⟨o,_,_,e,_⟩,_⟩:=x; exact⟨_,e⟩
 | met f y=>exact⟨_,x⟩
 | rng lo hi=>obtain⟨_,_,_,e⟩:=x; exact⟨_,e⟩
 | frz o u=>exact⟨_,x.1⟩
 | tbl ps=>exact⟨_,x⟩
 | ext φ=>exact x.2.1
end Hx
namespace Hy
open PySem PySem.Spec PyProof.Rows L2
open Ev (D Den aq ai)
end Hy
namespace Hx
open PySem PySem.Spec PyProof.Rows L2
end Hx
namespace Hy
open PySem PySem.Spec PyProof.Rows L2
end Hy
namespace Hy
open PySem PySem.Spec PyProof.Rows L2
open Ev (D Den aq ai aU aO)
section
variable {X:Cx}{C:Bool}{τ:List Sl}{a b e e1 e2 e3 o:Expr}{pos p2:Pos}{k:Nat}{x:D}{N:Po}{rest:List Stmt}
theorem vM {lo hi:Option Expr}{l u:Option Int}{xs:List D}(ha:PE X a (dE X.K C τ (.d (.tup xs))))(hl:PO X lo (dO X.K τ l))(hu:PO X hi (dO X.K τ u))(hw:¬(HT.sIx xs.length 0 l=0/\HT.sIx xs.length xs.length u=xs.length)):PE X (.Subscript a (.Slice lo hi none p2) pos) (dE X.K C τ (.d (.tup (cutD xs l u)))):=
 peW (nY yM ha hl hu) λσ H Q q=>by
   obtain⟨A,H₀,B,S,k⟩:=c9 q
   exact aT S λv H1 e1 d1=>⟨A,H₀,B,S.mono e1,λH2 e2=>⟨A,H₀,B,(S.mono e1).mono e2,λH3 e3=>by
     cases d1 with
     | @tup _ ws _ h r=>
       have h:=aU (e2.trans e3) (aU aN h);have r:=r.mono (av (e2.trans e3) λ_ z=>z);refine⟨_,_,rfl,h,by rw[r.length]; exact hw,λp hp=>?_⟩;have r':aq X.K (hd H3 (vw C A B)) (jJ ws l u) (cutD xs l u):=by unfold jJ cutD;rw[r.length];exact(r.drop _).take _
       have hM:=(((S.mono e1).mono e2).mono e3).vd (C:=C);have e4:=ai hp (.tup (jJ ws l u));exact k _ _ ((e1.trans (e2.trans e3)).trans e4) (.tup (SqT.of (jF hM hp)) (r'.mono (av e4 λ_ z=>z)))⟩⟩
theorem fY {K:PySem.W.Frag}{G H:Hp}:∀{vs:List V} {bs:List Addr} {ds:List D},aQ K G H vs bs (ds.map .d)->aq K G vs ds/\bs=[]
 | _,_,[],h=>by cases h; exact⟨.nil,rfl⟩
 | _,_,x::ds,h=>by
   rw[List.map_cons]at h;cases h with
   | cons h r=>
     cases h with
     | d h=>obtain⟨d1,rfl⟩:=fY r;exact⟨.cons h d1,rfl⟩
theorem oU {i:Nat}{pt:List Nat}{t:Nd}{ds:List D}{m:Int}{j:Nat}{ix:Expr}{sp:Pos}(ho:PE X o (dP X.K τ i pt))(hx:PE X ix (dE X.K false τ (.d (.int m))))(he:PE X e (dE X.K true τ (.d x)))(hi:τ[i]?=some (.n t))(hp:cE pt t=some (.l (ds.map .d)))(hj:ixN ds.length m=some j)
   (hr:PSs X rest (dS X.K (τ.set i (.n (cw pt t (.l ((ds.set j x).map .d))))) N))
   (hs:swapsWithSole [.Subscript o ix sp] e pos.line X.env=pure false:=by rfl) (hw:swappedStores [.Subscript o ix sp] e X.env=pure none:=by rfl) (h1:(assignEach [.Subscript o ix sp] X.env).map (·.2)=[assign (.Subscript o ix sp) X.env]:=by rfl)
   (ha:∀v,assign (.Subscript o ix sp) X.env v=(do
     let ov <- holding [v] (eval o X.env)
     let iv <- holding [v,ov] (eval ix X.env)
     standAt sp
     holding [v,ov,iv] (setItem ov iv v)
     release [v,ov,iv] []):=by intro _; rfl) :
   PSs X (.Assign [.Subscript o ix sp] e pos::rest) (dS X.K τ N):=
 bf (M:=(·=τ.set i (.n (cw pt t (.l ((ds.set j x).map .d)))))) (psW (qi he (uW ho hx set_list ha) hs hw h1) λD σ H ⟨A,H₀,B,S,Me⟩=>aT S λv H1 e1 d1=>by
   refine⟨A,H₀,B,S.mono e1,λu w H2 eu e2 pv=>aT ((S.mono e1).mono e2) λy H3 e3 d3=>?_⟩;have S3:=((S.mono e1).mono e2).mono e3;obtain⟨u',l,vs,bs0,eu',pv',hH,r0,nd0,hal,hown,put⟩:=S3.putN hi hp;rw[eu]at eu';cases eu';obtain rfl:=(pv.mono e3).det pv';cases d3;obtain⟨dl,rfl⟩:=fY r0;refine⟨l,vs,m,j,rfl,rfl,hH,by rw[dl.length]; exact hj,?_⟩;have sm:ah (hd H3 (own A B)) (hd (upd H3 l (.lst (vs.set j v))) λb=>own A B b\/b∈([]:List Addr)):=λb o z=>by obtain⟨z1,z2⟩:=ag.mp z;exact ag.mpr ⟨(λy=>y.elim z1 λy=>(nomatch y)),by rw[au (λy:b=l=>z1 (by rw[y]; exact hal))]; exact z2⟩
   obtain⟨B',S'⟩:=put (H1:=H3) (vs':=vs.set j v) (bs1:=[]) (xs':=(ds.set j x).map .d) (ah.refl _) List.nodup_nil (λ_ z=>nomatch z) (lx ((lM j dl (d1.mono (av (e2.trans e3) λ_ z=>z))).mono sm));exact Me.nx _ B' _ _ rfl S') λ_ e=>e▸hr
end
end Hy
namespace K49
open PySem PySem.Spec PyProof.Rows L2 Hy
open Ev (D Den aq aD aH)
noncomputable def aG (f:Nat->Rat):Nat->Rat
 | 0=>0
 | n+1=>aG f n+f n
theorem aA {f g:Nat->Rat}:∀{n:Nat},(∀k<n,f k=g k)->aG f n=aG g n
 | 0,_=>rfl
 | n+1,h=>by rw[aG,aG,aA λk hk=>h k (by omega),h n (by omega)]
theorem bS (c:Rat)(f:Nat->Rat):∀n:Nat,c*aG f n=aG (λk=>c*f k) n
 | 0=>Rat.mul_zero c
 | n+1=>by rw[aG,aG,Rat.mul_add,bS c f n]
theorem oo (c:Rat)(f:Nat->Rat):∀n:Nat,aG f n*c=aG (λk=>f k*c) n
 | 0=>Rat.zero_mul c
 | n+1=>by rw[aG,aG,Rat.add_mul,oo c f n]
theorem fE (f g:Nat->Rat):∀n:Nat,aG (λk=>f k+g k) n=aG f n+aG g n
 | 0=>(Rat.add_zero 0).symm
 | n+1=>by rw[aG,aG,aG,fE f g n]; grind
theorem iK:∀n:Nat,aG (λ_=>0) n=0
 | 0=>rfl
 | n+1=>by rw[aG,iK n,Rat.add_zero]
theorem hU (f:Nat->Nat->Rat)(m:Nat):∀n:Nat,aG (λk=>aG (λl=>f k l) m) n=aG (λl=>aG (λk=>f k l) n) m
 | 0=>by simp only[aG]; exact(iK m).symm
 | n+1=>by simp only[aG]; rw[hU f m n,<- fE]
noncomputable def dq (i j:Nat):Rat:=if i=j then 1 else 0
theorem nu (A:Nat->Rat)(j:Nat):∀n:Nat,n<=j->aG (λk=>A k*dq k j) n=0
 | 0,_=>rfl
 | n+1,h=>by rw[aG,nu A j n (by omega),dq,if_neg (by omega),Rat.mul_zero,Rat.add_zero]
theorem cu (A:Nat->Rat)(j:Nat):∀n:Nat,j<n->aG (λk=>A k*dq k j) n=A j
 | n+1,h=>by
   rw[aG];by_cases e:j=n
   . subst e;rw[nu A j j (Nat.le_refl _),dq,if_pos rfl,Rat.mul_one,Rat.zero_add]
   . rw[cu A j n (by omega),dq,if_neg (by omega),Rat.mul_zero,Rat.add_zero]
noncomputable def skp (i r:Nat):Nat:=if r<i then r else r+1
noncomputable def minor (M:Nat->Nat->Rat)(i r c:Nat):Rat:=M (skp i r) (c+1)
noncomputable def sgn (i:Nat):Rat:=if i%2=0 then 1 else -1
theorem fg (i:Nat):sgn (i+1)=-sgn i:=by
 unfold sgn;by_cases h:i%2=0
 . rw[if_pos h,if_neg (by omega)]
 . rw[if_neg h,if_pos (by omega)];rfl
theorem lU (i:Nat):sgn i*sgn i=1:=by unfold sgn;split <;> grind
noncomputable def det:Nat->(Nat->Nat->Rat)->Rat
 | 0,_=>1
 | n+1,M=>aG (λi=>sgn i*M i 0*det n (minor M i)) (n+1)
theorem il {i r n:Nat}(h:r<n):skp i r<n+1:=by unfold skp; split <;> omega
theorem zZ (i r:Nat):skp i r≠i:=by unfold skp; split <;> omega
theorem aj:∀{n:Nat} {M M':Nat->Nat->Rat},(∀i<n,∀j<n,M i j=M' i j)->det n M=det n M'
 | 0,_,_,_=>rfl
 | n+1,M,M',h=>by unfold det;refine aA λi hi=>?_;rw[h i hi 0 (by omega),aj (M:=minor M i) (M':=minor M' i) λr hr c hc=>h _ (il hr) _ (by omega)]
noncomputable def ao (M:Nat->Nat->Rat)(p:Nat)(v:Nat->Rat)(r c:Nat):Rat:=if r=p then v c else M r c
noncomputable def aE (M:Nat->Nat->Rat)(q:Nat)(v:Nat->Rat)(r c:Nat):Rat:=if c=q then v r else M r c
noncomputable def un (i p:Nat):Nat:=if p<i then p else p-1
theorem gd (M:Nat->Nat->Rat)(p:Nat)(v:Nat->Rat):minor (ao M p v) p=minor M p:=by funext r c;unfold minor ao;rw[if_neg (zZ p r)]
theorem fh (M:Nat->Nat->Rat){i p:Nat}(h:i≠p)(v:Nat->Rat):minor (ao M p v) i=ao (minor M i) (un i p) λc=>v (c+1):=by
 funext r c;unfold minor ao;have:skp i r=p↔r=un i p:=by unfold skp un; split <;> split <;> omega
 by_cases q:skp i r=p
 . rw[if_pos q,if_pos (this.mp q)]
 . rw[if_neg q,if_neg λz=>q (this.mpr z)]
theorem l7:∀{n:Nat} (M:Nat->Nat->Rat) {p:Nat},p<n->∀(a b:Rat) (x y:Nat->Rat),det n (ao M p λc=>a*x c+b*y c)=a*det n (ao M p x)+b*det n (ao M p y)
 | 0,_,_,h,_,_,_,_=>absurd h (Nat.not_lt_zero _)
 | n+1,M,p,hp,a,b,x,y=>by
   unfold det;rw[bS,bS,<- fE];refine aA λi hi=>?_;by_cases h:i=p
   . subst h;rw[gd,gd,gd];simp only[ao,if_pos rfl];grind
   . rw[fh M h,fh M h,fh M h,l7 (minor M i) (show un i p<n by unfold un; split <;> omega) a b];simp only[ao,if_neg h];grind
theorem vK {f:Nat->Rat}{p:Nat}(h0:∀i,i≠p->i≠p+1->f i=0)(h:f p+f (p+1)=0):∀n,p+1<n->aG f n=0:=by
 have z:∀n,n<=p->aG f n=0:=by
   intro n;induction n with
   | zero=>intro _; rfl
   | succ n ih=>intro hn; rw[aG,ih (by omega),h0 n (by omega) (by omega),Rat.add_zero]
 intro n;induction n with
 | zero=>intro hn; omega
 | succ n ih=>
   intro hn;rw[aG];by_cases q:n=p+1
   . subst q;rw[aG,z p (Nat.le_refl _),Rat.zero_add];exact h
   . rw[ih (by omega),h0 n (by omega) q,Rat.add_zero]
theorem ck {f:Nat->Rat}{n:Nat}(h:∀i<n,f i=0):aG f n=0:=by rw[aA h]; exact iK n
theorem lA:∀{n:Nat} {M:Nat->Nat->Rat} {p:Nat},p+1<n->(∀c<n,M p c=M (p+1) c)->det n M=0
 | 0,_,_,h,_=>absurd h (Nat.not_lt_zero _)
 | n+1,M,p,hp,h=>by
   unfold det
   let f:Nat->Rat:=λi=>if i<n+1 then sgn i*M i 0*det n (minor M i) else 0
   have e:aG (λi=>sgn i*M i 0*det n (minor M i)) (n+1)=aG f (n+1):=aA λi hi=>by simp only[f]; rw[if_pos hi]
   rw[e];refine vK (p:=p) (λi h1 h2=>?_) ?_ _ hp
   . simp only[f];by_cases hi:i<n+1
     . rw[if_pos hi]
       have:det n (minor M i)=0:=by
         by_cases q:i<p
         . refine lA (p:=p-1) (by omega) λc hc=>?_;unfold minor skp;rw[if_neg (by omega),if_neg (by omega),show p-1+1=p by omega];exact h (c+1) (by omega)
         . refine lA (p:=p) (by omega) λc hc=>?_;unfold minor skp;rw[if_pos (by omega),if_pos (by omega)];exact h (c+1) (by omega)
       rw[this,Rat.mul_zero]
     . rw[if_neg hi]
   . simp only[f];rw[if_pos (by omega),if_pos hp,fg,<- h 0 (by omega)]
     have:det n (minor M p)=det n (minor M (p+1)):=aj λr hr c hc=>by
       unfold minor skp;by_cases q:r<p
       . rw[if_pos q,if_pos (by omega)]
       . rw[if_neg q];by_cases q2:r=p
         . subst q2;rw[if_pos (by omega)];exact(h (c+1) (by omega)).symm
         . rw[if_neg (by omega)]
     rw[this];grind
structure ML (n:Nat)(f:(Nat->Nat->Rat)->Rat):Prop where
 cong:∀{M M':Nat->Nat->Rat},(∀i<n,∀j<n,M i j=M' i j)->f M=f M'
 lin:∀(M:Nat->Nat->Rat) {p:Nat},p<n->∀(a b:Rat) (x y:Nat->Rat),f (ao M p λc=>a*x c+b*y c)=a*f (ao M p x)+b*f (ao M p y)
 alt:∀{M:Nat->Nat->Rat} {p:Nat},p+1<n->(∀c<n,M p c=M (p+1) c)->f M=0
theorem cL (n:Nat):ML n (det n):=⟨aj,l7,lA⟩
section
variable {n:Nat}{f:(Nat->Nat->Rat)->Rat}
theorem bH (M:Nat->Nat->Rat)(p:Nat):ao M p (M p)=M:=by
 funext r c;unfold ao;split
 . rename_i h; rw[h]
 . rfl
theorem bZ {M:Nat->Nat->Rat}{p:Nat}{v:Nat->Rat}:ao M p v p=v:=by funext c; unfold ao; rw[if_pos rfl]
theorem bX {M:Nat->Nat->Rat}{p r:Nat}{v:Nat->Rat}(h:r≠p):ao M p v r=M r:=by funext c; unfold ao; rw[if_neg h]
theorem bh {M:Nat->Nat->Rat}{p q:Nat}{v u:Nat->Rat}(h:p≠q):ao (ao M p v) q u=ao (ao M q u) p v:=by
 funext r c;unfold ao;by_cases h1:r=q
 . rw[if_pos h1,if_neg λz=>h (z.symm.trans h1),if_pos h1]
 . rw[if_neg h1,if_neg h1]
theorem ML.add (h:ML n f)(M:Nat->Nat->Rat){p:Nat}(hp:p<n)(x y:Nat->Rat):f (ao M p λc=>x c+y c)=f (ao M p x)+f (ao M p y):=by have:=h.lin M hp 1 1 x y;simp only[Rat.one_mul]at this;exact this
theorem ML.nb (h:ML n f)(M:Nat->Nat->Rat){p:Nat}(hp:p+1<n)(x y:Nat->Rat):f (ao (ao M p x) (p+1) y)=-f (ao (ao M p y) (p+1) x):=by
 have z:∀u:Nat->Rat,f (ao (ao M p u) (p+1) u)=0:=λu=>h.alt hp λc _=>by rw[bZ,bX (by omega),bZ]
 have e:=z λc=>x c+y c;rw[h.add _ hp]at e;rw[bh (by omega),h.add _ (show p<n by omega),bh (M:=M) (p:=p) (q:=p+1) (v:=λc=>x c+y c) (u:=y) (by omega),h.add _ (show p<n by omega)]at e;rw[bh (M:=M) (p:=p+1) (q:=p) (v:=x) (u:=x) (by omega),z x,bh (M:=M) (p:=p+1) (q:=p) (v:=y) (u:=y) (by omega),z y,bh (M:=M) (p:=p+1) (q:=p) (v:=x) (u:=y) (by omega),bh (M:=M) (p:=p+1) (q:=p) (v:=y) (u:=x) (by omega)]at e;grind
theorem ML.two (h:ML n f):∀(d:Nat) (M:Nat->Nat->Rat) (p:Nat),p+1+d<n->M p=M (p+1+d)->f M=0
 | 0,M,p,hp,e=>h.alt hp λc _=>by rw[e]
 | d+1,M,p,hp,e=>by have s:=h.nb M (p:=p+1+d) (by omega) (M (p+1+d)) (M (p+1+d+1));rw[bH,bH]at s;rw[s,ML.two h d _ p (by omega) (by rw[bX (by omega),bX (by omega),bX (by omega),bZ]; exact e)];rfl
theorem ML.same (h:ML n f){M:Nat->Nat->Rat}{p q:Nat}(hp:p<n)(hq:q<n)(hpq:p≠q)(e:M p=M q):f M=0:=by
 rcases Nat.lt_or_lt_of_ne hpq with z | z
 . exact h.two (q-p-1) M p (by omega) (by rw[show p+1+(q-p-1)=q by omega]; exact e)
 . exact h.two (p-q-1) M q (by omega) (by rw[show q+1+(p-q-1)=p by omega]; exact e.symm)
theorem ML.swap (h:ML n f){M:Nat->Nat->Rat}{p q:Nat}(hp:p<n)(hq:q<n)(hpq:p≠q)(x y:Nat->Rat):f (ao (ao M p x) q y)=-f (ao (ao M p y) q x):=by have z:∀u:Nat->Rat,f (ao (ao M p u) q u)=0:=λu=>h.same hp hq hpq (by rw[bZ,bX hpq,bZ]);have e:=z λc=>x c+y c;have c1:∀u v:Nat->Rat,ao (ao M q u) p v=ao (ao M p v) q u:=λu v=>bh λz=>hpq z.symm;rw[h.add _ hq,bh hpq,h.add _ hp,bh (M:=M) (p:=p) (q:=q) (v:=λc=>x c+y c) (u:=y) hpq,h.add _ hp,c1,c1,c1,c1,z x,z y]at e;grind
theorem ML.B8 (h:ML n f)(M:Nat->Nat->Rat){p:Nat}(hp:p<n):f (ao M p λ_=>0)=0:=by have:=h.lin M hp 0 0 (λ_=>0) (λ_=>0);simp only[Rat.zero_mul,Rat.add_zero]at this;exact this
theorem ML.sum (h:ML n f)(M:Nat->Nat->Rat){p:Nat}(hp:p<n)(v:Nat->Rat)(e:Nat->Nat->Rat):∀m,f (ao M p λj=>aG (λc=>v c*e c j) m)=aG (λc=>v c*f (ao M p (e c))) m
 | 0=>h.B8 M hp
 | m+1=>by have:=h.lin M hp 1 (v m) (λj=>aG (λc=>v c*e c j) m) (e m);simp only[Rat.one_mul]at this;rw[aG,<- ML.sum h M hp v e m];exact this
theorem ML.comb (h:ML n f)(M:Nat->Nat->Rat){p k:Nat}(hp:p<n)(hk:k<=p)(d:Rat)(β:Nat->Rat):f (ao M p λj=>d*M p j+aG (λi=>β i*M i j) k)=d*f M:=by have e:=h.lin M hp d 1 (M p) (λj=>aG (λi=>β i*M i j) k);simp only[Rat.one_mul]at e;rw[e,bH,h.sum M hp β M k,ck,Rat.add_zero];intro i hi;rw[h.same (p:=i) (q:=p) (by omega) hp (by omega) (by rw[bX (by omega),bZ]),Rat.mul_zero]
end
noncomputable def idQ (i j:Nat):Rat:=if i=j then 1 else 0
noncomputable def un1 (σ:Nat->Nat)(i j:Nat):Rat:=if σ i=j then 1 else 0
theorem vn:∀(m:Nat) (σ:Nat->Nat),(∀i<m+1,σ i<m)->∃i j,i<j/\j<m+1/\σ i=σ j
 | 0,σ,h=>absurd (h 0 (by decide)) (Nat.not_lt_zero _)
 | m+1,σ,h=>by
   by_cases q:∃i,i<m+1/\σ i=σ (m+1)
   . obtain⟨i,hi,e⟩:=q;exact⟨i,m+1,hi,by omega,e⟩
   . have q':∀i<m+1,σ i≠σ (m+1):=λi hi z=>q ⟨i,hi,z⟩;obtain⟨i,j,h1,h2,e⟩:=vn m (λi=>if σ (m+1)<σ i then σ i-1 else σ i) λi hi=>by have a:=h i (by omega);have b:=h (m+1) (by omega);have c:=q' i hi;split <;> omega
     refine⟨i,j,h1,by omega,?_⟩;have a:=q' i (by omega);have b:=q' j h2;split at e <;> split at e <;> omega
theorem xg {n k:Nat}{σ:Nat->Nat}(h:∀i<n,σ i<n)(hk:k<n)(hn:∀i<n,σ i≠k):∃i j,i<j/\j<n/\σ i=σ j:=by
 obtain⟨m,rfl⟩:∃m,n=m+1:=⟨n-1,by omega⟩;obtain⟨i,j,h1,h2,e⟩:=vn m (λi=>if k<σ i then σ i-1 else σ i) λi hi=>by have a:=h i hi;have b:=hn i hi;split <;> omega
 refine⟨i,j,h1,h2,?_⟩;have a:=hn i (by omega);have b:=hn j h2;split at e <;> split at e <;> omega
section
variable {n:Nat}{h:(Nat->Nat->Rat)->Rat}
theorem ML.vg (H:ML n h)(h0:h idQ=0):∀(d k:Nat),k+d=n->∀σ:Nat->Nat,(∀i<n,σ i<n)->(∀i<k,σ i=i)->h (un1 σ)=0
 | 0,k,hk,σ,_,hf=>by rw[<- h0];exact H.cong λi hi j _=>by unfold un1 idQ; rw[hf i (by omega)]
 | d+1,k,hk,σ,hs,hf=>by
   by_cases q:∃j,k<=j/\j<n/\σ j=k
   . obtain⟨j,h1,h2,h3⟩:=q;by_cases z:j=k
     . subst z
       exact ML.vg H h0 d (j+1) (by omega) σ hs λi hi=>by
         by_cases y:i=j
         . rw[y]; exact h3
         . exact hf i (by omega)
     . have e:un1 σ=ao (ao (un1 σ) k (un1 σ k)) j (un1 σ j):=by rw[bH,bH]
       have e2:ao (ao (un1 σ) k (un1 σ j)) j (un1 σ k)=un1 λi=>if i=j then σ k else if i=k then σ j else σ i:=by funext r c;have zk:¬k=j:=λy=>z y.symm;by_cases y1:r=j <;> by_cases y2:r=k <;> simp[ao,un1,y1,y2,zk]
       rw[e,H.swap (by omega) h2 (λy=>z y.symm),e2,ML.vg H h0 d (k+1) (by omega) _ (λi hi=>?_) (λi hi=>?_)]
       . rfl
       . split
         . exact hs k (by omega)
         . split
           . exact hs j h2
           . exact hs i hi
       . rw[if_neg (by omega)];by_cases y:i=k
         . rw[if_pos y,h3,y]
         . rw[if_neg y];exact hf i (by omega)
   . obtain⟨i,j,h1,h2,e⟩:=xg hs (show k<n by omega) λi hi z=>by
       by_cases y:i<k
       . have:=hf i y;omega
       . exact q ⟨i,by omega,hi,z⟩
     exact H.same (p:=i) (q:=j) (by omega) h2 (by omega) (by funext c; unfold un1; rw[e])
noncomputable def mF (k:Nat)(M:Nat->Nat->Rat)(σ:Nat->Nat)(i j:Nat):Rat:=if i<k then M i j else un1 σ i j
theorem ML.CH (H:ML n h)(h0:h idQ=0)(M:Nat->Nat->Rat):∀(k:Nat),k<=n->∀σ:Nat->Nat,(∀i<n,σ i<n)->h (mF k M σ)=0
 | 0,_,σ,hs=>by rw[<- ML.vg H h0 n 0 (by omega) σ hs λi hi=>absurd hi (Nat.not_lt_zero _)];exact H.cong λi _ j _=>by unfold mF; rw[if_neg (Nat.not_lt_zero _)]
 | k+1,hk,σ,hs=>by
   have e:h (mF (k+1) M σ)=h (ao (mF k M σ) k λj=>aG (λc=>M k c*idQ c j) n):=H.cong λi hi j hj=>by
     unfold ao mF;by_cases y:i=k
     . subst y;rw[if_pos (by omega),if_pos rfl];exact(cu (M i) j n hj).symm
     . rw[if_neg y];by_cases z:i<k
       . rw[if_pos (by omega),if_pos z]
       . rw[if_neg (by omega),if_neg z]
   rw[e,H.sum _ (by omega),ck];intro c hc;have e2:ao (mF k M σ) k (idQ c)=mF k M λi=>if i=k then c else σ i:=by funext r j;by_cases y:r=k <;> simp[ao,mF,un1,idQ,y]
   rw[e2,ML.CH H h0 M k (by omega) _ (λi hi=>?_),Rat.mul_zero];split
   . exact hc
   . exact hs i hi
theorem ML.zero (H:ML n h)(h0:h idQ=0)(M:Nat->Nat->Rat):h M=0:=by rw[<- ML.CH H h0 M n (Nat.le_refl _) (λi=>i) λi hi=>hi];exact H.cong λi hi j _=>by unfold mF; rw[if_pos hi]
end
theorem tT:minor idQ 0=idQ:=by
 funext r c;unfold minor idQ skp;rw[if_neg (Nat.not_lt_zero _)];by_cases h:r=c
 . rw[if_pos (by omega),if_pos h]
 . rw[if_neg (by omega),if_neg h]
theorem pG:∀n,det n idQ=1
 | 0=>rfl
 | n+1=>by
   unfold det;rw[aA (g:=λi=>det n (minor idQ i)*idQ i 0) λi hi=>?_]
   . have:=cu (λi=>det n (minor idQ i)) 0 (n+1) (by omega);have e:(λi=>det n (minor idQ i)*idQ i 0)=λk=>(λi=>det n (minor idQ i)) k*dq k 0:=rfl;rw[e,this,tT,pG n]
   . by_cases z:i=0
     . subst z;show 1*1*_=_*1;grind
     . unfold idQ;rw[if_neg z];grind
theorem ML.uniq {n:Nat}{f:(Nat->Nat->Rat)->Rat}(F:ML n f)(M:Nat->Nat->Rat):f M=det n M*f idQ:=by
 have D:=cL n
 have H:ML n λM=>f M-det n M*f idQ:=by
   refine⟨λ{M M'} e=>?_,λM p hp a b x y=>?_,λ{M p} hp e=>?_⟩
   . rw[F.cong e,D.cong e]
   . rw[F.lin M hp,D.lin M hp];grind
   . rw[F.alt hp e,D.alt hp e];grind
 have:=H.zero (by rw[pG]; grind) M;grind
theorem fq:∀{n:Nat} (M:Nat->Nat->Rat) {q:Nat},q<n->∀(a b:Rat) (x y:Nat->Rat),det n (aE M q λc=>a*x c+b*y c)=a*det n (aE M q x)+b*det n (aE M q y)
 | 0,_,_,h,_,_,_,_=>absurd h (Nat.not_lt_zero _)
 | n+1,M,q,hq,a,b,x,y=>by
   unfold det;rw[bS,bS,<- fE];refine aA λi hi=>?_;cases q with
   | zero=>
     have e:∀v,minor (aE M 0 v) i=minor M i:=λv=>by funext r c;unfold minor aE;rw[if_neg (by omega)]
     rw[e,e,e];simp only[aE,if_true];grind
   | succ q=>
     have e:∀v,minor (aE M (q+1) v) i=aE (minor M i) q λr=>v (skp i r):=λv=>by
       funext r c;unfold minor aE;by_cases z:c=q
       . rw[if_pos (by omega),if_pos z]
       . rw[if_neg (by omega),if_neg z]
     rw[e,e,e,fq (minor M i) (show q<n by omega) a b];have z:¬(0=q+1):=by omega
     simp only[aE,if_neg z];grind
theorem lg (g:Nat->Rat)(i:Nat):∀n,i<=n->aG (λj=>g (skp i j)) n=aG g (n+1)-g i
 | 0,h=>by
   have:i=0:=by omega
   subst this;show (0:Rat)=0+g 0-g 0;grind
 | n+1,h=>by
   by_cases q:i=n+1
   . subst q;have e:aG (λj=>g (skp (n+1) j)) (n+1)=aG g (n+1):=aA λk hk=>by unfold skp; rw[if_pos hk]
     rw[e,aG.eq_2 g (n+1)];grind
   . rw[aG,lg g i n (by omega),aG.eq_2 g (n+1)];have:skp i n=n+1:=by unfold skp; rw[if_neg (by omega)]
     rw[this];grind
theorem r9 {n:Nat}{G:Nat->Nat->Rat}(h:∀i<n,∀j<n,G i j=-G j i):aG (λi=>aG (λj=>G i j) n) n=0:=by
 have e:aG (λi=>aG (λj=>G i j) n) n=-1*aG (λi=>aG (λj=>G i j) n) n:=by
   conv=>lhs; rw[hU]
   rw[bS];refine aA λi hi=>?_;rw[bS];refine aA λj hj=>?_;rw[h j hj i hi];grind
 grind
theorem wq {i j r:Nat}(h:i<j):skp i (skp (j-1) r)=skp j (skp i r):=by unfold skp;split <;> split <;> (try split) <;> (try split) <;> omega
theorem m9:∀{n:Nat} {M:Nat->Nat->Rat} {q:Nat},q+1<n->(∀r<n,M r q=M r (q+1))->det n M=0
 | 0,_,_,h,_=>absurd h (Nat.not_lt_zero _)
 | 1,_,_,h,_=>by omega
 | n+2,M,q+1,hq,h=>by rw[det];refine ck λi hi=>?_;rw[m9 (M:=minor M i) (q:=q) (by omega) λr hr=>h _ (il hr),Rat.mul_zero]
 | n+2,M,0,hq,h=>by
   let D:Nat->Nat->Rat:=λi j=>det n λr c=>M (skp i (skp j r)) (c+2)
   let G:Nat->Nat->Rat:=λi j=>if i<j then -(sgn i*sgn j*M i 0*M j 0*D i (j-1)) else if j<i then sgn i*sgn j*M i 0*M j 0*D i j else 0
   have inner:∀i<n+2,sgn i*M i 0*det (n+1) (minor M i)=aG (λj=>G i j) (n+2):=λi hi=>by
     have e:aG (λj=>G i j) (n+2)=aG (λj=>G i (skp i j)) (n+1):=by
       have g0:G i i=0:=by simp only[G]; rw[if_neg (Nat.lt_irrefl i),if_neg (Nat.lt_irrefl i)]
       rw[lg (λj=>G i j) i (n+1) (by omega),g0];grind
     rw[e,det,bS];refine aA λj hj=>?_;have m0:minor M i j 0=M (skp i j) 0:=(h _ (il hj)).symm;have mm:det n (minor (minor M i) j)=D i j:=rfl;rw[m0,mm];simp only[G];by_cases z:j<i
     . have s:skp i j=j:=by unfold skp; rw[if_pos z]
       rw[s,if_neg (by omega),if_pos z];grind
     . have s:skp i j=j+1:=by unfold skp; rw[if_neg z]
       rw[s,if_pos (by omega),fg,show j+1-1=j by omega];grind
   rw[det,aA inner];refine r9 λi hi j hj=>?_;have sy:∀{i j:Nat},i<j->D i (j-1)=D j i:=λ{i j} z=>by simp only[D];congr 1;funext r c;rw[wq z]
   simp only[G];rcases Nat.lt_trichotomy i j with z | z | z
   . rw[if_pos z,if_neg (by omega),if_pos z,sy z];grind
   . subst z;rw[if_neg (Nat.lt_irrefl _),if_neg (Nat.lt_irrefl _)];rfl
   . rw[if_neg (by omega),if_pos z,if_pos z,sy z];grind
theorem b5 (n:Nat)(M:Nat->Nat->Rat):det n (λi j=>M j i)=det n M:=by
 have H:ML n λM=>det n λi j=>M j i:=by refine⟨λ{M M'} e=>aj λi hi j hj=>e j hj i hi,λM p hp a b x y=>?_,λ{M p} hp e=>m9 hp λr hr=>e r hr⟩;exact fq (λi j=>M j i) hp a b x y
 have u:=H.uniq M
 have i1:(det n λi j=>idQ j i)=1:=by
   rw[<- pG n];congr 1;funext i j;unfold idQ;by_cases z:i=j
   . rw[if_pos z,if_pos z.symm]
   . rw[if_neg z,if_neg λy=>z y.symm]
 simp only[i1,Rat.mul_one]at u;exact u
theorem iC (m:Nat):∀(k:Nat) (M:Nat->Nat->Rat),(∀i,k<=i->i<k+m->∀j<k,M i j=0)->det (k+m) M=det k M*det m λi j=>M (k+i) (k+j)
 | 0,M,_=>by rw[Nat.zero_add];show det m M=1*_;rw[Rat.one_mul];congr 1;funext i j;rw[Nat.zero_add,Nat.zero_add]
 | k+1,M,h=>by
   have a:k+1+m=(k+m)+1:=by omega
   rw[a,det,det,oo]
   have tail:∀t,aG (λi=>sgn i*M i 0*det (k+m) (minor M i)) (k+1+t)=aG (λi=>sgn i*M i 0*det (k+m) (minor M i)) (k+1)\/¬t<=m:=by
     intro t;induction t with
     | zero=>exact .inl rfl
     | succ t ih=>
       by_cases q:t+1<=m
       . rcases ih with ih | ih
         . refine .inl ?_;rw[show k+1+(t+1)=(k+1+t)+1 by omega,aG,ih,h (k+1+t) (by omega) (by omega) 0 (by omega)];grind
         . omega
       . exact .inr q
   rcases tail m with e | e
   . rw[show k+m+1=k+1+m by omega,e];refine aA λi hi=>?_;rw[iC m k (minor M i) λr h1 h2 c hc=>?_]
     . have:(λr c=>minor M i (k+r) (k+c))=λr c=>M (k+1+r) (k+1+c):=by funext r c;unfold minor skp;rw[if_neg (by omega),show k+r+1=k+1+r by omega,show k+c+1=k+1+c by omega]
       rw[this];grind
     . unfold minor skp;rw[if_neg (by omega)];exact h _ (by omega) (by omega) _ (by omega)
   . exact absurd (Nat.le_refl m) e
noncomputable def bm (Y:Nat->Nat->Rat)(k p q:Nat):Rat:=det (k+1) λr c=>Y (if r<k then r else p) (if c<k then c else q)
noncomputable def bc (Y:Nat->Nat->Rat)(k p i:Nat):Rat:=det (k+1) (ao (λr c=>Y (if c<k then c else p) r) k (idQ i))
theorem fG (M:Nat->Nat->Rat):det 1 M=M 0 0:=by show 0+1*M 0 0*1=M 0 0;grind
theorem wc (M:Nat->Nat->Rat):det 2 M=M 0 0*M 1 1-M 0 1*M 1 0:=by show 0+1*M 0 0*det 1 (minor M 0) + -1*M 1 0*det 1 (minor M 1)=_;rw[fG,fG];show 0+1*M 0 0*M 1 1 + -1*M 1 0*M 0 1=_;grind
section
variable {Y:Nat->Nat->Rat}{k p q:Nat}
theorem AG:bm Y k p q=det k Y*Y p q+aG (λi=>bc Y k p i*Y i q) k:=by
 have e:bm Y k p q=det (k+1) (ao (λr c=>Y (if c<k then c else p) r) k λr=>aG (λc=>Y (if c<k then c else p) q*idQ c r) (k+1)):=by
   unfold bm;rw[<- b5];refine aj λi hi j hj=>?_;unfold ao;by_cases z:i=k
   . subst z;rw[if_pos rfl,if_neg (Nat.lt_irrefl _)];exact(cu (λc=>Y (if c<i then c else p) q) j (i+1) hj).symm
   . rw[if_neg z,if_pos (show i<k by omega)]
 have last:det (k+1) (ao (λr c=>Y (if c<k then c else p) r) k (idQ k))=det k Y:=by
   rw[iC 1 k _ λi h1 h2 j hj=>?_,fG]
   . have e1:ao (λr c=>Y (if c<k then c else p) r) k (idQ k) (k+0) (k+0)=1:=by unfold ao idQ;rw[if_pos (Nat.add_zero k),if_pos (Nat.add_zero k).symm]
     rw[e1,Rat.mul_one,<- b5];refine aj λi hi j hj=>?_;unfold ao;rw[if_neg (by omega)];dsimp only;rw[if_pos hi]
   . have:i=k:=by omega
     subst this;unfold ao idQ;rw[if_pos rfl,if_neg (by omega)]
 rw[e,(cL (k+1)).sum _ (Nat.lt_succ_self k),aG,last,if_neg (Nat.lt_irrefl _),Rat.add_comm,Rat.mul_comm (Y p q)];congr 1;exact aA λi hi=>by rw[if_pos hi,Rat.mul_comm]; rfl
theorem wJ (h:q<k):bm Y k p q=0:=by unfold bm;rw[<- b5];refine(cL (k+1)).same (p:=q) (q:=k) (by omega) (by omega) (by omega) ?_;funext r;rw[if_pos h,if_neg (Nat.lt_irrefl _)]
noncomputable def rho (k m r:Nat):Nat:=if r<k then r else if r=k then k+m else if r<=k+m then r-1 else r
theorem mf {n:Nat}:∀(m:Nat) (Y:Nat->Nat->Rat),k+m<n->(det n λr=>Y (rho k m r))=sgn m*det n Y
 | 0,Y,_=>by
   have:(λr=>Y (rho k 0 r))=Y:=by
     funext r;congr 1;unfold rho;split
     . rfl
     . split
       . omega
       . split <;> omega
   rw[this];show _=1*_;rw[Rat.one_mul]
 | m+1,Y,h=>by
   have ih:=mf (n:=n) m (ao (ao Y (k+m) (Y (k+m+1))) (k+m+1) (Y (k+m))) (by omega);have s:=(cL n).nb Y (p:=k+m) (by omega) (Y (k+m+1)) (Y (k+m));rw[bH,bH]at s;rw[s]at ih;rw[fg]
   have e:(λr=>ao (ao Y (k+m) (Y (k+m+1))) (k+m+1) (Y (k+m)) (rho k m r))=λr=>Y (rho k (m+1) r):=by
     funext r;by_cases z:rho k m r=k+m+1
     . rw[z,bZ];congr 1;unfold rho at z ⊢;split at z
       . omega
       . split at z
         . omega
         . split at z
           . omega
           . rename_i a b c;rw[if_neg a,if_neg b,if_pos (by omega)];omega
     . rw[bX z];by_cases y:rho k m r=k+m
       . rw[y,bZ];congr 1;unfold rho at y z ⊢;split at y
         . omega
         . split at y
           . rename_i a b;rw[if_neg a,if_pos b];omega
           . split at y
             . omega
             . omega
       . rw[bX y];congr 1;unfold rho at y z ⊢;split at y
         . rename_i a;rw[if_pos a,if_pos a]
         . rename_i a;rw[if_neg a]at z;split at y
           . omega
           . rename_i b;rw[if_neg b]at z;rw[if_neg a,if_neg b,if_neg a,if_neg b];split at y
             . rename_i c;rw[if_pos c,if_pos (by omega)]
             . rename_i c;rw[if_neg c]at z;rw[if_neg c,if_neg (by omega)]
   rw[e]at ih;rw[ih];grind
end
noncomputable def iP (s:Nat->Rat):Nat->Rat
 | 0=>1
 | n+1=>iP s n*s n
theorem kW {n:Nat}(s:Nat->Rat)(M:Nat->Nat->Rat):∀t,t<=n->det n (λi j=>if i<t then s i*M i j else M i j)=iP s t*det n M
 | 0,_=>by rw[iP,Rat.one_mul];exact aj λi _ j _=>if_neg (Nat.not_lt_zero _)
 | t+1,h=>by
   have ih:=kW (n:=n) s M t (by omega);have c:=(cL n).comb (λi j=>if i<t then s i*M i j else M i j) (p:=t) (k:=0) (by omega) (Nat.zero_le _) (s t) (λ_=>0);rw[ih]at c;rw[iP,Rat.mul_comm (iP s t),Rat.mul_assoc,<- c];refine aj λi _ j _=>?_;unfold ao;by_cases q:i=t
   . subst q;rw[if_pos (Nat.lt_succ_self i),if_pos rfl];dsimp only;rw[if_neg (Nat.lt_irrefl i)];show _=_+0;rw[Rat.add_zero]
   . rw[if_neg q];dsimp only;by_cases z:i<t
     . rw[if_pos (by omega),if_pos z]
     . rw[if_neg (by omega),if_neg z]
noncomputable def qg (k:Int)(j:Nat):Bool:=decide (Builtin.bitAnd (k/2^j) 1=1)
noncomputable def jz (k:Int)(j:Nat):Int:=Builtin.bitOr k (1*2^j)
noncomputable def sgZ (b:Int):Int:=1-2*b.fmod 2
noncomputable def kb (row:List Int)(k v:Int)(j:Nat)(s:Int×List (Int×Int)):Int×List (Int×Int):=if qg k j then (s.1+1,s.2) else (s.1,eY s.2 (jz k j) ((bP s.2 (jz k j)).getD 0+sgZ s.1*row.getD j 0*v))
noncomputable def cv (n:Nat)(row:List Int)(k v:Int)(kv:List (Int×Int)):Nat->Int×List (Int×Int)
 | 0=>(0,kv)
 | c+1=>kb row k v (n-1-c) (cv n row k v kv c)
noncomputable def bw (n:Nat)(row:List Int)(kv:List (Int×Int)):Nat->List (Int×Int)
 | 0=>[]
 | t+1=>(cv n row (kv.getD t (0,0)).1 ((bP kv (kv.getD t (0,0)).1).getD 0) (bw n row kv t) n).2
theorem m8 (m:Nat)(Y:Nat->Nat->Rat):det (m+1) Y=aG (λc=>sgn (m+c)*Y m c*det m λr q=>Y r (skp c q)) (m+1):=by
 have e1:=mf (k:=0) (n:=m+1) m Y (by omega);have e2:=b5 (m+1) λr=>Y (rho 0 m r);rw[det]at e2;have r0:rho 0 m 0=m:=by unfold rho; rw[if_neg (by omega),if_pos rfl]; omega
 have rs:∀r,r<m->rho 0 m (r+1)=r:=λr hr=>by unfold rho;rw[if_neg (by omega),if_neg (by omega),if_pos (by omega)];omega
 have e3:aG (λc=>sgn c*Y m c*det m λr q=>Y r (skp c q)) (m+1)=sgn m*det (m+1) Y:=by rw[<- e1,<- e2];refine aA λc _=>?_;rw[r0,<- b5 m];congr 1;exact aj λr hr q hq=>by unfold minor;dsimp only;rw[rs q hq]
 have sm:∀c,sgn (m+c)=sgn m*sgn c:=λc=>by
   induction c with
   | zero=>rw[Nat.add_zero,show sgn 0=1 from rfl,Rat.mul_one]
   | succ c ih=>rw[<- Nat.add_assoc,fg,ih,fg]; grind
 have:aG (λc=>sgn (m+c)*Y m c*det m λr q=>Y r (skp c q)) (m+1)=sgn m*aG (λc=>sgn c*Y m c*det m λr q=>Y r (skp c q)) (m+1):=by rw[bS];refine aA λc _=>?_;rw[sm];grind
 rw[this,e3,<- Rat.mul_assoc,lU,Rat.one_mul]
noncomputable def du (M:Nat->Nat->Rat)(L:List Nat):Rat:=det L.length λr c=>M r (L.getD c 0)
theorem ju {M:Nat->Nat->Rat}{L:List Nat}{m:Nat}(h:L.length=m+1):du M L=aG (λc=>sgn (m-c)*M m (L.getD c 0)*du M (L.eraseIdx c)) (m+1):=by
 unfold du;rw[h,m8];refine aA λc hc=>?_
 have e1:sgn (m+c)=sgn (m-c):=by
   unfold sgn;by_cases z:(m+c)%2=0
   . rw[if_pos z,if_pos (by omega)]
   . rw[if_neg z,if_neg (by omega)]
 have e2:(L.eraseIdx c).length=m:=by rw[List.length_eraseIdx_of_lt (by omega)]; omega
 rw[e1,e2];refine congrArg (λx=>sgn (m-c)*M m (L.getD c 0)*x) (aj λr _ q hq=>?_);rw[List.getD_eq_getElem?_getD,List.getD_eq_getElem?_getD,List.getElem?_eraseIdx];unfold skp;split <;> rfl
noncomputable def cols (n S:Nat):List Nat:=(List.range n).filter λj=>S.testBit j
theorem oO {n S j:Nat}:j∈cols n S↔j<n/\S.testBit j=true:=by unfold cols;rw[List.mem_filter,List.mem_range]
theorem wY {n S j:Nat}(hj:j<n)(h:S.testBit j=false):cols n (S ||| 2^j)=(cols j S)++j::((List.range (n-(j+1))).map (j+1+·)).filter (λk=>S.testBit k):=by
 unfold cols;obtain⟨d,rfl⟩:=Nat.exists_eq_add_of_le (show j+1<=n from hj);rw[List.range_add,List.range_succ,List.filter_append,List.filter_append,show j+1+d-(j+1)=d by omega,List.append_assoc];have lo:(List.range j).filter (λk=>(S ||| 2^j).testBit k)=(List.range j).filter λk=>S.testBit k:=List.filter_congr λk hk=>by have:=List.mem_range.mp hk;rw[Nat.testBit_or,Nat.testBit_two_pow_of_ne (by omega),Bool.or_false]
 have hi:((List.range d).map (j+1+·)).filter (λk=>(S ||| 2^j).testBit k)=((List.range d).map (j+1+·)).filter λk=>S.testBit k:=List.filter_congr λk hk=>by obtain⟨q,_,rfl⟩:=List.mem_map.mp hk;rw[Nat.testBit_or,Nat.testBit_two_pow_of_ne (by omega),Bool.or_false]
 rw[lo,hi,List.filter_cons_of_pos (by rw[Nat.testBit_or,Nat.testBit_two_pow_self,Bool.or_true]),List.filter_nil];rfl
noncomputable def above (n j S:Nat):List Nat:=((List.range (n-(j+1))).map (j+1+·)).filter λk=>S.testBit k
theorem px {n S j:Nat}(hj:j<n)(h:S.testBit j=false):cols n S=cols j S++above n j S:=by unfold cols above;obtain⟨d,rfl⟩:=Nat.exists_eq_add_of_le (show j+1<=n from hj);rw[List.range_add,List.range_succ,List.filter_append,List.filter_append,show j+1+d-(j+1)=d by omega,List.filter_cons_of_neg (by rw[h]; decide),List.filter_nil,List.append_nil]
theorem jY {n S j:Nat}(hj:j<n)(h:S.testBit j=false):(cols n (S ||| 2^j)).length=(cols n S).length+1/\(cols n (S ||| 2^j)).getD (cols j S).length 0=j/\(cols n (S ||| 2^j)).eraseIdx (cols j S).length=cols n S/\(cols n S).length-(cols j S).length=(above n j S).length/\(cols j S).length<=(cols n S).length:=by
 rw[wY hj h,px hj h];refine⟨by simp only[List.length_append,List.length_cons]; rfl,?_,?_,by rw[List.length_append]; omega,by rw[List.length_append]; omega⟩
 . rw[List.getD_eq_getElem?_getD,List.getElem?_append_right (Nat.le_refl _),Nat.sub_self];rfl
 . rw[List.eraseIdx_append_of_length_le (Nat.le_refl _),Nat.sub_self];rfl
theorem rZ (n S:Nat):cols (n+1) S=if S.testBit n then cols n S++[n] else cols n S:=by
 unfold cols;rw[List.range_succ,List.filter_append];cases h:S.testBit n with
 | true=>rw[List.filter_cons_of_pos h,List.filter_nil,if_pos rfl]
 | false=>rw[List.filter_cons_of_neg (by rw[h]; decide),List.filter_nil,List.append_nil,if_neg (by decide)]
theorem oA (G:Nat->Nat->Rat)(S:Nat):∀n,aG (λc=>G c ((cols n S).getD c 0)) (cols n S).length=aG (λj=>if S.testBit j then G (cols j S).length j else 0) n
 | 0=>rfl
 | n+1=>by
   rw[rZ,aG,<- oA G S n];cases h:S.testBit n with
   | true=>
     rw[if_pos rfl,if_pos rfl,List.length_append,List.length_singleton,aG];have e1:(cols n S++[n]).getD (cols n S).length 0=n:=by rw[List.getD_eq_getElem?_getD,List.getElem?_append_right (Nat.le_refl _),Nat.sub_self];rfl
     rw[e1];refine congrArg (·+G (cols n S).length n) (aA λc hc=>?_);rw[List.getD_eq_getElem?_getD,List.getElem?_append_left hc,<- List.getD_eq_getElem?_getD]
   | false=>rw[if_neg (by decide),if_neg (by decide),Rat.add_zero]
theorem gZ {S j:Nat}(h:S.testBit j=true):(S ^^^ 2^j).testBit j=false/\(S ^^^ 2^j) ||| 2^j=S/\∀k,k≠j->(S ^^^ 2^j).testBit k=S.testBit k:=by
 have a:∀k,k≠j->(S ^^^ 2^j).testBit k=S.testBit k:=λk hk=>by rw[Nat.testBit_xor,Nat.testBit_two_pow_of_ne (Ne.symm hk),Bool.xor_false]
 have b:(S ^^^ 2^j).testBit j=false:=by rw[Nat.testBit_xor,Nat.testBit_two_pow_self,h]; rfl
 refine⟨b,Nat.eq_of_testBit_eq λk=>?_,a⟩;rw[Nat.testBit_or];by_cases z:k=j
 . subst z;rw[Nat.testBit_two_pow_self,Bool.or_true,h]
 . rw[a k z,Nat.testBit_two_pow_of_ne (Ne.symm z),Bool.or_false]
theorem rW {M:Nat->Nat->Rat}{n m S:Nat}(h:(cols n S).length=m+1):du M (cols n S)=aG (λj=>if S.testBit j then sgn (above n j S).length*M m j*du M (cols n (S ^^^ 2^j)) else 0) n:=by
 rw[ju h,<- h,oA (λc j=>sgn (m-c)*M m j*du M ((cols n S).eraseIdx c)) S n];refine aA λj hj=>?_;cases hb:S.testBit j with
 | false=>rfl
 | true=>
   rw[if_pos rfl,if_pos rfl];obtain⟨b1,b2,b3⟩:=gZ hb;obtain⟨c1,c2,c3,c4,c5⟩:=jY hj b1;rw[b2]at c1 c2 c3;have l1:cols j (S ^^^ 2^j)=cols j S:=List.filter_congr λk hk=>b3 k (by have:=List.mem_range.mp hk; omega);have l2:above n j (S ^^^ 2^j)=above n j S:=List.filter_congr λk hk=>by obtain⟨q,_,rfl⟩:=List.mem_map.mp hk;exact b3 _ (by omega)
   rw[l1]at c3 c4;rw[l2]at c4;rw[c3,<- c4,show (cols n (S ^^^ 2^j)).length=m by omega]
theorem CJ (S j:Nat):qg (S:Int) j=S.testBit j:=by
 unfold qg;have e:(S:Int)/2^j=((S/2^j:Nat):Int):=by simp
 rw[e,PyProof.Rows.bitAnd_pp (Int.natCast_nonneg _) (by decide),Int.toNat_natCast,Nat.testBit_eq_decide_div_mod_eq];have:(S/2^j) &&& (1:Int).toNat=S/2^j%2:=by show (S/2^j) &&& 1=_; rw[Nat.and_one_is_mod]
 rw[this];congr 1;rw[eq_iff_iff];omega
theorem Cm (S j:Nat):jz (S:Int) j=((S ||| 2^j:Nat):Int):=by
 unfold jz;have e:(1:Int)*2^j=((2^j:Nat):Int):=by simp
 rw[e];generalize 2^j=y;unfold Builtin.bitOr;have h1:¬(0<=Builtin.bitNot (S:Int)):=by unfold Builtin.bitNot; omega
 have h2:¬(0<=Builtin.bitNot (y:Int)):=by unfold Builtin.bitNot; omega
 rw[PyProof.Rows.bitAnd_nn h1 h2];have h3:∀x:Int,Builtin.bitNot (Builtin.bitNot x)=x:=λx=>by unfold Builtin.bitNot; omega
 rw[h3,h3,h3,Int.toNat_natCast,Int.toNat_natCast]
theorem Dd (k:Nat):((sgZ (k:Int):Int):Rat)=sgn k:=by
 unfold sgZ sgn;rw[Int.fmod_eq_emod_of_nonneg _ (by decide)];by_cases h:k%2=0
 . rw[if_pos h,show (k:Int)%2=0 by omega]; rfl
 . rw[if_neg h,show (k:Int)%2=1 by omega]; rfl
theorem l6 (kv:List (Int×Int))(k v j:Int):bP (eY kv k v) j=if j=k then some v else bP kv j:=by
 have e:=vV (Ev.bL kv) (Sum.inl k) (Sum.inl j) (V.int v);rw[rn,gk,gk]at e;by_cases h:j=k
 . rw[if_pos (congrArg Sum.inl h)]at e;rw[if_pos h];cases z:bP (eY kv k v) j with
   | none=>rw[z]at e; cases e
   | some x=>rw[z]at e; cases e; rfl
 . rw[if_neg (λz=>h (Sum.inl.inj z))]at e;rw[if_neg h];cases z:bP (eY kv k v) j <;> cases z':bP kv j <;> rw[z,z']at e <;> cases e <;> rfl
theorem mU (kv:List (Int×Int))(k v:Int):(eY kv k v).map (·.1)=if (kv.any λp=>decide (p.1=k))=true then kv.map (·.1) else kv.map (·.1)++[k]:=by
 unfold eY;split
 . rw[List.map_map];refine List.map_congr_left λp _=>?_;simp only[Function.comp];split <;> rfl
 . rw[List.map_append]; rfl
theorem Aw {kv:List (Int×Int)}{k v:Int}(h:(kv.map (·.1)).Nodup):((eY kv k v).map (·.1)).Nodup:=by
 rw[mU];split
 . exact h
 . rename_i z;rw[List.nodup_append];refine⟨h,by simp,λa ha b hb e=>z ?_⟩;obtain⟨p,hp,rfl⟩:=List.mem_map.mp ha;rw[List.mem_singleton]at hb;exact List.any_eq_true.mpr ⟨p,hp,decide_eq_true (e.trans hb)⟩
theorem wR {kv:List (Int×Int)}{k v x:Int}(h:x∈(eY kv k v).map (·.1)):x=k\/x∈kv.map (·.1):=by
 rw[mU]at h;split at h
 . exact .inr h
 . rcases List.mem_append.mp h with h | h
   . exact .inr h
   . exact .inl (List.mem_singleton.mp h)
theorem pZ:∀{kv:List (Int×Int)} {q:Int×Int},(kv.map (·.1)).Nodup->q∈kv->bP kv q.1=some q.2
 | p::t,q,h,hq=>by
   rw[List.map_cons,List.nodup_cons]at h;unfold bP;by_cases z:p.1=q.1
   . rw[List.find?_cons_of_pos (by simp[z])];rcases List.mem_cons.mp hq with e | hq
     . rw[e]; rfl
     . exact absurd (List.mem_map.mpr ⟨q,hq,z.symm⟩) h.1
   . rw[List.find?_cons_of_neg (by simp[z])];rcases List.mem_cons.mp hq with e | hq
     . exact absurd (by rw[e]) z
     . exact pZ h.2 hq
theorem tS:∀{kv:List (Int×Int)} {k v:Int},bP kv k=some v->(k,v)∈kv
 | p::t,k,v,h=>by
   unfold bP at h;by_cases z:p.1=k
   . rw[List.find?_cons_of_pos (by simp[z])]at h;cases h;rw[<- z];exact List.mem_cons_self ..
   . rw[List.find?_cons_of_neg (by simp[z])]at h;exact List.mem_cons_of_mem _ (tS h)
noncomputable def gv (kv:List (Int×Int))(k:Int):Rat:=(((bP kv k).getD 0:Int):Rat)
theorem Ay (kv:List (Int×Int))(k j x:Int):gv (eY kv k ((bP kv k).getD 0+x)) j=gv kv j+if j=k then (x:Rat) else 0:=by
 unfold gv;rw[l6];by_cases h:j=k
 . rw[if_pos h,if_pos h,h,Option.getD_some,Rat.intCast_add]
 . rw[if_neg h,if_neg h,Rat.add_zero]
theorem pS {n j S:Nat}(h:j+1<n):(above n j S).length=(if S.testBit (j+1) then 1 else 0)+(above n (j+1) S).length:=by
 unfold above;obtain⟨d,rfl⟩:=Nat.exists_eq_add_of_le (show j+2<=n from h);rw[show j+2+d-(j+1)=d+1 by omega,show j+2+d-(j+1+1)=d by omega,List.range_succ_eq_map,List.map_cons,List.map_map,List.filter_cons];have e:(List.range d).map ((j+1+·)∘Nat.succ)=(List.range d).map (j+1+1+·):=List.map_congr_left λk _=>by simp only[Function.comp]; omega
 rw[e,Nat.add_zero];split
 . rw[List.length_cons]; omega
 . omega
theorem pK {n S:Nat}:(above (n+1) n S).length=0:=by unfold above;rw[show n+1-(n+1)=0 by omega];rfl
theorem jV (g:Nat->Rat):∀n,aG g (n+1)=g 0+aG (λk=>g (k+1)) n
 | 0=>by simp only[aG,Rat.add_zero,Rat.zero_add]
 | n+1=>by rw[aG,jV g n,aG,Rat.add_assoc]
theorem j0 (f:Nat->Rat):∀n,aG (λt=>f (n-1-t)) n=aG f n
 | 0=>rfl
 | n+1=>by rw[jV,aG,Rat.add_comm,show n+1-1-0=n by omega,<- j0 f n];refine congrArg (·+f n) (aA λk hk=>?_);rw[show n+1-1-(k+1)=n-1-k by omega]
noncomputable def pf (n S:Nat):Nat->Nat
 | 0=>0
 | c+1=>pf n S c+if S.testBit (n-1-c) then 1 else 0
theorem kS {n S:Nat}:∀c,c<n->pf n S c=(above n (n-1-c) S).length
 | 0,h=>by obtain⟨m,rfl⟩:=Nat.exists_eq_succ_of_ne_zero (show n≠0 by omega);rw[show m.succ-1-0=m by omega,pK];rfl
 | c+1,h=>by rw[pf,kS c (by omega),pS (n:=n) (j:=n-1-(c+1)) (by omega),show n-1-(c+1)+1=n-1-c by omega];omega
noncomputable def evQ (n:Nat)(row:List Int)(S:Nat)(v:Rat)(T:Int)(j:Nat):Rat:=if S.testBit j then 0 else if T=((S ||| 2^j:Nat):Int) then sgn (above n j S).length*((row.getD j 0:Int):Rat)*v else 0
structure CI (n S:Nat)(row:List Int)(v:Int)(lk:List (Int×Int))(c:Nat)(r:Int×List (Int×Int)):Prop where
 cnt:r.1=(pf n S c:Nat)
 val:∀T,gv r.2 T=gv lk T+aG (λt=>evQ n row S v T (n-1-t)) c
 key:∀x∈r.2.map (·.1),x∈lk.map (·.1)\/∃j,j<n/\S.testBit j=false/\x=((S ||| 2^j:Nat):Int)
 nd:(r.2.map (·.1)).Nodup
 old:∀T,bP lk T≠none->bP r.2 T≠none
 new:∀t<c,S.testBit (n-1-t)=false->bP r.2 ((S ||| 2^(n-1-t):Nat):Int)≠none
theorem qo {n S:Nat}{row:List Int}{v:Int}{lk:List (Int×Int)}(hn:(lk.map (·.1)).Nodup):∀c,c<=n->CI n S row v lk c (cv n row (S:Int) v lk c)
 | 0,_=>⟨rfl,λT=>by rw[aG,Rat.add_zero]; rfl,λx h=>.inl h,hn,λ_ h=>h,λt h=>by omega⟩
 | c+1,hc=>by
   obtain⟨h1,h2,h3,h4,h5,h6⟩:=qo (n:=n) (S:=S) (row:=row) (v:=v) hn c (by omega);rw[cv,kb,CJ,Cm];generalize cv n row (S:Int) v lk c=r at h1 h2 h3 h4 h5 h6 ⊢;cases hb:S.testBit (n-1-c) with
   | true=>
     rw[if_pos rfl];refine⟨by dsimp only; rw[h1,pf,hb,if_pos rfl]; omega,λT=>?_,h3,h4,h5,λt ht hf=>?_⟩
     . rw[aG,evQ,if_pos hb,Rat.add_zero]; exact h2 T
     . rcases Nat.lt_or_ge t c with z | z
       . exact h6 t z hf
       . obtain rfl:t=c:=by omega
         rw[hb]at hf; cases hf
   | false=>
     rw[if_neg (by decide)];refine⟨by dsimp only; rw[h1,pf,hb]; rfl,λT=>?_,λx hx=>?_,Aw h4,λT hT=>?_,λt ht hf=>?_⟩
     . dsimp only;have e:evQ n row S v T (n-1-c)=if T=((S ||| 2^(n-1-c):Nat):Int) then sgn (pf n S c)*((row.getD (n-1-c) 0:Int):Rat)*v else 0:=by unfold evQ;rw[if_neg (by rw[hb]; decide),<- kS (n:=n) (S:=S) c (by omega)]
       rw[Ay,h2,aG,<- Rat.add_assoc,e,h1,Rat.intCast_mul,Rat.intCast_mul,Dd]
     . rcases wR hx with e | e
       . exact .inr ⟨n-1-c,by omega,hb,e⟩
       . exact h3 x e
     . dsimp only;rw[l6];split
       . exact nofun
       . exact h5 T hT
     . dsimp only;rw[l6];split
       . exact nofun
       . rename_i z;rcases Nat.lt_or_ge t c with y | y
         . exact h6 t y hf
         . obtain rfl:t=c:=by omega
           exact absurd rfl z
structure MI (n:Nat)(row:List Int)(Sf:Nat->Nat)(vf:Nat->Rat)(t:Nat)(r:List (Int×Int)):Prop where
 val:∀T,gv r T=aG (λs=>aG (evQ n row (Sf s) (vf s) T) n) t
 key:∀x∈r.map (·.1),∃s<t,∃j,j<n/\(Sf s).testBit j=false/\x=((Sf s ||| 2^j:Nat):Int)
 nd:(r.map (·.1)).Nodup
 new:∀s<t,∀j<n,(Sf s).testBit j=false->bP r ((Sf s ||| 2^j:Nat):Int)≠none
theorem mZ {n:Nat}{row:List Int}{kv:List (Int×Int)}{Sf:Nat->Nat}(hS:∀s<kv.length,(kv.getD s (0,0)).1=(Sf s:Int)):∀t,t<=kv.length->MI n row Sf (λs=>gv kv (Sf s)) t (bw n row kv t)
 | 0,_=>⟨λT=>rfl,λx h=>by simp[bw]at h,by simp[bw],λs h=>by omega⟩
 | t+1,ht=>by
   obtain⟨h1,h2,h3,h4⟩:=mZ (n:=n) (row:=row) hS t (by omega);rw[bw,hS t (by omega)];generalize bw n row kv t=r at h1 h2 h3 h4 ⊢;obtain⟨_,c2,c3,c4,c5,c6⟩:=qo (n:=n) (S:=Sf t) (row:=row) (v:=(bP kv (Sf t:Int)).getD 0) h3 n (Nat.le_refl _);refine⟨λT=>?_,λx hx=>?_,c4,λs hs j hj hf=>?_⟩
   . rw[c2,h1,aG,j0 (evQ n row (Sf t) _ T)];rfl
   . rcases c3 x hx with e | ⟨j,e⟩
     . obtain⟨s,hs,e⟩:=h2 x e;exact⟨s,by omega,e⟩
     . exact⟨t,by omega,j,e⟩
   . rcases Nat.lt_or_ge s t with z | z
     . exact c5 _ (h4 s z j hj hf)
     . obtain rfl:s=t:=by omega
       have:=c6 (n-1-j) (by omega);rw[show n-1-(n-1-j)=j by omega]at this;exact this hf
structure RI (n i:Nat)(M:Nat->Nat->Rat)(kv:List (Int×Int)):Prop where
 key:∀x∈kv.map (·.1),∃S:Nat,x=(S:Int)/\S<2^n/\(cols n S).length=i
 nd:(kv.map (·.1)).Nodup
 all:∀S:Nat,S<2^n->(cols n S).length=i->bP kv (S:Int)≠none/\gv kv (S:Int)=du M (cols n S)
theorem t5 {S T j:Nat}(h:S.testBit j=false)(e:T=S ||| 2^j):T.testBit j=true/\S=T ^^^ 2^j:=by
 have h1:T.testBit j=true:=by rw[e,Nat.testBit_or,Nat.testBit_two_pow_self,Bool.or_true]
 refine⟨h1,Nat.eq_of_testBit_eq λk=>?_⟩;obtain⟨b1,_,b3⟩:=gZ h1;by_cases z:k=j
 . subst z; rw[h,b1]
 . rw[b3 k z,e,Nat.testBit_or,Nat.testBit_two_pow_of_ne (Ne.symm z),Bool.or_false]
theorem RI.step {n i:Nat}{M:Nat->Nat->Rat}{kv:List (Int×Int)}{row:List Int}(h:RI n i M kv)(hr:∀j<n,((row.getD j 0:Int):Rat)=M i j):RI n (i+1) M (bw n row kv kv.length):=by
 have hS:∀s<kv.length,(kv.getD s (0,0)).1=((kv.getD s (0,0)).1.toNat:Int)/\(kv.getD s (0,0)).1.toNat<2^n/\(cols n (kv.getD s (0,0)).1.toNat).length=i:=λs hs=>by
   have hm:kv.getD s (0,0)∈kv:=by rw[List.getD_eq_getElem?_getD,List.getElem?_eq_getElem hs]; exact List.getElem_mem hs
   obtain⟨S,e1,e2,e3⟩:=h.key _ (List.mem_map.mpr ⟨_,hm,rfl⟩);rw[e1,Int.toNat_natCast];exact⟨rfl,e2,e3⟩
 obtain⟨m1,m2,m3,m4⟩:=mZ (n:=n) (row:=row) (kv:=kv) (Sf:=λs=>(kv.getD s (0,0)).1.toNat) (λs hs=>(hS s hs).1) kv.length (Nat.le_refl _)
 have off:∀{T j:Nat},T<2^n->(cols n T).length=i+1->j<n->T.testBit j=true->T ^^^ 2^j<2^n/\(cols n (T ^^^ 2^j)).length=i/\∃s<kv.length,(kv.getD s (0,0)).1.toNat=T ^^^ 2^j:=λ{T j} hT hl hj hb=>by
   obtain⟨b1,b2,_⟩:=gZ hb;have l1:T ^^^ 2^j<2^n:=Nat.xor_lt_two_pow hT (Nat.pow_lt_pow_right (by decide) hj);have l2:=(jY hj b1).1;rw[b2,hl]at l2;refine⟨l1,by omega,?_⟩;obtain⟨q,_⟩:=h.all _ l1 (by omega);cases z:bP kv ((T ^^^ 2^j:Nat):Int) with
   | none=>exact absurd z q
   | some v=>obtain⟨s,hs⟩:=List.getElem?_of_mem (tS z);refine⟨s,(List.getElem?_eq_some_iff.mp hs).1,?_⟩;rw[List.getD_eq_getElem?_getD,hs];show (((T ^^^ 2^j:Nat):Int)).toNat=_;rw[Int.toNat_natCast]
 refine⟨λx hx=>?_,m3,λT hT hl=>⟨?_,?_⟩⟩
 . obtain⟨s,hs,j,hj,hf,rfl⟩:=m2 x hx;obtain⟨_,e2,e3⟩:=hS s hs;exact⟨_,rfl,Nat.or_lt_two_pow e2 (Nat.pow_lt_pow_right (by decide) hj),by rw[(jY hj hf).1,e3]⟩
 . obtain⟨j,hj⟩:=List.exists_mem_of_length_pos (l:=cols n T) (by omega);obtain⟨hj,hb⟩:=oO.mp hj;obtain⟨_,_,s,hs,e⟩:=off hT hl hj hb;obtain⟨b1,b2,_⟩:=gZ hb;have:=m4 s hs j hj
   try dsimp only at this
   rw[e,b2]at this;exact this b1
 . rw[m1,hU (λs j=>evQ n row (kv.getD s (0,0)).1.toNat (gv kv ((kv.getD s (0,0)).1.toNat:Int)) (T:Int) j) n kv.length,rW hl];refine aA λj hj=>?_;cases hb:T.testBit j with
   | false=>
     rw[if_neg (by decide)];refine ck λs hs=>?_;unfold evQ;cases hf:(kv.getD s (0,0)).1.toNat.testBit j with
     | true=>rw[if_pos rfl]
     | false=>rw[if_neg (by decide),if_neg λz=>?_];have:=(t5 hf (Int.ofNat.inj z)).1;rw[hb]at this; cases this
   | true=>
     rw[if_pos rfl];obtain⟨l1,l2,s0,hs0,e0⟩:=off hT hl hj hb;obtain⟨b1,b2,b3⟩:=gZ hb;have ea:above n j (T ^^^ 2^j)=above n j T:=List.filter_congr λk hk=>by obtain⟨q,_,rfl⟩:=List.mem_map.mp hk;exact b3 _ (by omega)
     rw[<- (h.all _ l1 l2).2,<- hr j hj,<- ea,<- cu (λ_=>sgn (above n j (T ^^^ 2^j)).length*((row.getD j 0:Int):Rat)*gv kv ((T ^^^ 2^j:Nat):Int)) s0 kv.length hs0];refine aA λs hs=>?_;unfold evQ dq;by_cases z:s=s0
     . subst z;rw[e0,b1,b2,if_neg (by decide),if_pos rfl,if_pos rfl,Rat.mul_one]
     . rw[if_neg z,Rat.mul_zero];cases hf:(kv.getD s (0,0)).1.toNat.testBit j with
       | true=>rw[if_pos rfl]
       | false=>
         rw[if_neg (by decide),if_neg λy=>z ?_];have e1:=(t5 hf (Int.ofNat.inj y)).2
         have e2:(kv.map (·.1))[s]?=(kv.map (·.1))[s0]?:=by
           have g:∀s<kv.length,(kv.map (·.1))[s]?=some (kv.getD s (0,0)).1:=λs hs=>by rw[List.getElem?_map,List.getD_eq_getElem?_getD,List.getElem?_eq_getElem hs]; rfl
           rw[g s hs,g s0 hs0,(hS s hs).1,(hS s0 hs0).1,e1,e0]
         exact(List.getElem?_inj (by rw[List.length_map]; exact hs) h.nd).mp e2
theorem RI.zero (n:Nat)(M:Nat->Nat->Rat):RI n 0 M [(0,1)]:=by
 have c0:∀S:Nat,S<2^n->(cols n S).length=0->S=0:=λS hS h=>Nat.eq_of_testBit_eq λk=>by
   rw[Nat.zero_testBit];rcases Nat.lt_or_ge k n with z | z
   . cases hb:S.testBit k with
     | false=>rfl
     | true=>have:=oO.mpr ⟨z,hb⟩;rw[List.length_eq_zero_iff.mp h]at this;cases this
   . exact Nat.testBit_lt_two_pow (Nat.lt_of_lt_of_le hS (Nat.pow_le_pow_right (by decide) z))
 refine⟨λx hx=>⟨0,?_,Nat.two_pow_pos n,?_⟩,by simp,λS hS h=>?_⟩
 . simpa using hx
 . unfold cols;rw[List.filter_eq_nil_iff.mpr λa _=>by rw[Nat.zero_testBit]; decide];rfl
 . obtain rfl:=c0 S hS h;refine⟨nofun,?_⟩;rw[du,h];rfl
noncomputable def mi (M:Nat->Nat->Rat)(k:Nat)(ρ γ:Nat->Nat):Rat:=det k λr c=>M (ρ r) (γ c)
theorem nR {M:Nat->Nat->Rat}{k:Nat}{ρ ρ' γ γ':Nat->Nat}(h:∀i<k,ρ i=ρ' i)(h':∀i<k,γ i=γ' i):mi M k ρ γ=mi M k ρ' γ':=aj λi hi j hj=>by rw[h i hi,h' j hj]
theorem B0 (M:Nat->Nat->Rat)(k:Nat)(ρ γ:Nat->Nat):mi (λi j=>M j i) k γ ρ=mi M k ρ γ:=b5 k λr c=>M (ρ r) (γ c)
theorem mT {n k:Nat}(m:Nat)(Y:Nat->Nat->Rat)(h:k+m<n):(det n λr c=>Y r (rho k m c))=sgn m*det n Y:=by rw[<- b5 n Y,<- mf (k:=k) m (λi j=>Y j i) h];exact(b5 n λi j=>Y j (rho k m i))
theorem wC {d x y:Rat}(h:d≠0)(e:d*x=d*y):x=y:=by have:=congrArg (d⁻¹*·) e;simp only[<- Rat.mul_assoc,Rat.inv_mul_cancel d h,Rat.one_mul]at this;exact this
noncomputable def k2 (Y:Nat->Nat->Rat)(s x y:Nat):Rat:=det (s+2) λr c=>Y r (if c<s then c else if c=s then x else y)
theorem zI {s:Nat}{x y:Rat}(h:x=sgn s*y):y=sgn s*x:=by rw[h,<- Rat.mul_assoc,lU,Rat.one_mul]
def Inc (k:Nat)(γ:Nat->Nat):Prop:=∀i,i+1<k->γ i<γ (i+1)
theorem Inc.lt {k:Nat}{γ:Nat->Nat}(h:Inc k γ):∀(d i:Nat),i+d+1<k->γ i<γ (i+d+1)
 | 0,i,hi=>h i hi
 | d+1,i,hi=>Nat.lt_trans (h.lt d i (by omega)) (h (i+d+1) hi)
theorem Inc.mono {k:Nat}{γ:Nat->Nat}(h:Inc k γ){i j:Nat}(hij:i<j)(hj:j<k):γ i<γ j:=by
 have:=h.lt (j-i-1) i (by omega)
 rwa [show i+(j-i-1)+1=j by omega]at this
theorem Inc.le {k l:Nat}{γ:Nat->Nat}(h:Inc k γ)(hl:l<=k):Inc l γ:=λi hi=>h i (by omega)
theorem Inc.up {k:Nat}{γ:Nat->Nat}(h:Inc (k+1) γ):Inc k λc=>γ (c+1):=λi hi=>h (i+1) (by omega)
def Tnn (m n:Nat)(A:Nat->Nat->Rat):Prop:=∀(k:Nat) (ρ γ:Nat->Nat),Inc k ρ->(∀i,i<k->ρ i<m)->Inc k γ->(∀i,i<k->γ i<n)->0<=mi A k ρ γ
theorem Tnn.congr {m n:Nat}{A B:Nat->Nat->Rat}(h:Tnn m n A)(e:∀i,i<m->∀j,j<n->A i j=B i j):Tnn m n B:=λk ρ γ h1 h2 h3 h4=>by have:mi B k ρ γ=mi A k ρ γ:=aj λi hi j hj=>(e _ (h2 i hi) _ (h4 j hj)).symm;rw[this];exact h k ρ γ h1 h2 h3 h4
theorem Tnn.tr {m n:Nat}{A:Nat->Nat->Rat}(h:Tnn m n A):Tnn n m λi j=>A j i:=λk ρ γ h1 h2 h3 h4=>by rw[B0];exact h k γ ρ h3 h4 h1 h2
theorem Tnn.le {m n m' n':Nat}{A:Nat->Nat->Rat}(h:Tnn m n A)(hm:m'<=m)(hn:n'<=n):Tnn m' n' A:=λk ρ γ h1 h2 h3 h4=>h k ρ γ h1 (λi hi=>by have:=h2 i hi; omega) h3 λi hi=>by have:=h4 i hi; omega
theorem Inc.ne {k:Nat}{γ:Nat->Nat}(h:Inc k γ){i j:Nat}(hi:i<k)(hj:j<k)(ne:i≠j):γ i≠γ j:=by
 rcases Nat.lt_or_ge i j with z | z
 . have:=h.mono z hj; omega
 . have:=h.mono (show j<i by omega) hi; omega
theorem dU {n:Nat}{M:Nat->Nat->Rat}{p q:Nat}(hp:p<n)(hq:q<n)(hpq:p≠q)(e:∀r,M r p=M r q):det n M=0:=by rw[<- b5];exact(cL n).same hp hq hpq (funext e)
theorem Tnn.col {m n h t:Nat}{A:Nat->Nat->Rat}{a b:Rat}(H:Tnn m n A)(ha:0<=a)(hb:0<=b)(ht:b=0\/(t<n/\(t=h+1\/h=t+1))):Tnn m n λi j=>if j=h then a*A i h+b*A i t else A i j:=λk ρ γ h1 h2 h3 h4=>by
 by_cases ex:∃c,c<k/\γ c=h
 . obtain⟨c0,hc,ec⟩:=ex
   have e1:mi (λi j=>if j=h then a*A i h+b*A i t else A i j) k ρ γ=det k (aE (λr c=>A (ρ r) (γ c)) c0 λr=>a*A (ρ r) h+b*A (ρ r) t):=aj λi hi j hj=>by
     show (if γ j=h then a*A (ρ i) h+b*A (ρ i) t else A (ρ i) (γ j))=if j=c0 then a*A (ρ i) h+b*A (ρ i) t else A (ρ i) (γ j);by_cases z:j=c0
     . rw[if_pos z,if_pos (by rw[z]; exact ec)]
     . rw[if_neg z,if_neg (by rw[<- ec]; exact h3.ne hj hc z)]
   rw[e1,fq _ hc a b]
   have e2:det k (aE (λr c=>A (ρ r) (γ c)) c0 λr=>A (ρ r) h)=mi A k ρ γ:=aj λi hi j hj=>by
     show (if j=c0 then A (ρ i) h else A (ρ i) (γ j))=A (ρ i) (γ j);split
     . rename_i z; rw[z,ec]
     . rfl
   rw[e2];have p1:=Rat.mul_nonneg ha (H k ρ γ h1 h2 h3 h4)
   have p2:0<=b*det k (aE (λr c=>A (ρ r) (γ c)) c0 λr=>A (ρ r) t):=by
     rcases ht with z | ⟨tn,nb⟩
     . rw[z,Rat.zero_mul]; exact Rat.le_refl
     refine Rat.mul_nonneg hb ?_;by_cases ex:∃c,c<k/\γ c=t
     . obtain⟨c1,hc1,ec1⟩:=ex;have ne:c0≠c1:=λz=>by rw[z,ec1]at ec; omega
       rw[dU hc hc1 ne λr=>?_]
       . exact Rat.le_refl
       . show (if c0=c0 then A (ρ r) t else A (ρ r) (γ c0))=if c1=c0 then A (ρ r) t else A (ρ r) (γ c1);rw[if_pos rfl,if_neg (Ne.symm ne),ec1]
     . have e3:det k (aE (λr c=>A (ρ r) (γ c)) c0 λr=>A (ρ r) t)=mi A k ρ λc=>if c=c0 then t else γ c:=aj λi hi j hj=>by
         show (if j=c0 then A (ρ i) t else A (ρ i) (γ j))=A (ρ i) (if j=c0 then t else γ j);by_cases z:j=c0
         . rw[if_pos z,if_pos z]
         . rw[if_neg z,if_neg z]
       rw[e3];have nt:∀c,c<k->γ c≠t:=λc hc z=>ex ⟨c,hc,z⟩;refine H k ρ _ h1 h2 (λi hi=>?_) λi hi=>?_
       . have:=h3 i hi;have n1:=nt i (by omega);have n2:=nt (i+1) (by omega);show (if i=c0 then t else γ i)<if i+1=c0 then t else γ (i+1);by_cases z:i=c0
         . rw[if_pos z,if_neg (by omega)];rw[z]at this n2 ⊢;omega
         . by_cases z':i+1=c0
           . rw[if_neg z,if_pos z'];rw[z']at this;omega
           . rw[if_neg z,if_neg z'];exact this
       . show (if i=c0 then t else γ i)<n;split
         . exact tn
         . exact h4 i hi
   exact Rat.add_nonneg p1 p2
 . have e1:mi (λi j=>if j=h then a*A i h+b*A i t else A i j) k ρ γ=mi A k ρ γ:=aj λi hi j hj=>if_neg λz=>ex ⟨j,hj,z⟩;rw[e1];exact H k ρ γ h1 h2 h3 h4
theorem Tnn.Dr {m n h:Nat}{A:Nat->Nat->Rat}(H:Tnn m n A):Tnn m n λi j=>if j=h then 0 else A i j:=(H.col (h:=h) (t:=0) (a:=0) (b:=0) Rat.le_refl Rat.le_refl (.inl rfl)).congr λi _ j _=>by show (if j=h then 0*A i h+0*A i 0 else A i j)=_;rw[Rat.zero_mul,Rat.zero_mul,Rat.add_zero]
theorem Tnn.Dm {m n h:Nat}{A:Nat->Nat->Rat}(H:Tnn m n A):Tnn m n λi j=>if i=h then 0 else A i j:=(H.tr.Dr (h:=h)).tr
noncomputable def jT:Int->List Int->List Int
 | _,[]=>[]
 | c,b::r=>c.fmod b::jT (c.fdiv b) r
noncomputable def w6 (c:Int)(bs:List Int):Int:=bs.foldl (λc b=>c.fdiv b) c
noncomputable def yR (c:Int)(k:Nat)(b:Int):Int:=(((((c*48271+(k:Int)*k*69621+(k:Int)*16807+11).fmod 2147483647)*40692+c+31*(k:Int)).fmod 2147483399).fdiv 7).fmod b
noncomputable def wF (c:Int)(bs:List Int):List Int:=(List.range bs.length).map λk=>yR c k (bs.getD k 0)
noncomputable def nums (c:Int)(bs:List Int):List Int:=if (10:Int)^(18:Int).toNat<=xG c then jT c bs else wF c bs
theorem kJ:∀(bs:List Int) (c b:Int),jT c (bs++[b])=jT c bs++[(w6 c bs).fmod b]
 | [],_,_=>rfl
 | a::bs,c,b=>by rw[List.cons_append,jT,jT,kJ bs]; rfl
theorem ki:∀(bs:List Int) (c:Int),(jT c bs).length=bs.length
 | [],_=>rfl
 | _::bs,c=>congrArg (·+1) (ki bs _)
theorem dR (c:Int)(bs:List Int):(nums c bs).length=bs.length:=by
 unfold nums;split
 . exact ki bs c
 . simp[wF]
theorem rF:∀(bs:List Int) (c:Int),(∀b∈bs,0<b)->∀(i:Nat),i<bs.length->0<=(jT c bs).getD i 0/\(jT c bs).getD i 0<bs.getD i 0
 | b::bs,c,h,0,_=>by have:=h b (List.mem_cons_self ..);exact⟨Int.fmod_nonneg_of_pos c this,Int.fmod_lt_of_pos c this⟩
 | b::bs,c,h,i+1,hi=>by have:=rF bs (c.fdiv b) (λx hx=>h x (List.mem_cons_of_mem _ hx)) i (by simpa using hi);simpa[jT]using this
theorem gO {c:Int}{bs:List Int}(h:∀b∈bs,0<b){i:Nat}(hi:i<bs.length):0<=(nums c bs).getD i 0/\(nums c bs).getD i 0<bs.getD i 0:=by
 unfold nums;split
 . exact rF bs c h i hi
 . have hp:0<bs.getD i 0:=h _ (by simp[hi]);have e:(wF c bs).getD i 0=yR c i (bs.getD i 0):=by simp[wF,hi]
   rw[e];exact⟨Int.fmod_nonneg_of_pos _ hp,Int.fmod_lt_of_pos _ hp⟩
theorem take_snoc {α:Type}{xs:List α}{i:Nat}(d:α)(h:i<xs.length):xs.take (i+1)=xs.take i++[xs.getD i d]:=by rw[List.take_add_one,List.getElem?_eq_getElem h];simp[h]
theorem vL {b:Int}(h0:0<b)(h:b<2^60):0<b/\aH b:=⟨h0,mkD (by omega) (by omega)⟩
def bT (ds:List D)(r:Sl):Prop:=∃(c:Int) (bs:List Int),ds=[.int c,.lst (bs.map .int)]/\bs.length<=10000/\(∀b∈bs,0<b/\aH b)/\r=.o ((nums c bs).map .int)
section
variable {P:Program}{w:World}{K:PySem.W.Frag}{mg:Str->Option Value}{base:Heap}{k:Nat}{f:Addr}{fd:FuncData}{qual:Str}
theorem mw (F:Fun K "_law_numbers" qual (top 34) f fd)(hb:∀x∈ar,mg x=none):a4 P w K mg base CX0 (k+1) f fd ["_law_cell_here","_law_bases"] (spD K bT):=by
 refine fnD F gP hb (by rintro _ _ ⟨_,_,rfl,_⟩; rfl) ?_;rintro _ _ ⟨c,bs,rfl,hl,hbs,rfl⟩ cdv A outer s H E b;have nd:=gP.nd;have hp:∀i,i<bs.length->0<bs.getD i 0/\aH (bs.getD i 0):=λi hi=>hbs _ (by simp[hi]);refine aI 2 nd (dB af) ?_;refine fT (bF (bM b (ab (aa 0) af) oD) (aJ ae ae (Cg ⟨by decide,by decide,by decide⟩)) Af) (λh=>?_) λh=>?_
 . refine bz 3 (λi τ=>∃s3,τ=[.d (.int (w6 c (bs.take i))),.d (.lst (bs.map .int)),.o ((jT c (bs.take i)).map .int),s3,.un,.un]) b nd (a6 (aa 1)) yc ⟨_,rfl⟩ (λi hi τ h=>?_) λτ h=>?_
   . obtain⟨s3,rfl⟩:=h;have hi:i<bs.length:=by simpa using hi
     obtain⟨p1,p2⟩:=hp i hi;refine yy 2 (aJ (aa 0) (aa 3) (eU (by omega))) ?_ ?_
     . rw[List.length_map,ki,List.length_take]; omega
     refine aI 0 nd (aJ (aa 0) (aa 3) (bx p2)) (aR ?_);apply ex1;show [Sl.d (.int ((w6 c (bs.take i)).fdiv (bs.getD i 0))),_,Sl.o _,_,_,_]=_;rw[take_snoc 0 hi,kJ,List.map_append];unfold w6;rw[List.foldl_append];rfl
   . obtain⟨s3,rfl⟩:=h;refine dY 2 ?_;rw[List.length_map,List.take_of_length_le (Nat.le_refl _)];unfold nums;rw[if_pos (of_decide_eq_true h)]
 . refine pw 4 3 (λi τ=>∃s3 s4 s5,τ=[.d (.int c),.d (.lst (bs.map .int)),.o (((List.range i).map λk=>yR c k (bs.getD k 0)).map .int),s3,s4,s5]) b nd (yJ b (aa 1)) CN ⟨_,_,_,rfl⟩ (λi hi τ h=>?_) λτ h=>?_
   . obtain⟨s3,s4,s5,rfl⟩:=h;have hi:i<bs.length:=by rw[cY,List.length_map]at hi; exact hi
     obtain⟨p1,p2⟩:=hp i hi;refine aI 5 nd (aJ (aJ (aJ (aJ (aJ (aa 0) ae (aX (mkR (by decide)))) (aJ (aJ (aa 4) (aa 4) (aX (mkL (by omega)))) ae (aX (mkR (by decide)))) bE) (aJ (aa 4) ae (aX (mkR (by decide)))) bE) ae bE) ae (eU (by decide))) ?_;refine yy 2 (aJ (aJ (aJ (aJ (aJ (aJ (aa 5) ae (aX (mkR (by decide)))) (aa 0) bE) (aJ ae (aa 4) (aX (mkL (by decide)))) bE) ae (eU (by decide))) ae (bx (mkD (by decide) (by decide)))) (aa 3) (eU (by omega))) ?_ (aR ?_)
     . rw[List.length_map,List.length_map,List.length_range]; omega
     apply ex3;rw[List.range_succ,List.map_append,List.map_append];rfl
   . obtain⟨s3,s4,s5,rfl⟩:=h;refine dY 2 ?_;rw[cY,List.length_map];unfold nums;rw[if_neg (of_decide_eq_false h)];rfl
end
theorem nG (b:Int):sgZ b=1\/sgZ b=-1:=by unfold sgZ;rw[Int.fmod_eq_emod_of_nonneg _ (by decide)];omega
theorem jD (n:Nat)(row:List Int)(k v:Int)(kv:List (Int×Int)):∀c,(cv n row k v kv c).2.length<=kv.length+c
 | 0=>Nat.le_refl _
 | c+1=>by
   have:=jD n row k v kv c;rw[cv,kb];split
   . dsimp only; omega
   . have:=wg (cv n row k v kv c).2 (jz k (n-1-c)) ((bP (cv n row k v kv c).2 (jz k (n-1-c))).getD 0+sgZ (cv n row k v kv c).1*row.getD (n-1-c) 0*v);dsimp only;omega
theorem hR (n:Nat)(row:List Int)(kv:List (Int×Int)):∀t,(bw n row kv t).length<=t*n
 | 0=>by rw[bw,List.length_nil]; omega
 | t+1=>by have h1:=hR n row kv t;have h2:=jD n row (kv.getD t (0,0)).1 ((bP kv (kv.getD t (0,0)).1).getD 0) (bw n row kv t) n;rw[bw,Nat.succ_mul];omega
noncomputable def dtR (r:List Int):D:=.lst (r.map .int)
noncomputable def dtM (Ms:List (List Int))(i j:Nat):Rat:=(((Ms.getD i []).getD j 0:Int):Rat)
theorem atR {row:List Int}{j:Nat}(h:j<row.length):atI (row.map D.int) (j:Int)=some (.int (row.getD j 0)):=j5 (i:=(j:Int)) (by omega) (by omega)
noncomputable def frD (q:Rat):D:=.tup [.int q.num,.int (q.den:Nat)]
theorem cA (x:Rat):x*(((x.den:Nat):Int):Rat)=(x.num:Rat):=by
 have h:mkRat x.num x.den=x:=by rw[<- Rat.normalize_eq_mkRat x.den_nz]; exact Rat.normalize_self x
 rw[Rat.mkRat_eq_div]at h;have hd:((x.den:Nat):Rat)≠0:=λz=>x.den_nz (Rat.natCast_eq_zero_iff.mp z);rw[Rat.intCast_natCast];conv=>lhs; lhs; rw[<- h]
 exact Rat.div_mul_cancel hd
theorem cD {t b:Int}{x:Rat}(hb:0<b)(h:(t:Rat)=x*(b:Rat)):x.num=t/(Int.gcd t b:Int)/\((x.den:Nat):Int)=b/(Int.gcd t b:Int):=by
 have hb0:((b.toNat:Nat):Rat)≠0:=λz=>by have:=Rat.natCast_eq_zero_iff.mp z; omega
 have hbb:((b:Int):Rat)=((b.toNat:Nat):Rat):=by rw[<- Rat.intCast_natCast,Int.toNat_of_nonneg (by omega)]
 have e:x=mkRat t b.toNat:=by rw[Rat.mkRat_eq_div,h,hbb,Rat.mul_div_cancel hb0]
 have g:b.toNat.gcd t.natAbs=Int.gcd t b:=by rw[Int.gcd,Nat.gcd_comm,show b.natAbs=b.toNat by omega]
 have nz:¬b.toNat=0:=by omega
 constructor
 . rw[e,Rat.num_mkRat,if_neg nz,g]
 . rw[e,Rat.den_mkRat,if_neg nz,g,Int.natCast_ediv,Int.toNat_of_nonneg (by omega)]
theorem den_pos (q:Rat):0<((q.den:Nat):Int):=by have:=q.den_pos; omega
theorem ua {b:Int}(hb:0<b):(b:Rat)≠0:=λz=>by have:=Rat.intCast_eq_zero_iff.mp z; omega
def Bd (n:Nat)(i:Int):Prop:=i.natAbs<2^n
theorem Bd.mono {m n:Nat}{i:Int}(h:Bd m i)(hm:m<=n):Bd n i:=Nat.lt_of_lt_of_le h (Nat.pow_le_pow_right (by decide) hm)
theorem Bd.log {n:Nat}{i:Int}(h:Bd n i)(hn:0<n):i.natAbs.log2<n:=by
 rcases Nat.eq_zero_or_pos i.natAbs with z | z
 . rw[z]; exact hn
 . exact(Nat.log2_lt (by omega)).mpr h
theorem Bd.mul {m n:Nat}{i j:Int}(h:Bd m i)(g:Bd n j):Bd (m+n) (i*j):=by
 unfold Bd at *
 rw[Int.natAbs_mul,Nat.pow_add];rcases Nat.eq_zero_or_pos j.natAbs with z | z
 . rw[z,Nat.mul_zero]; exact Nat.mul_pos (Nat.two_pow_pos m) (Nat.two_pow_pos n)
 . exact Nat.lt_of_lt_of_le (Nat.mul_lt_mul_of_pos_right h z) (Nat.mul_le_mul_left _ (Nat.le_of_lt g))
theorem Bd.neg {n:Nat}{i:Int}(h:Bd n i):Bd n (-i):=by unfold Bd at *; rwa [Int.natAbs_neg]
theorem Bd.aD {m n:Nat}{i j:Int}(h:Bd m i)(g:Bd n j)(hm:m<=1000000)(hn:n<=1000000):aD i j:=
 .inr (.inr ⟨(h.mono (Nat.le_succ_of_le hm)).log (by omega) |> λz=>by
   rcases Nat.eq_zero_or_pos i.natAbs with q | q
   . rw[q]; decide
   . exact Nat.lt_of_lt_of_le ((Nat.log2_lt (by omega)).mpr h) hm,by
   rcases Nat.eq_zero_or_pos j.natAbs with q | q
   . rw[q]; decide
   . exact Nat.lt_of_lt_of_le ((Nat.log2_lt (by omega)).mpr g) hn⟩)
theorem Bd.aH {n:Nat}{j:Int}(h:Bd n j)(h0:j≠0)(hn:n<=9000):aH j:=⟨h0,Nat.lt_of_lt_of_le ((Nat.log2_lt (by omega)).mpr h) hn⟩
theorem Bd.of_dvd {n:Nat}{i j:Int}(h:Bd n j)(hd:i∣j)(h0:j≠0):Bd n i:=Nat.lt_of_le_of_lt (Nat.le_of_dvd (by omega) (Int.natAbs_dvd_natAbs.mpr hd)) h
theorem Bd.ediv {n:Nat}{i:Int}(h:Bd n i)(j:Int):Bd n (i/j):=Nat.lt_of_le_of_lt (Int.natAbs_ediv_le_natAbs i j) h
theorem Bd.gcd {n:Nat}{i j:Int}(h:Bd n j)(h0:j≠0):Bd n (Int.gcd i j:Int):=h.of_dvd (Int.gcd_dvd_right ..) h0
theorem eg {i j:Int}(h0:j≠0):(Int.gcd i j:Int)≠0:=λz=>h0 (by have:=Int.gcd_eq_zero_iff.mp (Int.ofNat_eq_zero.mp z); exact this.2)
theorem aW {i j:Int}(t:Int):t.fdiv (Int.gcd i j:Int)=t/(Int.gcd i j:Int):=Int.fdiv_eq_ediv_of_nonneg _ (Int.natCast_nonneg _)
structure Sq (n:Nat)(q:Rat):Prop where
 num:Bd n q.num
 den:Bd n (q.den:Nat)
theorem Sq.mono {m n:Nat}{q:Rat}(h:Sq m q)(hm:m<=n):Sq n q:=⟨h.num.mono hm,h.den.mono hm⟩
theorem Sq.cD {n:Nat}{t b:Int}{x:Rat}(hb:0<b)(h:(t:Rat)=x*(b:Rat))(h1:Bd n t)(h2:Bd n b):Sq n x:=by obtain⟨e1,e2⟩:=K49.cD hb h;exact⟨by rw[e1]; exact h1.ediv _,by rw[e2]; exact h2.ediv _⟩
noncomputable def whl (x:D):Bool:=ou .int x&&!ou .bool x
def gf (ds:List D)(r:Sl):Prop:=∃x,ds=[x]/\r=.d (.bl (whl x))
def a5 (ds:List D)(r:Sl):Prop:=∃a b:Int,ds=[.int a,.int b]/\r=.d (.int (Int.gcd a b:Int))
theorem gn (i:Int):xG i=(i.natAbs:Int):=by unfold xG; omega
noncomputable def r6:D->Bool
 | .tup [.int a,.int b]=>decide (1<=b)&&decide ((Int.gcd a b:Int)=1)
 | _=>false
theorem xR (q:Rat):r6 (frD q)=true:=by have h1:=den_pos q;have h2:Int.gcd q.num (q.den:Nat)=1:=q.reduced;show (decide ((1:Int)<=(q.den:Nat))&&decide ((Int.gcd q.num (q.den:Nat):Int)=1))=true;rw[h2,decide_eq_true (show (1:Int)<=(q.den:Nat) by omega)];rfl
theorem u9 {xs:List D}(h:xs.length≠2):r6 (.tup xs)=false:=by
 unfold r6;split
 . rename_i e; cases e; exact absurd rfl h
 . rfl
def dJ (ds:List D)(r:Sl):Prop:=∃x,ds=[x]/\r=.d (.bl (r6 x))
def cx (ds:List D)(r:Sl):Prop:=∃(t b:Int) (q:Rat),ds=[.int t,.int b]/\b≠0/\Bd 8999 b/\(t:Rat)=q*(b:Rat)/\r=.d (frD q)
def b8 (ds:List D)(r:Sl):Prop:=∃xs,ds=[.lst xs]/\r=.d (.bl (decide ((1:Int)<=(xs.length:Nat))&&decide (((xs.length:Nat):Int)<=7)))
section
variable {P:Program}{w:World}{K:PySem.W.Frag}{mg:Str->Option Value}{base:Heap}{k:Nat}{f:Addr}{fd:FuncData}{qual:Str}
theorem nA (F:Fun K "is_whole" qual (top 5) f fd)(hb:∀x∈ar,mg x=none):a4 P w K mg base CX0 (k+1) f fd ["thing"] (spD K gf):=by refine fnD F mX hb (by rintro _ _ ⟨_,rfl,_⟩; rfl) ?_;rintro _ _ ⟨x,rfl,rfl⟩ cdv A outer s H E b;exact aY (nZ (kR .int b (aa 0)) λh=>(oy (BS (kR .bool b (aa 0))))) rfl
theorem gJ (F:Fun K "common_divisor" qual (top 7) f fd)(hb:∀x∈ar,mg x=none):a4 P w K mg base CX0 (k+1) f fd ["one","other"] (spD K a5):=by
 refine fnD F di hb (by rintro _ _ ⟨_,_,rfl,_⟩; rfl) ?_;rintro _ _ ⟨x,y,rfl,rfl⟩ cdv A outer s H E b;have nd:=di.nd;refine aI 2 nd (bM b (ab (aa 0) af) oD) (aI 3 nd (bM b (ab (aa 1) af) oD) ?_);rw[gn,gn];refine qO (λn t τ=>∃(g:Nat) (s4:Sl),Nat.gcd g n=Int.gcd x y/\t=(!decide ((n:Int)=0))/\τ=[.d (.int x),.d (.int y),.d (.int g),.d (.int n),s4]) b ⟨_,_,_,_,rfl,rfl,rfl⟩ (λn t τ h=>?_) (λn τ h=>?_) λn τ h=>?_
 . obtain⟨g,s4,_,rfl,rfl⟩:=h;exact bF (aa 3) ae yU
 . obtain⟨g,s4,hg,ht,rfl⟩:=h;have hl:n≠0:=λz=>by simp[z]at ht
   have e:(g:Int).fmod n=((g%n:Nat):Int):=by rw[Int.fmod_eq_emod_of_nonneg _ (by omega)]; rfl
   refine aI 4 nd (aJ (aa 2) (aa 3) (eU (by omega))) ?_;rw[e];refine aI 2 nd (aa 3) (aI 3 nd (aa 4) (aR ⟨g%n,_,Nat.mod_lt g (Nat.pos_of_ne_zero hl),n,_,?_,rfl,rfl⟩));rw[<- hg,Nat.gcd_comm n,<- Nat.gcd_rec,Nat.gcd_comm]
 . obtain⟨g,s4,hg,ht,rfl⟩:=h;have hl:n=0:=by simpa using ht
   refine aY (aa 2) ?_;rw[<- hg,hl,Nat.gcd_zero_right]
theorem jP (F:Fun K "is_fraction" qual (top 6) f fd)(hb:∀x∈ar,mg x=none)(c_is_whole:Cal P w K mg base k "is_whole" gf)(c_common_divisor:Cal P w K mg base k "common_divisor" a5):a4 P w K mg base CX0 (k+1) f fd ["thing"] (spD K dJ):=by
 refine fnD F jl hb (by rintro _ _ ⟨_,rfl,_⟩; rfl) ?_;rintro _ _ ⟨x,rfl,rfl⟩ cdv A outer s H E b;by_cases ht:ou .tuple x=true
 . obtain⟨xs,rfl⟩:∃xs,x=.tup xs:=by cases x <;> first | exact⟨_,rfl⟩ | cases ht
   refine fT (PW.pt (vG (iR (gD (kR .tuple b (aa 0)))) λh=>(qp (bF (bM b (ab (aa 0) af) mq) ae yU)))) (λh=>?_) λh=>?_
   . refine aY oZ ?_;have h:(!decide ((xs.length:Int)=2))=true:=h;have:xs.length≠2:=λz=>by rw[z]at h; cases h
     rw[u9 this]
   . have h:(!decide ((xs.length:Int)=2))=false:=h;have h2:xs.length=2:=by simp at h; omega
     obtain⟨u,v,rfl⟩:∃u v,xs=[u,v]:=by
       match xs,h2 with
       | [u,v],_=>exact⟨u,v,rfl⟩
     refine fT (PW.pt (vG (iR (gD (x_call b c_is_whole (ab (aK (aa 0) ae (aL (aC (i:=0) rfl))) af) ⟨_,rfl,rfl⟩))) λh=>(qp (iR (gD (x_call b c_is_whole (ab (aK (aa 0) ae (aL (aC (i:=1) rfl))) af) ⟨_,rfl,rfl⟩)))))) (λh=>?_) λh=>?_
     . refine aY oZ ?_;have:r6 (.tup [u,v])=false:=by cases u <;> cases v <;> first | rfl | cases h
       rw[this]
     . obtain⟨i,j,rfl,rfl⟩:∃i j,u=.int i/\v=.int j:=by cases u <;> cases v <;> first | exact⟨_,_,rfl,rfl⟩ | cases h
       exact aY (nZ (gX (aK (aa 0) ae (aL (aC (i:=1) rfl))) ae Af) λh=>(oy (gX (x_call b c_common_divisor (ab (aK (aa 0) ae (aL (aC (i:=0) rfl))) (ab (aK (aa 0) ae (aL (aC (i:=1) rfl))) af)) ⟨_,_,rfl,rfl⟩) ae ie))) rfl
 . have e:ou .tuple x=false:=by simpa using ht
   have ef:r6 x=false:=by cases x <;> first | rfl | cases e
   refine fT (PW.pt (vG (q:=true) (iR (gD (kR .tuple b (aa 0)))) λh=>(by rw[e]at h; cases h))) (λh=>?_) λh=>?_
   . refine aY oZ ?_;rw[ef]
   . rw[Bool.or_true]at h; cases h
theorem fU (F:Fun K "in_lowest_terms" qual (top 8) f fd)(hb:∀x∈ar,mg x=none)(c_common_divisor:Cal P w K mg base k "common_divisor" a5):a4 P w K mg base CX0 (k+1) f fd ["top","bottom"] (spD K cx):=by
 refine fnD F cZ hb (by rintro _ _ ⟨_,_,_,rfl,_⟩; rfl) ?_;rintro _ _ ⟨t,c,q,rfl,h0,h1,hq,rfl⟩ cdv A outer s H E b;have nd:=cZ.nd;refine aI 2 nd (x_call b c_common_divisor (ab (aa 0) (ab (aa 1) af)) ⟨_,_,rfl,rfl⟩) ?_;have g0:=eg (i:=t) h0;have gb:=h1.gcd (i:=t) h0;refine i5 (M:=λτ=>τ=[.d (.int t),.d (.int c),.d (.int (if c<0 then -(Int.gcd t c:Int) else (Int.gcd t c:Int)))]) (bF (aa 1) ae rY) (λh=>?_) (λh=>?_) λτ h=>?_
 . rw[if_pos (of_decide_eq_true h)];exact aI 2 nd (kX (aa 2)) (aR rfl)
 . rw[if_neg (of_decide_eq_false h)];exact aR rfl
 subst h
 have dv:aH (if c<0 then -(Int.gcd t c:Int) else (Int.gcd t c:Int)):=by
   split
   . exact gb.neg.aH (by omega) (by decide)
   . exact gb.aH g0 (by decide)
 refine aY (b6 (ab (aJ (aa 0) (aa 2) (bx dv)) (ab (aJ (aa 1) (aa 2) (bx dv)) af))) ?_;by_cases hc:c<0
 . have hq':((-t:Int):Rat)=q*((-c:Int):Rat):=by rw[Rat.intCast_neg,Rat.intCast_neg,hq,Rat.mul_neg]
   obtain⟨e1,e2⟩:=cD (by omega) hq';rw[Int.neg_gcd,Int.gcd_neg]at e1 e2;rw[if_pos hc,frD,e1,e2,<- aW (-t),<- aW (-c),<- Int.neg_fdiv_neg (-t),<- Int.neg_fdiv_neg (-c),Int.neg_neg,Int.neg_neg]
 . obtain⟨e1,e2⟩:=cD (by omega) hq;rw[if_neg hc,frD,e1,e2,aW,aW]
theorem g9 (F:Fun K "is_short_list" qual (top 14) f fd)(hb:∀x∈ar,mg x=none)(y_MOST:∃t,mg "MOST" = some (.int 7 t)):a4 P w K mg base CX0 (k+1) f fd ["thing"] (spD K b8):=by refine fnD F iI hb (by rintro _ _ ⟨_,rfl,_⟩; rfl) ?_;rintro _ _ ⟨xs,rfl,rfl⟩ cdv A outer s H E b;exact aY (nZ (kR .list b (aa 0)) λh=>(oy (xZ ae (bM b (ab (aa 0) af) ft) (ze y_MOST) Bm Bm).1)) rfl
end
noncomputable def sg (x y:Rat):Int:=(Int.gcd (x.den:Nat) (y.den:Nat):Int)
noncomputable def stop (x y:Rat):Int:=x.num*(((y.den:Nat):Int)/sg x y)+y.num*(((x.den:Nat):Int)/sg x y)
noncomputable def sdiv (x y:Rat):Int:=(Int.gcd (stop x y) (sg x y):Int)
theorem Bl {t:Int}{d g:Nat}{h1 h2 h3 h4}:(Rat.maybeNormalize t d g h1 h2 h3 h4).num=t/(g:Int)/\(Rat.maybeNormalize t d g h1 h2 h3 h4).den=d/g:=by
 unfold Rat.maybeNormalize;split
 . rename_i e;subst e;exact⟨(Int.ediv_one _).symm,(Nat.div_one _).symm⟩
 . exact⟨rfl,rfl⟩
theorem BB (x y:Rat):(x+y).num=stop x y/sdiv x y/\(((x+y).den:Nat):Int)=((x.den:Nat):Int)/sg x y*(((y.den:Nat):Int)/sdiv x y):=by
 have hg:sg x y=((x.den.gcd y.den:Nat):Int):=rfl;show (Rat.add x y).num=_/\(((Rat.add x y).den:Nat):Int)=_;unfold Rat.add;by_cases h:x.den.gcd y.den=1
 . simp only[dif_pos h];have e1:sg x y=1:=by rw[hg,h]; rfl
   have e2:sdiv x y=1:=by unfold sdiv; rw[e1,Int.gcd_one_right]; rfl
   unfold stop;rw[e2,e1,Int.ediv_one,Int.ediv_one,Int.ediv_one];exact⟨rfl,Int.natCast_mul _ _⟩
 . simp only[dif_neg h];have d:sdiv x y=(((stop x y).natAbs.gcd (x.den.gcd y.den):Nat):Int):=rfl;have dd:(stop x y).natAbs.gcd (x.den.gcd y.den)∣y.den:=Nat.dvd_trans (Nat.gcd_dvd_right _ _) (Nat.gcd_dvd_right _ _);refine⟨Bl.1,?_⟩;rw[Bl.2,d];show ((x.den/x.den.gcd y.den*y.den/(stop x y).natAbs.gcd (x.den.gcd y.den):Nat):Int)=((x.den/x.den.gcd y.den:Nat):Int)*((y.den/(stop x y).natAbs.gcd (x.den.gcd y.den):Nat):Int);rw[Nat.mul_div_assoc _ dd,Int.natCast_mul]
theorem AV (x y:Rat):(x*y).num=x.num/(Int.gcd x.num (y.den:Nat):Int)*(y.num/(Int.gcd y.num (x.den:Nat):Int))/\(((x*y).den:Nat):Int)=((x.den:Nat):Int)/(Int.gcd y.num (x.den:Nat):Int)*(((y.den:Nat):Int)/(Int.gcd x.num (y.den:Nat):Int)):=by show (Rat.mul x y).num=_/\(((Rat.mul x y).den:Nat):Int)=_;unfold Rat.mul;exact⟨rfl,rfl⟩
theorem inv_mul {q:Rat}(h0:q≠0):((((q.den:Nat):Int)):Rat)=q⁻¹*(q.num:Rat):=by rw[<- cA q,<- Rat.mul_assoc,Rat.inv_mul_cancel q h0,Rat.one_mul]
theorem Sq.inv {n:Nat}{q:Rat}(h:Sq n q)(h0:q≠0):Sq n q⁻¹:=by
 have hn:q.num≠0:=λz=>h0 (Rat.num_eq_zero.mp z);have e:=inv_mul h0;rcases Int.lt_or_lt_of_ne hn with z | z
 . exact Sq.cD (t:=-((q.den:Nat):Int)) (b:=-q.num) (by omega) (by rw[Rat.intCast_neg,Rat.intCast_neg,e,Rat.mul_neg]) h.den.neg h.num.neg
 . exact Sq.cD z e h.den h.num
theorem v8 (p q:Rat):((p.num*((q.den:Nat):Int)+q.num*((p.den:Nat):Int):Int):Rat)=(p+q)*(((p.den:Nat):Int)*((q.den:Nat):Int):Int):=by rw[Rat.intCast_add,Rat.intCast_mul,Rat.intCast_mul,Rat.intCast_mul,<- cA p,<- cA q];grind
def ka (ds:List D)(r:Sl):Prop:=∃(m n:Nat) (p q:Rat),ds=[frD p,frD q]/\Sq m p/\Sq n q/\m+n<=8990/\r=.d (frD (p+q))
def cR (ds:List D)(r:Sl):Prop:=∃(m n:Nat) (p q:Rat),ds=[frD p,frD q]/\Sq m p/\Sq n q/\m+n<=8990/\r=.d (frD (p*q))
def dC (ds:List D)(r:Sl):Prop:=∃(m n:Nat) (p q:Rat),ds=[frD p,frD q]/\q≠0/\Sq m p/\Sq n q/\m+n<=8990/\r=.d (frD (p/q))
section
variable {P:Program}{w:World}{K:PySem.W.Frag}{mg:Str->Option Value}{base:Heap}{k:Nat}{f:Addr}{fd:FuncData}{qual:Str}
theorem sr (F:Fun K "sum_of" qual (top 9) f fd)(hb:∀x∈ar,mg x=none)(c_common_divisor:Cal P w K mg base k "common_divisor" a5):a4 P w K mg base CX0 (k+1) f fd ["one","other"] (spD K ka):=by
 refine fnD F kY hb (by rintro _ _ ⟨_,_,_,_,rfl,_⟩; rfl) ?_;rintro _ _ ⟨m,n,p,q,rfl,h1,h2,hl,rfl⟩ cdv A outer s H E b;have nd:=kY.nd;have hq:=den_pos q;have hp:=den_pos p;have s0:sg p q≠0:=eg (by omega);have sb:Bd n (sg p q):=h2.den.gcd (by omega);have g0:sdiv p q≠0:=eg s0;have gb:Bd n (sdiv p q):=sb.gcd s0;have fd1:∀t:Int,t.fdiv (sg p q)=t/sg p q:=λt=>aW t;have fd2:∀t:Int,t.fdiv (sdiv p q)=t/sdiv p q:=λt=>aW t;refine aI 2 nd (x_call b c_common_divisor (ab (aK (aa 0) ae (aL (aC (i:=1) rfl))) (ab (aK (aa 1) ae (aL (aC (i:=1) rfl))) af)) ⟨_,_,rfl,rfl⟩) ?_;show PSs _ _ (dS K [_,_,.d (.int (sg p q)),_,_] _);have e3:p.num*((q.den:Nat):Int).fdiv (sg p q)+q.num*((p.den:Nat):Int).fdiv (sg p q)=stop p q:=by rw[fd1,fd1]; rfl
 refine aI 3 nd (aJ (aJ (aK (aa 0) ae (aL (aC (i:=0) rfl))) (aJ (aK (aa 1) ae (aL (aC (i:=1) rfl))) (aa 2) (bx (sb.aH s0 (by omega)))) (aX (by rw[fd1]; exact h1.num.aD (h2.den.ediv _) (by omega) (by omega)))) (aJ (aK (aa 1) ae (aL (aC (i:=0) rfl))) (aJ (aK (aa 0) ae (aL (aC (i:=1) rfl))) (aa 2) (bx (sb.aH s0 (by omega)))) (aX (by rw[fd1]; exact h2.num.aD (h1.den.ediv _) (by omega) (by omega)))) bE) ?_;rw[e3];refine aI 4 nd (x_call b c_common_divisor (ab (aa 3) (ab (aa 2) af)) ⟨_,_,rfl,rfl⟩) ?_;show PSs _ _ (dS K [_,_,_,_,.d (.int (sdiv p q))] _);obtain⟨q1,q2⟩:=BB p q;refine aY (b6 (ab (aJ (aa 3) (aa 4) (bx (gb.aH g0 (by omega)))) (ab (aJ (aJ (aK (aa 0) ae (aL (aC (i:=1) rfl))) (aa 2) (bx (sb.aH s0 (by omega)))) (aJ (aK (aa 1) ae (aL (aC (i:=1) rfl))) (aa 4) (bx (gb.aH g0 (by omega)))) (aX (by rw[fd1,fd2]; exact(h1.den.ediv _).aD (h2.den.ediv _) (by omega) (by omega)))) af))) ?_;rw[fd1,fd2,fd2,<- q1,<- q2];rfl
theorem km (F:Fun K "product_of" qual (top 10) f fd)(hb:∀x∈ar,mg x=none)(c_common_divisor:Cal P w K mg base k "common_divisor" a5):a4 P w K mg base CX0 (k+1) f fd ["one","other"] (spD K cR):=by refine fnD F fS hb (by rintro _ _ ⟨_,_,_,_,rfl,_⟩; rfl) ?_;rintro _ _ ⟨m,n,p,q,rfl,h1,h2,hl,rfl⟩ cdv A outer s H E b;have nd:=fS.nd;have hq:=den_pos q;have hp:=den_pos p;have n1:(Int.gcd p.num (q.den:Nat):Int)≠0:=eg (by omega);have n2:(Int.gcd q.num (p.den:Nat):Int)≠0:=eg (by omega);have d1:=(h2.den.gcd (i:=p.num) (by omega)).aH n1 (by omega);have d2:=(h1.den.gcd (i:=q.num) (by omega)).aH n2 (by omega);obtain⟨q1,q2⟩:=AV p q;refine aI 2 nd (x_call b c_common_divisor (ab (aK (aa 0) ae (aL (aC (i:=0) rfl))) (ab (aK (aa 1) ae (aL (aC (i:=1) rfl))) af)) ⟨_,_,rfl,rfl⟩) ?_;refine aI 3 nd (x_call b c_common_divisor (ab (aK (aa 1) ae (aL (aC (i:=0) rfl))) (ab (aK (aa 0) ae (aL (aC (i:=1) rfl))) af)) ⟨_,_,rfl,rfl⟩) ?_;refine aY (b6 (ab (aJ (aJ (aK (aa 0) ae (aL (aC (i:=0) rfl))) (aa 2) (bx d1)) (aJ (aK (aa 1) ae (aL (aC (i:=0) rfl))) (aa 3) (bx d2)) (aX (by rw[aW,aW]; exact(h1.num.ediv _).aD (h2.num.ediv _) (by omega) (by omega)))) (ab (aJ (aJ (aK (aa 0) ae (aL (aC (i:=1) rfl))) (aa 3) (bx d2)) (aJ (aK (aa 1) ae (aL (aC (i:=1) rfl))) (aa 2) (bx d1)) (aX (by rw[aW,aW]; exact(h1.den.ediv _).aD (h2.den.ediv _) (by omega) (by omega)))) af))) ?_;rw[aW,aW,aW,aW,<- q1,<- q2];rfl
theorem jg (F:Fun K "quotient_of" qual (top 11) f fd)(hb:∀x∈ar,mg x=none)(c_product_of:Cal P w K mg base k "product_of" cR)(c_in_lowest_terms:Cal P w K mg base k "in_lowest_terms" cx):a4 P w K mg base CX0 (k+1) f fd ["one","other"] (spD K dC):=by refine fnD F kc hb (by rintro _ _ ⟨_,_,_,_,rfl,_⟩; rfl) ?_;rintro _ _ ⟨m,n,p,q,rfl,h0,h1,h2,hl,rfl⟩ cdv A outer s H E b;have hn:q.num≠0:=λz=>h0 (Rat.num_eq_zero.mp z);refine n9 (bF (aK (aa 1) ae (aL (aC (i:=0) rfl))) ae ie) (decide_eq_false hn) ?_;exact aY (x_call b c_product_of (ab (aa 0) (ab (x_call b c_in_lowest_terms (ab (aK (aa 1) ae (aL (aC (i:=1) rfl))) (ab (aK (aa 1) ae (aL (aC (i:=0) rfl))) af)) ⟨_,_,q⁻¹,rfl,hn,h2.num.mono (by omega),inv_mul h0,rfl⟩) af)) ⟨m,n,p,q⁻¹,rfl,h1,h2.inv h0,hl,by rw[Rat.div_def]⟩) rfl
end
noncomputable def rwQ (r:List Rat):D:=.lst (r.map frD)
noncomputable def tbQ (M:List (List Rat)):D:=.lst (M.map rwQ)
structure Tq (R C:Nat)(M:List (List Rat)):Prop where
 r1:1<=R
 r7:R<=7
 c1:1<=C
 c7:C<=7
 len:M.length=R
 row:∀r∈M,r.length=C
theorem cN {α:Type}{f:α->D}{xs:List α}(d:α):∀i (h:i<(xs.map f).length),(xs.map f)[i]=f (xs.getD i d):=λi h=>by
 have:i<xs.length:=by simpa using h
 simp[this]
theorem pH {α:Type}{f:α->D}{xs:List α}(d:α){i:Nat}(h:i<xs.length):atI (xs.map f) (i:Int)=some (f (xs.getD i d)):=aC (by simp[h])
theorem de {α:Type}{xs:List α}{d:α}{i:Nat}(h:i<xs.length):xs.getD i d∈xs:=by simp[h]
theorem Tq.at_ {R C:Nat}{M:List (List Rat)}(h:Tq R C M){i:Nat}(hi:i<R):(M.getD i []).length=C:=h.row _ (de (by rw[h.len]; exact hi))
theorem ui (n:Nat)(f:Nat->Bool)(h:∀i,i<n->f i=true):((List.range n).map f).all id=true:=by rw[List.all_map,List.all_eq_true];intro i hi;exact h i (List.mem_range.mp hi)
structure Qs (d v:Nat)(q:Rat):Prop where
 den:Bd d (q.den:Nat)
 val:q.num.natAbs<=2^v*q.den
theorem gR {X:Cx}{xs:List D}{n:Nat}(h:xs.length=n):iz X (.builtin "len") [.lst xs] (.d (.int n)):=h▸ft
theorem je {α:Type}(f:α->D)(xs:List α)(d:α){m:Nat}(h:m=xs.length):(List.range m).map (λi=>f (xs.getD i d))=xs.map f:=by
 subst h;refine List.ext_getElem (by simp) λi h1 h2=>?_;have:i<xs.length:=by simpa using h2
 simp[this]
def ji (ds:List D)(r:Sl):Prop:=∃q:List Rat,ds=[rwQ q]/\1<=q.length/\q.length<=7/\r=.d (.bl true)
def gj (ds:List D)(r:Sl):Prop:=∃(R C:Nat) (M:List (List Rat)),ds=[tbQ M]/\Tq R C M/\r=.d (.bl true)
def cS (ds:List D)(r:Sl):Prop:=∃(R C:Nat) (M:List (List Rat)),ds=[tbQ M]/\Tq R C M/\r=.d .non
section
variable {P:Program}{w:World}{K:PySem.W.Frag}{mg:Str->Option Value}{base:Heap}{k:Nat}{f:Addr}{fd:FuncData}{qual:Str}
theorem sf (F:Fun K "is_row" qual (top 15) f fd)(hb:∀x∈ar,mg x=none)(c_is_short_list:Cal P w K mg base k "is_short_list" b8)(c_is_fraction:Cal P w K mg base k "is_fraction" dJ):a4 P w K mg base CX0 (k+1) f fd ["thing"] (spD K ji):=by refine fnD F sT hb (by rintro _ _ ⟨_,rfl,_⟩; rfl) ?_;rintro _ _ ⟨q,rfl,h1,h7,rfl⟩ cdv A outer s H E b;refine aY (nZ (x_call b c_is_short_list (ab (aa 0) af) ⟨_,rfl,rfl⟩) λh=>(oy (bM b (ab (bG (eF (cmp 0 (f:=λ_=>.bl true) b (a6 (aa 0)) (cN (f:=frD) (xs:=q) 0) (by rw[List.length_map]; omega) λi hi s0 H0 fp=>(x_call (b.comp s0 H0 _ fp) c_is_fraction (ab (aa 0) af) ⟨_,rfl,by rw[xR]⟩)))) af) (vq b.calm ((List.range (q.map frD).length).map λ_=>true) (by rw[List.map_map]; rfl))))) ?_;rw[List.length_map,decide_eq_true (by omega),decide_eq_true (by omega),ui _ _ λ_ _=>rfl];rfl
theorem oe (F:Fun K "is_table" qual (top 16) f fd)(hb:∀x∈ar,mg x=none)(c_is_short_list:Cal P w K mg base k "is_short_list" b8)(c_is_row:Cal P w K mg base k "is_row" ji):a4 P w K mg base CX0 (k+1) f fd ["thing"] (spD K gj):=by
 refine fnD F og hb (by rintro _ _ ⟨_,_,_,rfl,_⟩; rfl) ?_;rintro _ _ ⟨R,C,M,rfl,t,rfl⟩ cdv A outer s H E b;have hl:(M.map rwQ).length=R:=by rw[List.length_map,t.len]
 have r1:=t.r1;have r7:=t.r7;have c1:=t.c1;have c7:=t.c7;refine n9 (PW.pt (vG (iR (gD (x_call b c_is_short_list (ab (aa 0) af) ⟨_,rfl,rfl⟩))) λh=>(qp (iR (gD (bM b (ab (bG (eF (cmp 0 (f:=λ_=>.bl true) b (a6 (aa 0)) (cN (f:=rwQ) (xs:=M) []) (by rw[hl]; omega) λi hi s0 H0 fp=>(x_call (b.comp s0 H0 _ fp) c_is_row (ab (aa 0) af) ⟨_,rfl,?_,?_,rfl⟩)))) af) (vq b.calm ((List.range (M.map rwQ).length).map λ_=>true) (by rw[List.map_map]; rfl)))))))) ?_ ?_
 . rw[t.at_ (by rw[hl]at hi; exact hi)]; exact c1
 . rw[t.at_ (by rw[hl]at hi; exact hi)]; exact c7
 . rw[hl,decide_eq_true (by omega),decide_eq_true (by omega),ui _ _ λ_ _=>rfl]; rfl
 have e0:atI (M.map rwQ) 0=some (rwQ (M.getD 0 [])):=pH [] (i:=0) (by rw[t.len]; omega);refine aY (bM b (ab (bG (eF (cmp 0 (f:=λ_=>.bl (decide ((C:Int)=(C:Int)))) b (a6 (aa 0)) (cN (f:=rwQ) (xs:=M) []) (by rw[hl]; omega) λi hi s0 H0 fp=>(gX (bM (b.comp s0 H0 _ fp) (ab (aa 0) af) (gR (n:=C) (by rw[List.length_map]; exact t.at_ (by rw[hl]at hi; exact hi)))) (bM (b.comp s0 H0 _ fp) (ab (aK (aa 1) ae (a7 e0)) af) (gR (n:=C) (by rw[List.length_map]; exact t.at_ (by omega)))) ie)))) af) (vq b.calm ((List.range (M.map rwQ).length).map λ_=>decide ((C:Int)=(C:Int))) (by rw[List.map_map]; rfl))) ?_;rw[ui _ _ λ_ _=>decide_eq_true rfl]
theorem kq (F:Fun K "look_table" qual (top 17) f fd)(hb:∀x∈ar,mg x=none)(c_is_table:Cal P w K mg base k "is_table" gj):a4 P w K mg base CX0 (k+1) f fd ["thing"] (spD K cS):=by refine fnD F ko hb (by rintro _ _ ⟨_,_,_,rfl,_⟩; rfl) ?_;rintro _ _ ⟨R,C,M,rfl,t,rfl⟩ cdv A outer s H E b;exact n9 (iR (gD (x_call b c_is_table (ab (aa 0) af) ⟨R,C,M,rfl,t,rfl⟩))) rfl (aR rfl)
end
noncomputable def scS (s:Int)(q:Rat):Int:=s/(Int.gcd s (q.den:Nat):Int)*(q.den:Nat)
noncomputable def scL (r:List Rat):Int:=r.foldl scS 1
theorem Aj {s:Int}(hs:0<s)(q:Rat):0<scS s q/\s∣scS s q/\((q.den:Nat):Int)∣scS s q:=by
 have hq:=den_pos q;have g0:0<(Int.gcd s (q.den:Nat):Int):=by have:=eg (i:=s) (j:=(q.den:Nat)) (by omega);have:=Int.natCast_nonneg (Int.gcd s (q.den:Nat));omega
 have d1:(Int.gcd s (q.den:Nat):Int)∣s:=Int.gcd_dvd_left ..;have d2:(Int.gcd s (q.den:Nat):Int)∣((q.den:Nat):Int):=Int.gcd_dvd_right ..;have p1:0<s/(Int.gcd s (q.den:Nat):Int):=Int.ediv_pos_of_pos_of_dvd hs (by omega) d1;refine⟨Int.mul_pos p1 hq,?_,Int.dvd_mul_left ..⟩;obtain⟨k,hk⟩:=d2;refine⟨k,?_⟩;unfold scS;conv=>lhs; rhs; rw[hk]
 rw[<- Int.mul_assoc,Int.ediv_mul_cancel d1]
theorem nS (r:List Rat)(q:Rat):scL (r++[q])=scS (scL r) q:=by unfold scL; rw[List.foldl_append]; rfl
theorem oQ:∀(r:List Rat) (s:Int),0<s->0<r.foldl scS s/\s∣r.foldl scS s/\∀q∈r,((q.den:Nat):Int)∣r.foldl scS s
 | [],s,h=>⟨h,Int.dvd_refl _,λ_ z=>nomatch z⟩
 | q::r,s,h=>by obtain⟨a1,a2,a3⟩:=Aj h q;obtain⟨b1,b2,b3⟩:=oQ r _ a1;exact⟨b1,Int.dvd_trans a2 b2,λx hx=>(List.mem_cons.mp hx).elim (λe=>by rw[e]; exact Int.dvd_trans a3 b2) (b3 x)⟩
theorem jQ (r:List Rat):0<scL r/\∀q∈r,((q.den:Nat):Int)∣scL r:=⟨(oQ r 1 (by decide)).1,(oQ r 1 (by decide)).2.2⟩
theorem tZ {d:Nat}:∀(r:List Rat) (s:Int) (n:Nat),Bd n s->(∀q∈r,Bd d (q.den:Nat))->Bd (n+r.length*d) (r.foldl scS s)
 | [],s,n,h,_=>by simpa using h
 | q::r,s,n,h,hd=>by
   have h1:Bd (n+d) (scS s q):=(h.ediv _).mul (hd q (List.mem_cons_self ..));have:=tZ r _ _ h1 λx hx=>hd x (List.mem_cons_of_mem _ hx);rw[List.length_cons,Nat.succ_mul]
   rwa [show n+d+r.length*d=n+(r.length*d+d) by omega]at this
theorem iJ {d:Nat}{r:List Rat}(h:∀q∈r,Bd d (q.den:Nat)):Bd (1+r.length*d) (scL r):=tZ r 1 1 (by unfold Bd; decide) h
def fV (ds:List D)(r:Sl):Prop:=∃(q:List Rat) (d:Nat),ds=[rwQ q]/\q.length<=1000/\(∀x∈q,Bd d (x.den:Nat))/\1+q.length*d<=8999/\d<=8999/\r=.d (.int (scL q))
noncomputable def whR (r:List Rat)(s:Int):List Int:=r.map λq=>q.num*(s/(q.den:Nat))
theorem C0 {q:Rat}{s:Int}(h:((q.den:Nat):Int)∣s):((q.num*(s/(q.den:Nat)):Int):Rat)=q*(s:Rat):=by obtain⟨k,rfl⟩:=h;have:=den_pos q;rw[Int.mul_ediv_cancel_left _ (by omega),Rat.intCast_mul,Rat.intCast_mul,<- Rat.mul_assoc,cA]
theorem BG {d v n:Nat}{q:Rat}{s:Int}(hq:Qs d v q)(h:((q.den:Nat):Int)∣s)(hs:Bd n s):Bd (v+n) (q.num*(s/(q.den:Nat))):=by obtain⟨k,rfl⟩:=h;have hd:=den_pos q;rw[Int.mul_ediv_cancel_left _ (by omega)];unfold Bd at hs ⊢;rw[Int.natAbs_mul,Nat.pow_add];rw[Int.natAbs_mul,Int.natAbs_natCast]at hs;have h1:q.num.natAbs*k.natAbs<=2^v*q.den*k.natAbs:=Nat.mul_le_mul_right _ hq.val;rw[Nat.mul_assoc]at h1;exact Nat.lt_of_le_of_lt h1 (Nat.mul_lt_mul_of_pos_left hs (Nat.two_pow_pos v))
def ff (ds:List D)(r:Sl):Prop:=∃(q:List Rat) (s:Int) (n:Nat),ds=[rwQ q,.int s]/\q.length<=1000/\(∀x∈q,Sq n x)/\n<=8999/\Bd 8999 s/\r=.o ((whR q s).map .int)
noncomputable def prZ (ns:List Int):Int:=ns.foldl (·*·) 1
theorem tI (ns:List Int)(n:Int):prZ (ns++[n])=prZ ns*n:=by unfold prZ; rw[List.foldl_append]; rfl
theorem vI {d:Nat}:∀(r:List Int) (s:Int) (n:Nat),Bd n s->(∀q∈r,Bd d q)->Bd (n+r.length*d) (r.foldl (·*·) s)
 | [],s,n,h,_=>by simpa using h
 | q::r,s,n,h,hd=>by
   have:=vI r _ _ (h.mul (hd q (List.mem_cons_self ..))) λx hx=>hd x (List.mem_cons_of_mem _ hx);rw[List.length_cons,Nat.succ_mul]
   rwa [show n+d+r.length*d=n+(r.length*d+d) by omega]at this
theorem Av {d:Nat}{r:List Int}(h:∀q∈r,Bd d q):Bd (1+r.length*d) (prZ r):=vI r 1 1 (by unfold Bd; decide) h
noncomputable def tpD (c:List Int):D:=.tup (c.map .int)
noncomputable def mI (cs:List (List Int)):D:=.lst (cs.map tpD)
noncomputable def fD (c:List Int):Int:=c.getD (c.length-1) 0
noncomputable def lea (t:Nat)(c:List Int):Int:=if 0<t then fD c+1 else 0
noncomputable def onC (n t:Nat)(c:List Int):List (List Int):=(List.range ((n:Int)-lea t c).toNat).map λk=>c++[lea t c+(k:Nat)]
noncomputable def chs (n:Nat):Nat->List (List Int)
 | 0=>[[]]
 | t+1=>(chs n t).flatMap (onC n t)
structure Chs (n t:Nat)(c:List Int):Prop where
 len:c.length=t
 at_:∀i,i<t->0<=c.getD i 0/\c.getD i 0<n
theorem tK {c:List Int}{x:Int}{i:Nat}:(c++[x]).getD i 0=if i<c.length then c.getD i 0 else if i=c.length then x else 0:=by
 by_cases h:i<c.length
 . rw[if_pos h]; simp[List.getD,List.getElem?_append_left h]
 . rw[if_neg h];by_cases e:i=c.length
   . subst e; simp
   . rw[if_neg e];simp[List.getD];rw[List.getElem?_eq_none (by simp; omega)];rfl
theorem pC {n t:Nat}{c:List Int}(h:Chs n t c):0<=lea t c/\lea t c<=n:=by
 unfold lea;by_cases ht:0<t
 . have:=h.at_ (t-1) (by omega);rw[if_pos ht,fD,h.len];omega
 . rw[if_neg ht]; omega
theorem cK (n:Nat):∀t,∀c∈chs n t,Chs n t c
 | 0,c,h=>by rw[chs,List.mem_singleton]at h;subst h;exact⟨rfl,λi hi=>absurd hi (by omega)⟩
 | t+1,c,h=>by
   rw[chs,List.mem_flatMap]at h;obtain⟨d,hd,hc⟩:=h;have ih:=cK n t d hd;have hl:=pC ih;unfold onC at hc;obtain⟨k,hk,rfl⟩:=List.mem_map.mp hc;rw[List.mem_range]at hk;refine⟨by rw[List.length_append,ih.len]; rfl,λi hi=>?_⟩;rw[tK,ih.len];by_cases e:i<t
   . rw[if_pos e]; exact ih.at_ i e
   . rw[if_neg e,if_pos (by omega)]; omega
theorem mP {n t:Nat}{c:List Int}(h:Chs n t c):(onC n t c).length<=n:=by have:=pC h;simp[onC];omega
theorem fF {α β:Type}(f:α->List β)(m:Nat):∀xs:List α,(∀x∈xs,(f x).length<=m)->(xs.flatMap f).length<=xs.length*m
 | [],_=>by simp
 | x::xs,h=>by rw[List.flatMap_cons,List.length_append,List.length_cons,Nat.succ_mul];have:=h x (List.mem_cons_self ..);have:=fF f m xs λy hy=>h y (List.mem_cons_of_mem _ hy);omega
theorem rq {n:Nat}(hn:n<=7):∀t,(chs n t).length<=7^t
 | 0=>by simp[chs]
 | t+1=>by rw[chs];have:=fF (onC n t) 7 (chs n t) λc hc=>Nat.le_trans (mP (cK n t c hc)) hn;have:=rq hn t;rw[Nat.pow_succ];omega
def eD (ds:List D)(r:Sl):Prop:=∃n t:Nat,ds=[.int n,.int t]/\n<=7/\t<=7/\r=.d (mI (chs n t))
theorem wM {cs:List (List Int)}(i:Nat)(h:i<(cs.map tpD).length):(cs.map tpD)[i]=tpD (cs.getD i []):=by
 have:i<cs.length:=by simpa using h
 simp[this]
theorem bO {α:Type}{xs:List α}{i:Nat}{d:α}(h:i<xs.length):xs.getD i d∈xs:=by simp[h]
theorem qL {c:List Int}(h:c≠[]):atI (c.map D.int) (-1)=some (.int (fD c)):=by
 have hl:0<c.length:=List.length_pos_iff.mpr h;unfold atI ixN fD;rw[if_neg (by decide),if_pos (by rw[List.length_map]; omega),List.length_map];simp only[Option.bind_some];have e:(-1+(c.length:Int)).toNat=c.length-1:=by omega
 rw[e];simp[(by omega:c.length-1<c.length)]
section
variable {P:Program}{w:World}{K:PySem.W.Frag}{mg:Str->Option Value}{base:Heap}{k:Nat}{f:Addr}{fd:FuncData}{qual:Str}
theorem oH (F:Fun K "scale_of" qual (top 24) f fd)(hb:∀x∈ar,mg x=none)(c_common_divisor:Cal P w K mg base k "common_divisor" a5):a4 P w K mg base CX0 (k+1) f fd ["row"] (spD K fV):=by
 refine fnD F iQ hb (by rintro _ _ ⟨_,_,rfl,_⟩; rfl) ?_;rintro _ _ ⟨q,d,rfl,hl,hd,hb1,hd1,rfl⟩ cdv A outer s H E b;have nd:=iQ.nd;refine aI 1 nd ae ?_;refine bz 2 (g:=λi=>frD (q.getD i 0)) (λi τ=>i<=q.length/\∃s2,τ=[.d (rwQ q),.d (.int (scL (q.take i))),s2]) b nd (a6 (aa 0)) (cN (f:=frD) (xs:=q) 0) ⟨Nat.zero_le _,.un,rfl⟩ (λi hi τ h=>?_) λτ h=>?_
 . obtain⟨_,s2,rfl⟩:=h;have hi:i<q.length:=by simpa using hi
   have mm:=de (d:=(0:Rat)) hi;have hs:=(jQ (q.take i)).1
   have bs:Bd (1+q.length*d) (scL (q.take i)):=(iJ λx hx=>hd x (List.mem_of_mem_take hx)).mono (by
     have:(q.take i).length*d<=q.length*d:=Nat.mul_le_mul_right _ (by rw[List.length_take]; omega);omega)
   have et:q.take (i+1)=q.take i++[q.getD i 0]:=by rw[List.take_succ,List.getElem?_eq_getElem hi]; simp[hi]
   rw[et,nS];generalize scL (q.take i)=sc at hs bs ⊢;generalize q.getD i 0=x at mm ⊢;have hx:=den_pos x;have dv:aH (Int.gcd sc (x.den:Nat):Int):=((hd x mm).gcd (by omega)).aH (eg (by omega)) (by omega);refine aI 1 nd (aJ (aJ (aa 1) (x_call b c_common_divisor (ab (aa 1) (ab (aK (aa 2) ae (aL (aC (i:=1) rfl))) af)) ⟨_,_,rfl,rfl⟩) (bx dv)) (aK (aa 2) ae (aL (aC (i:=1) rfl))) (aX ?_)) (aR ⟨hi,.d (frD x),?_⟩)
   . rw[aW]; exact(bs.ediv _).aD (hd x mm) (by omega) (by omega)
   . rw[aW]; rfl
 . obtain⟨_,s2,rfl⟩:=h;rw[List.length_map,List.take_length];exact aY (aa 1) rfl
theorem mL (F:Fun K "whole_row" qual (top 25) f fd)(hb:∀x∈ar,mg x=none):a4 P w K mg base CX0 (k+1) f fd ["row","scale"] (spD K ff):=by
 refine fnD F mO hb (by rintro _ _ ⟨_,_,_,rfl,_⟩; rfl) ?_;rintro _ _ ⟨q,s0,n,rfl,hl,hq,hn,hs,rfl⟩ cdv A outer s H E b;refine aY (eF (cmp 0 (f:=λi=>.int ((q.getD i 0).num*(s0.fdiv ((q.getD i 0).den:Nat)))) b (a6 (aa 0)) (cN (f:=frD) (xs:=q) 0) (by rw[List.length_map]; omega) λi hi s1 H0 fp=>?_)) ?_
 . have sq:=hq _ (de (d:=(0:Rat)) (by simpa using hi));generalize q.getD i 0=x at sq ⊢;have hx:=den_pos x;have e:s0.fdiv (x.den:Nat)=s0/(x.den:Nat):=Int.fdiv_eq_ediv_of_nonneg _ (by omega);exact aJ (aK (aa 0) ae (aL (aC (i:=0) rfl))) (aJ (aa 1) (aK (aa 0) ae (aL (aC (i:=1) rfl))) (bx (sq.den.aH (by omega) (by omega)))) (aX (by rw[e]; exact sq.num.aD (hs.ediv _) (by omega) (by omega)))
 . refine congrArg Sl.o ((je (λx:Rat=>D.int (x.num*(s0.fdiv (x.den:Nat)))) q 0 (List.length_map ..)).trans ?_);unfold whR;rw[List.map_map];refine List.map_congr_left λx _=>?_;simp only[Function.comp];rw[Int.fdiv_eq_ediv_of_nonneg _ (by have:=den_pos x; omega)]
theorem kr (F:Fun K "choices_of" qual (top 18) f fd)(hb:∀x∈ar,mg x=none):a4 P w K mg base CX0 (k+1) f fd ["many","size"] (spD K eD):=by
 refine fnD F fR hb (by rintro _ _ ⟨_,_,rfl,_⟩; rfl) ?_;rintro _ _ ⟨n,t,rfl,hn,ht,rfl⟩ cdv A outer s H E b;have nd:=fR.nd;refine aI 2 nd (bG (dB (ab (b6 af) af))) ?_;refine bz 3 (λi τ=>∃s3 s4 s5 s6,τ=[.d (.int n),.d (.int t),.d (mI (chs n i)),s3,s4,s5,s6]) b nd (cC b (aa 1) (by omega) (by omega)) cB ⟨.un,.un,.un,.un,rfl⟩ (λi hi τ h=>?_) λτ h=>?_
 . obtain⟨s3,s4,s5,s6,rfl⟩:=h;have hi:i<t:=by rw[aw]at hi; omega
   have l1:=rq hn i;have l2:7^i<=7^6:=Nat.pow_le_pow_right (by decide) (by omega);refine aI 4 nd (dB af) ?_;refine bz 5 (g:=λl=>tpD ((chs n i).getD l [])) (λl τ=>∃s5 s6,τ=[.d (.int n),.d (.int t),.d (mI (chs n i)),.d (.int (i:Nat)),.o ((((chs n i).take l).flatMap (onC n i)).map tpD),s5,s6]) b nd (a6 (aa 2)) wM ⟨s5,s6,rfl⟩ (λl hl τ h=>?_) λτ h=>?_
   . obtain⟨s5,s6,rfl⟩:=h;have hl:l<(chs n i).length:=by simpa using hl
     have ok:=cK n i _ (bO (d:=[]) hl);have hle:=pC ok;have len1:=fF (onC n i) 7 ((chs n i).take l) λc hc=>Nat.le_trans (mP (cK n i c (List.mem_of_mem_take hc))) hn;rw[List.length_take]at len1;have len2:=mP ok;refine aI 6 nd (yu (s:=.d (.int (lea i ((chs n i).getD l [])))) (bF (aa 3) ae pL) (λh=>?_) λh=>?_) ?_
     . have h:=of_decide_eq_true h;have h0:0<i:=by omega
       rw[show lea i ((chs n i).getD l [])=fD ((chs n i).getD l [])+1 from if_pos h0];exact aJ (aK (aa 5) (kX ae) (aL (qL λz=>by have:=ok.len; rw[z]at this; simp at this; omega))) ae bE
     . have h:=of_decide_eq_false h;rw[show lea i ((chs n i).getD l [])=0 from if_neg (by omega)];exact ae
     refine yd 4 (eF (cmp 0 (f:=λk=>tpD (((chs n i).getD l [])++[lea i ((chs n i).getD l [])+(k:Nat)])) b (tU b (aa 6) (aa 0) ⟨by omega,by omega,by omega,by omega⟩) (λk hk=>jd _ _ k hk) (by rw[aw]; omega) λk hk s0 H0 fp=>?_)) ?_ (aR ⟨.d (tpD ((chs n i).getD l [])),.d (.int (lea i ((chs n i).getD l []))),?_⟩)
     . have e:tpD (((chs n i).getD l [])++[lea i ((chs n i).getD l [])+(k:Nat)])=.tup ((((chs n i).getD l []).map D.int)++[.int (lea i ((chs n i).getD l [])+(k:Nat))]):=by unfold tpD; rw[List.map_append]; rfl
       rw[e];exact aJ (aa 1) (b6 (ab (aa 0) af)) (pU (by rw[List.length_map,ok.len]; show _+1<_; omega))
     . rw[List.length_map,List.length_map,List.length_range,aw]; omega
     . rw[take_snoc [] hl,List.flatMap_append,List.map_append,aw];show [_,_,_,_,Sl.o (_++(List.range ((n:Int)-lea i ((chs n i).getD l [])).toNat).map _),_,_]=_;simp[onC]
   . obtain⟨s5,s6,rfl⟩:=h;refine pI 4 (aI 2 nd (aa 4) (aR ⟨.d (.int (i:Nat)),.d (mI (chs n (i+1))),s5,s6,?_⟩));rw[List.length_map,List.take_of_length_le (Nat.le_refl _)];rfl
 . obtain⟨s3,s4,s5,s6,rfl⟩:=h;refine aY (aa 2) ?_;rw[aw,Int.toNat_natCast]
end
noncomputable def whM (M:List (List Rat))(ss:List Int):List (List Int):=(List.range M.length).map λi=>whR (M.getD i []) (ss.getD i 0)
theorem Ab {α β:Type}{f:α->D}{g:β->D}{xs:List α}{ys:List β}(d:α)(e:β)(i:Nat)(h:i<(eW (xs.map f) (ys.map g)).length):(eW (xs.map f) (ys.map g))[i]=.tup [f (xs.getD i d),g (ys.getD i e)]:=by
 rw[cy,List.length_map,List.length_map]at h;have h1:i<xs.length:=by omega
 have h2:i<ys.length:=by omega
 simp[eW,h1,h2]
def eo (ds:List D)(r:Sl):Prop:=∃(M:List (List Rat)) (ss:List Int) (n:Nat),ds=[tbQ M,.lst (ss.map .int)]/\M.length=ss.length/\M.length<=1000/\(∀r∈M,r.length<=1000/\∀x∈r,Sq n x)/\n<=8999/\(∀s∈ss,Bd 8999 s)/\r=.o ((whM M ss).map dtR)
section
variable {P:Program}{w:World}{K:PySem.W.Frag}{mg:Str->Option Value}{base:Heap}{k:Nat}{f:Addr}{fd:FuncData}{qual:Str}
theorem kz (F:Fun K "whole_rows" qual (top 26) f fd)(hb:∀x∈ar,mg x=none)(c_whole_row:Cal P w K mg base k "whole_row" ff):a4 P w K mg base CX0 (k+1) f fd ["table","scales"] (spD K eo):=by
 refine fnD F kC hb (by rintro _ _ ⟨_,_,_,rfl,_⟩; rfl) ?_;rintro _ _ ⟨M,ss,n,rfl,hl,h1,hM,hn,hs,rfl⟩ cdv A outer s H E b;have zl:(eW (M.map rwQ) (ss.map D.int)).length=M.length:=by rw[cy,List.length_map,List.length_map]; omega
 refine aY (eF (zd 0 1 (g:=λi=>rwQ (M.getD i [])) (g':=λi=>.int (ss.getD i 0)) (f:=λi=>dtR (whR (M.getD i []) (ss.getD i 0))) b (uS b (aa 0) (aa 1)) (Ab [] 0) (by rw[zl]; omega) λi hi s0 H0 fp=>?_)) ?_
 . rw[zl]at hi;obtain⟨g1,g2⟩:=hM _ (de (d:=[]) hi);exact bG (x_call (b.comp s0 H0 _ fp) c_whole_row (ab (aa 0) (ab (aa 1) af)) ⟨_,_,n,rfl,g1,g2,hn,hs _ (de (by omega)),rfl⟩)
 . unfold whM;rw[zl,List.map_map];rfl
end
def dk (ds:List D)(r:Sl):Prop:=∃a b:Int,ds=[.int a,.int b]/\r=.d (.int (Int.gcd a b:Int))
def fm (ds:List D)(r:Sl):Prop:=∃(t b:Int) (q:Rat),ds=[.int t,.int b]/\0<b/\Bd 8999 b/\(t:Rat)=q*(b:Rat)/\r=.d (frD q)
def gH (ds:List D)(r:Sl):Prop:=∃(ns:List Int) (k:Nat),ds=[.lst (ns.map .int),.int k]/\r=.d (.int (ns.getD k 0))
theorem um (p q:Rat):((p.num*q.num:Int):Rat)=p*q*(((p.den:Nat):Int)*((q.den:Nat):Int):Int):=by rw[Rat.intCast_mul,Rat.intCast_mul,<- cA p,<- cA q];grind
theorem qu {a b:Int}(h:0<a)(g:0<b):0<a*b:=Int.mul_pos h g
theorem Sq.mul {m n:Nat}{p q:Rat}(h:Sq m p)(g:Sq n q):Sq (m+n) (p*q):=Sq.cD (qu (den_pos p) (den_pos q)) (um p q) (h.num.mul g.num) (h.den.mul g.den)
def jN (ds:List D)(r:Sl):Prop:=∃(m n:Nat) (p q:Rat),ds=[frD p,frD q]/\Sq m p/\Sq n q/\m+n<=8999/\r=.d (frD (p+q))
def jr (ds:List D)(r:Sl):Prop:=∃p q t:Rat,ds=[frD p,frD q,frD t]/\t≠0/\Sq 2900 p/\Sq 2900 q/\Sq 2900 t/\r=.d (frD (p*q/t))
theorem qX {p q t:Rat}(h:t≠0):((p.num*q.num*(t.den:Nat):Int):Rat)=p*q/t*(((p.den:Nat)*(q.den:Nat)*t.num:Int):Rat):=by rw[Rat.intCast_mul,Rat.intCast_mul,Rat.intCast_mul,Rat.intCast_mul,<- cA p,<- cA q,<- cA t];have:t*t⁻¹=1:=Rat.mul_inv_cancel t h;rw[Rat.div_def];generalize t⁻¹=i at this ⊢;grind
section
variable {P:Program}{w:World}{K:PySem.W.Frag}{mg:Str->Option Value}{base:Heap}{k:Nat}{f:Addr}{fd:FuncData}{qual:Str}
theorem mh (F:Fun K "_law_divisor" qual (top 35) f fd)(hb:∀x∈ar,mg x=none):a4 P w K mg base CX0 (k+1) f fd ["_law_one","_law_other"] (spD K dk):=by
 refine fnD F gY hb (by rintro _ _ ⟨_,_,rfl,_⟩; rfl) ?_;rintro _ _ ⟨x,y,rfl,rfl⟩ cdv A outer s H E b;have nd:=gY.nd;refine aI 0 nd (bM b (ab (aa 0) af) oD) (aI 1 nd (bM b (ab (aa 1) af) oD) ?_);rw[gn,gn];refine qO (λn t τ=>∃(g:Nat) (s2:Sl),Nat.gcd g n=Int.gcd x y/\t=(decide ((0:Int)<n))/\τ=[.d (.int g),.d (.int n),s2]) b ⟨_,_,_,_,rfl,rfl,rfl⟩ (λn t τ h=>?_) (λn τ h=>?_) λn τ h=>?_
 . obtain⟨g,s2,_,rfl,rfl⟩:=h;exact bF (aa 1) ae pL
 . obtain⟨g,s2,hg,ht,rfl⟩:=h;have hl:n≠0:=λz=>by simp[z]at ht
   have e:(g:Int).fmod n=((g%n:Nat):Int):=by rw[Int.fmod_eq_emod_of_nonneg _ (by omega)]; rfl
   refine aI 2 nd (aJ (aa 0) (aa 1) (eU (by omega))) ?_;rw[e];refine aI 0 nd (aa 1) (aI 1 nd (aa 2) (aR ⟨g%n,_,Nat.mod_lt g (Nat.pos_of_ne_zero hl),n,_,?_,rfl,rfl⟩));rw[<- hg,Nat.gcd_comm n,<- Nat.gcd_rec,Nat.gcd_comm]
 . obtain⟨g,s2,hg,ht,rfl⟩:=h;have hl:n=0:=by have:=of_decide_eq_false ht.symm; omega
   refine aY (aa 0) ?_;rw[<- hg,hl,Nat.gcd_zero_right]
theorem tw (F:Fun K "_law_made" qual (top 36) f fd)(hb:∀x∈ar,mg x=none)(c_l_divisor:Cal P w K mg base k "_law_divisor" dk):a4 P w K mg base CX0 (k+1) f fd ["_law_top","_law_bottom"] (spD K fm):=by refine fnD F kN hb (by rintro _ _ ⟨_,_,_,rfl,_⟩; rfl) ?_;rintro _ _ ⟨t,c,q,rfl,h0,h1,hq,rfl⟩ cdv A outer s H E b;have nd:=kN.nd;have dv:aH (Int.gcd t c:Int):=(h1.gcd (by omega)).aH (eg (by omega)) (by decide);obtain⟨e1,e2⟩:=cD h0 hq;refine aI 2 nd (x_call b c_l_divisor (ab (aa 0) (ab (aa 1) af)) ⟨_,_,rfl,rfl⟩) (aY (b6 (ab (aJ (aa 0) (aa 2) (bx dv)) (ab (aJ (aa 1) (aa 2) (bx dv)) af))) ?_);rw[aW,aW,<- e1,<- e2];rfl
theorem sh (F:Fun K "_law_cell" qual (top 33) f fd)(hb:∀x∈ar,mg x=none):a4 P w K mg base CX0 (k+1) f fd ["_law_script","_law_k"] (spD K gH):=by
 refine fnD F sH hb (by rintro _ _ ⟨_,_,rfl,_⟩; rfl) ?_;rintro _ _ ⟨ns,n,rfl,rfl⟩ cdv A outer s H E b;refine fT (bF (aa 1) (bM b (ab (aa 0) af) ft) rY) (λh=>?_) λh=>?_
 . have h:=of_decide_eq_true h;rw[List.length_map]at h;exact aY (aK (aa 0) (aa 1) (a7 (j5 (by omega) (by omega)))) rfl
 . have h:=of_decide_eq_false h;rw[List.length_map]at h;refine aY ae ?_;show Sl.d (.int 0)=_;rw[getD_none (by omega)]
theorem sL (F:Fun K "_law_plus" qual (top 41) f fd)(hb:∀x∈ar,mg x=none)(c_l_made:Cal P w K mg base k "_law_made" fm):a4 P w K mg base CX0 (k+1) f fd ["_law_one","_law_other"] (spD K jN):=by refine fnD F sC hb (by rintro _ _ ⟨_,_,_,_,rfl,_⟩; rfl) ?_;rintro _ _ ⟨m,n,p,q,rfl,h1,h2,hl,rfl⟩ cdv A outer s H E b;exact aY (x_call b c_l_made (ab (aJ (aJ (aK (aa 0) ae (aL (aC (i:=0) rfl))) (aK (aa 1) ae (aL (aC (i:=1) rfl))) (aX (h1.num.aD h2.den (by omega) (by omega)))) (aJ (aK (aa 1) ae (aL (aC (i:=0) rfl))) (aK (aa 0) ae (aL (aC (i:=1) rfl))) (aX (h2.num.aD h1.den (by omega) (by omega)))) bE) (ab (aJ (aK (aa 0) ae (aL (aC (i:=1) rfl))) (aK (aa 1) ae (aL (aC (i:=1) rfl))) (aX (h1.den.aD h2.den (by omega) (by omega)))) af)) ⟨_,_,_,rfl,qu (den_pos p) (den_pos q),(h1.den.mul h2.den).mono hl,v8 p q,rfl⟩) rfl
theorem se (F:Fun K "_law_part" qual (top 42) f fd)(hb:∀x∈ar,mg x=none)(c_l_made:Cal P w K mg base k "_law_made" fm):a4 P w K mg base CX0 (k+1) f fd ["_law_one","_law_other","_law_third"] (spD K jr):=by
 refine fnD F k4 hb (by rintro _ _ ⟨_,_,_,rfl,_⟩; rfl) ?_;rintro _ _ ⟨p,q,t,rfl,h0,sp,sq,st,rfl⟩ cdv A outer s H E b;have nd:=k4.nd;have e:=qX (p:=p) (q:=q) h0;have m1:=sp.1.aD sq.1 (by decide) (by decide);have m2:=(sp.1.mul sq.1).aD st.2 (by decide) (by decide);have m3:=sp.2.aD sq.2 (by decide) (by decide);have m4:=(sp.2.mul sq.2).aD st.1 (by decide) (by decide);have bb:=((sp.2.mul sq.2).mul st.1).mono (show 2900+2900+2900<=8999 by decide);have b0:((p.den:Nat):Int)*(q.den:Nat)*t.num≠0:=by have h1:=p.den_nz;have h2:=q.den_nz;have h3:t.num≠0:=λz=>h0 (Rat.num_eq_zero.mp z);exact Int.mul_ne_zero (Int.mul_ne_zero (by omega) (by omega)) h3
 refine aI 3 nd (aJ (aJ (aK (aa 0) ae (aL (aC (i:=0) rfl))) (aK (aa 1) ae (aL (aC (i:=0) rfl))) (aX m1)) (aK (aa 2) ae (aL (aC (i:=1) rfl))) (aX m2)) ?_;refine aI 4 nd (aJ (aJ (aK (aa 0) ae (aL (aC (i:=1) rfl))) (aK (aa 1) ae (aL (aC (i:=1) rfl))) (aX m3)) (aK (aa 2) ae (aL (aC (i:=0) rfl))) (aX m4)) ?_;generalize p.num*q.num*((t.den:Nat):Int)=u at e ⊢;generalize ((p.den:Nat):Int)*((q.den:Nat):Int)*t.num=v at e bb b0 ⊢;refine fT (bF (aa 4) ae rY) (λh=>?_) λh=>?_
 . have h:=of_decide_eq_true h;have e1:0-u=-u:=Int.zero_sub u;have e2:0-v=-v:=Int.zero_sub v;exact aY (x_call b c_l_made (ab (aJ ae (aa 3) iX) (ab (aJ ae (aa 4) iX) af)) ⟨_,_,p*q/t,rfl,by omega,by rw[e2]; exact bb.neg,by rw[e1,e2,Rat.intCast_neg,Rat.intCast_neg,e,Rat.mul_neg],rfl⟩) rfl
 . have h:=of_decide_eq_false h;exact aY (x_call b c_l_made (ab (aa 3) (ab (aa 4) af)) ⟨_,_,p*q/t,rfl,by omega,bb,e,rfl⟩) rfl
end
end K49
namespace Hy
open PySem PySem.Spec PyProof.Rows L2
open Ev (D Den aq ai aU aO)
def Pj (σ:L2.St)(H:Hp)(i j k:Nat):Prop:=∃a vs v,(σ[i]?).join=some (.ref a)/\H a=some (.lst vs)/\vs[k]?=some v/\σ[j]?=some (some v)
def dEJ (K:PySem.W.Frag)(τ:List Sl)(i j k:Nat)(x:D):TE:=λσ H Q=>∃A H₀ B,Sta K A H₀ τ B σ H/\Pj σ H i j k/\∀v H',ah H H'->Den K (hd H' A) v x->Q v H'
section
variable {X:Cx}{τ:List Sl}{x:D}{e:Expr}{q:Pos}{i j k:Nat}
theorem ej (h:PE X e (dE X.K false τ (.d x))):PE X e (dEJ X.K τ i j k x):=peW h λσ H Q ⟨A,H₀,B,S,_,q⟩=>aT S λv H' e d=>q v H' e d
end
section
variable {X:Cx}{τ:List Sl}{e2:Expr}{N:Po}{rest:List Stmt}{pos p tp:Pos}{x2:D}{t:Nd}
theorem zS (i:Nat){n:Str}{md}(h2:PE X e2 (dE X.K true τ (.d x2)))(h:N.rt (.n (.t [t,.d x2])))(hi:τ[i]?=some (.n t):=by rfl)(hN:X.N[i]?=some n:=by rfl)
   (hv:Vis X.env.scope n:=by first | exact Or.inl rfl | exact Or.inr (Or.inl rfl) | exact Or.inr (Or.inr rfl)) (hd1:(n==("__debug__" : Str))=false:=by decide) (hcd:(n==("__classdict__" : Str))=false:=by decide)
   (s1:starEach [.Name n p,e2] X.env=(false,eval (.Name n p) X.env)::starEach [e2] X.env:=by rfl) (s2:starEach [e2] X.env=(false,eval e2 X.env)::starEach [] X.env:=by rfl) :
   PSs X (.Return (some (.Tuple [.Name n p,e2] md tp)) pos::rest) (dS X.K τ N):=
 bf (M:=λ_=>False) (psW (pE (tP (b7 (bI (i:=i) hN hv hd1 hcd) (b7 h2 eO s2) s1))) λD σ H ⟨A,H₀,B,S,Me⟩=>by
   obtain⟨_,u,eu,_⟩:=S.sl i _ hi;refine⟨_,slot_of eu,aT S λv2 H2 e2 d2=>⟨(show 2<=sizeLine by decide),λp hp=>?_⟩⟩;have S2:=S.mono e2;obtain⟨nd,u',eu',ok⟩:=S2.sl i _ hi;rw[eu]at eu';cases eu';have low:ah (hd H2 (own A B)) (hd H2 λb=>A b\/b∈B i):=av (ah.refl _) λb z=>z.elim .inl λz=>.inr ⟨i,z⟩;have nds:aQ X.K (hd H2 λb=>A b\/b∈B i) H2 [u,v2] (B i) [t,.d x2]:=by have:=aQ.cons (ok.frame low λ_ _=>rfl) (.cons (b1:=[]) (b2:=[]) (.d (d2.mono low)) .nil);rw[List.append_nil,List.append_nil]at this;exact this
   obtain⟨z1,z2⟩:=vo (o:=.tup [u,v2]) hp nds nd;refine Me.rt (.ref p) _ (p::B i) _ h (S2.same.trans (ai hp _)) (λb hb'=>?_) ⟨z2,_,rfl,.t aB z1⟩;rcases List.mem_cons.mp hb' with w | w
   . subst w; exact⟨S2.same.free hp,_,aB⟩
   . obtain⟨o,w2⟩:=S2.bd i b w;exact⟨S2.fr i b w,o,ai hp _ _ _ w2⟩) λ_ e=>e.elim
end
end Hy
namespace K49
open PySem PySem.Spec PyProof.Rows L2 Hy
open Ev (D Den aq aD aH)
theorem Qs.sq {d v:Nat}{q:Rat}(h:Qs d v q):Sq (v+d) q:=by refine⟨?_,h.den.mono (by omega)⟩;have h1:=h.den;unfold Bd at h1 ⊢;rw[Int.natAbs_natCast]at h1;rw[Nat.pow_add];exact Nat.lt_of_le_of_lt h.val (Nat.mul_lt_mul_of_pos_left h1 (Nat.two_pow_pos v))
noncomputable def BX (t:List (List Rat)):D:=.lst (t.map λr=>.lst (r.map frD))
noncomputable def cg (t:List (List Rat)):Nd:=.l (t.map λr=>.l ((r.map frD).map .d))
theorem qG (xs:List D):mr (xs.map .d)=xs:=by
 induction xs with
 | nil=>rfl
 | cons x xs ih=>rw[List.map_cons,mr,ndD,ih]
theorem oY {α:Type}(f:α->List Nd):∀t:List α,mr (t.map λr=>.l (f r))=t.map λr=>D.lst (mr (f r))
 | []=>rfl
 | r::t=>by rw[List.map_cons,mr,ndD,oY f t]; rfl
theorem qb (t:List (List Rat)):ndD (cg t)=BX t:=by unfold cg BX;rw[ndD,oY];congr 1;exact List.map_congr_left λr _=>by rw[qG]
theorem nc {α β:Type}(f:α->β)(xs:List α)(d:α){m:Nat}(h:m=xs.length):(List.range m).map (λi=>f (xs.getD i d))=xs.map f:=by
 subst h;refine List.ext_getElem (by simp) λi h1 h2=>?_;have:i<xs.length:=by simpa using h2
 simp[this]
theorem BZ {s:Int}(hs:0<s)(q:Rat):(s*(q.den:Nat))/(Int.gcd s (q.den:Nat):Int)=scS s q:=by unfold scS;have d1:(Int.gcd s (q.den:Nat):Int)∣s:=Int.gcd_dvd_left ..;rw[Int.mul_comm s,Int.mul_ediv_assoc _ d1,Int.mul_comm]
noncomputable def rwN (r:List Int):Nd:=.l ((r.map D.int).map .d)
noncomputable def bU (R:List (List Int)):Nd:=.l (R.map rwN)
theorem ud (R:List (List Int)):ndD (bU R)=.lst (R.map dtR):=by unfold bU rwN;rw[ndD,oY];congr 1;exact List.map_congr_left λr _=>by rw[qG]; rfl
def j4 (ds:List D)(r:Sl):Prop:=∃(R C d v:Nat) (M:List (List Rat)),ds=[tbQ M]/\Tq R C M/\(∀r∈M,∀x∈r,Qs d v x)/\1+C*d<=8999/\v+d<=8999/\r=.n (.t [bU (whM M (M.map scL)),.d (.int (prZ (M.map scL)))])
theorem uM {M:List (List Rat)}{i:Nat}(h:i<M.length):((List.range (i+1)).map λi=>whR (M.getD i []) (scL (M.getD i [])))=((List.range i).map λi=>whR (M.getD i []) (scL (M.getD i [])))++[whR (M.getD i []) (scL (M.getD i []))]:=by rw[List.range_succ,List.map_append];rfl
theorem wU (M:List (List Rat)):(List.range M.length).map (λi=>whR (M.getD i []) (scL (M.getD i [])))=whM M (M.map scL):=by unfold whM;refine List.map_congr_left λi hi=>?_;have:i<M.length:=List.mem_range.mp hi;simp[this]
section
variable {P:Program}{w:World}{K:PySem.W.Frag}{mg:Str->Option Value}{base:Heap}{k:Nat}{f:Addr}{fd:FuncData}{qual:Str}
set_option maxHeartbeats 1000000 in
theorem sS (F:Fun K "_law_rows" qual (top 38) f fd)(hb:∀x∈ar,mg x=none)(c_l_divisor:Cal P w K mg base k "_law_divisor" dk):a4 P w K mg base CX0 (k+1) f fd ["_law_table"] (spD K j4):=by
 refine fnD F lh hb (by rintro _ _ ⟨_,_,_,_,_,rfl,_⟩; rfl) ?_;rintro _ _ ⟨R,C,d,v,M,rfl,t,hq,z1,z2,rfl⟩ cdv A outer s H E b;have nd:=lh.nd;have r7:=t.r7;have c7:=t.c7;refine aI 1 nd (dB af) ?_;refine xn 1 (c:=.l []) ?_;refine aI 2 nd ae ?_;refine bz 3 (g:=λi=>rwQ (M.getD i [])) (λi τ=>i<=M.length/\∃s3 s4 s5,τ=[.d (tbQ M),.n (bU ((List.range i).map λi=>whR (M.getD i []) (scL (M.getD i [])))),.d (.int (prZ ((M.map scL).take i))),s3,s4,s5]) b nd (a6 (aa 0)) (cN (f:=rwQ) (xs:=M) []) ⟨Nat.zero_le _,.un,.un,.un,rfl⟩ (λi hi τ h=>?_) λτ h=>?_
 . obtain⟨_,s3,s4,s5,rfl⟩:=h;have hi:i<M.length:=by simpa using hi
   have mi:=de (xs:=M) (d:=[]) hi;have hiR:i<R:=by rw[<- t.len]; exact hi
   have hC:=t.at_ hiR;have qr:=hq _ mi;rw[uM hi];have et:(M.map scL).take (i+1)=(M.map scL).take i++[scL (M.getD i [])]:=by rw[List.take_succ,List.getElem?_map,List.getElem?_eq_getElem hi];simp[hi]
   rw[et,tI]
   have bpr:Bd (1+R*8999) (prZ ((M.map scL).take i)):=(Av (d:=8999) λx hx=>by
     obtain⟨r,hr,rfl⟩:=List.mem_map.mp (List.mem_of_mem_take hx);have:=iJ (d:=d) (r:=r) λx hx=>(hq r hr x hx).den;rw[t.row r hr]at this
     exact this.mono z1).mono (by
       have:((M.map scL).take i).length<=R:=by rw[List.length_take,List.length_map,t.len]; omega
       have:=Nat.mul_le_mul_right 8999 this;omega)
   generalize prZ ((M.map scL).take i)=pr at bpr ⊢;generalize hg:((List.range i).map λi=>whR (M.getD i []) (scL (M.getD i [])))=Gs;have lGs:Gs.length=i:=by rw[<- hg]; simp
   generalize M.getD i []=row at mi hC qr ⊢;refine aI 4 nd ae ?_;refine bz 5 (g:=λj=>frD (row.getD j 0)) (λj τ=>j<=row.length/\∃s5,τ=[.d (tbQ M),.n (bU Gs),.d (.int pr),.d (rwQ row),.d (.int (scL (row.take j))),s5]) b nd (a6 (aa 3)) (cN (f:=frD) (xs:=row) 0) ⟨Nat.zero_le _,s5,rfl⟩ (λj hj τ h=>?_) λτ h=>?_
   . obtain⟨_,s5,rfl⟩:=h;have hj:j<row.length:=by simpa using hj
     have mm:=de (d:=(0:Rat)) hj;have hs:=(jQ (row.take j)).1
     have bs:Bd (1+C*d) (scL (row.take j)):=(iJ λx hx=>(qr x (List.mem_of_mem_take hx)).den).mono (by
       have:(row.take j).length*d<=C*d:=Nat.mul_le_mul_right _ (by rw[List.length_take]; omega);omega)
     have et:row.take (j+1)=row.take j++[row.getD j 0]:=by rw[List.take_succ,List.getElem?_eq_getElem hj]; simp[hj]
     rw[et,nS];generalize scL (row.take j)=sc at hs bs ⊢;generalize row.getD j 0=x at mm ⊢;have hx:=den_pos x;have sd:=(qr x mm).den;have dv:aH (Int.gcd sc (x.den:Nat):Int):=(sd.gcd (by omega)).aH (eg (by omega)) (by omega);refine aI 4 nd (aJ (aJ (aa 4) (aK (aa 5) ae (aL (aC (i:=1) rfl))) (aX (bs.aD sd (by omega) (by omega)))) (x_call b c_l_divisor (ab (aa 4) (ab (aK (aa 5) ae (aL (aC (i:=1) rfl))) af)) ⟨_,_,rfl,rfl⟩) (bx dv)) (aR ⟨hj,.d (frD x),?_⟩);rw[aW,BZ hs];rfl
   . obtain⟨_,s5,rfl⟩:=h;rw[List.length_map,List.take_length];have br:=iJ (d:=d) (r:=row) λx hx=>(qr x hx).den;rw[hC]at br;refine lu (c:=rwN (whR row (scL row))) (ba 1) (eF (cmp 0 (g:=λj=>frD (row.getD j 0)) (f:=λj=>.int ((row.getD j 0).num*((scL row).fdiv ((row.getD j 0).den:Nat)))) b (a6 (aa 3)) (cN (f:=frD) (xs:=row) 0) (by rw[List.length_map]; omega) λj hj s0 H0 fp=>?_)) rfl rfl ?hx ?_ ?_
     . have sq:=(qr _ (de (d:=(0:Rat)) (show j<row.length by simpa using hj))).sq;generalize row.getD j 0=x at sq ⊢;have hx:=den_pos x;have e:(scL row).fdiv (x.den:Nat)=scL row/(x.den:Nat):=Int.fdiv_eq_ediv_of_nonneg _ (by omega);exact aJ (aK (aa 0) ae (aL (aC (i:=0) rfl))) (aJ (aa 1) (aK (aa 0) ae (aL (aC (i:=1) rfl))) (bx (sq.den.aH (by omega) (by omega)))) (aX (by rw[e]; exact sq.num.aD (br.ediv _) (by omega) (by omega)))
     case hx=>refine congrArg (λl=>some (Nd.l (l.map .d))) ((je (λx:Rat=>D.int (x.num*((scL row).fdiv (x.den:Nat)))) row 0 (List.length_map ..)).trans ?_);unfold whR;rw[List.map_map];refine List.map_congr_left λx _=>?_;simp only[Function.comp];rw[Int.fdiv_eq_ediv_of_nonneg _ (by have:=den_pos x; omega)]
     . rw[List.length_map,lGs]; omega
     . refine aI 2 nd (aJ (aa 2) (aa 4) (aX (bpr.aD br (by omega) (by omega)))) (aR ⟨hi,.d (rwQ row),.d (.int (scL row)),s5,?_⟩);unfold bU;rw[List.map_append];rfl
 . obtain⟨_,s3,s4,s5,rfl⟩:=h;rw[List.length_map,wU,List.take_of_length_le (by rw[List.length_map]; exact Nat.le_refl _)];exact zS 1 (aa 2) rfl
end
theorem jR {n m:Nat}(h:m<n):ixN n (m:Int)=some m:=by unfold ixN;rw[if_pos (by omega),if_pos (by omega)];simp
theorem Qs.of {t b:Int}{q:Rat}{d v:Nat}(hb:0<b)(h:(t:Rat)=q*(b:Rat))(hd:Bd d b)(hv:t.natAbs<=2^v):Qs d v q:=by
 obtain⟨e1,e2⟩:=cD hb h;refine⟨by rw[e2]; exact hd.ediv _,?_⟩;have h1:q.num.natAbs<=t.natAbs:=by rw[e1]; exact Int.natAbs_ediv_le_natAbs ..
 exact Nat.le_trans h1 (Nat.le_trans hv (Nat.le_mul_of_pos_right _ q.den_pos))
noncomputable def sa (M:List (List Rat))(i j:Nat)(q:Rat):List (List Rat):=M.set i ((M.getD i []).set j q)
theorem x4 {M:List (List Rat)}{i:Nat}(hi:i<M.length):cE [i] (cg M)=some (.l (((M.getD i []).map frD).map .d)):=by unfold cg;rw[cE,List.getElem?_map,List.getElem?_eq_getElem hi];simp[cE,hi]
theorem lC {M:List (List Rat)}{i j:Nat}{q:Rat}:cw [i] (cg M) (.l ((((M.getD i []).map frD).set j (frD q)).map .d))=cg (sa M i j q):=by unfold cg sa;simp only[List.map_set];rfl
theorem t9 {M:List (List Rat)}{i j:Nat}(hi:i<M.length)(hj:j<(M.getD i []).length):cE [i,j] (cg M)=some (.d (frD ((M.getD i []).getD j 0))):=by
 unfold cg;rw[cE,List.getElem?_map,List.getElem?_eq_getElem hi];have e:(M.getD i [])=M[i]:=by simp[hi]
 rw[e]at hj ⊢;simp only[Option.map_some,Option.bind_some,cE,List.getElem?_map,List.getElem?_eq_getElem hj];simp[hj]
noncomputable def mkT (R C:Nat)(G:Nat->Nat->Rat):List (List Rat):=(List.range R).map λi=>(List.range C).map (G i)
noncomputable def thW (j c:Nat)(G:Nat->Nat->Rat)(i a:Nat):Rat:=G i a+G i c*G j a/G j c
noncomputable def thS (j c:Nat)(G:Nat->Nat->Rat):Nat->Nat->Rat:=λi a=>if i<j/\a<c/\G j c≠0 then thW j c G i a else G i a
noncomputable def thK (C:Nat)(G:Nat->Nat->Rat):Nat->Nat->Nat->Rat
 | 0=>G
 | k+1=>thS (k/C) (k%C) (thK C G k)
noncomputable def thP (j c i a:Nat)(G:Nat->Nat->Rat):Nat->Nat->Rat:=λx y=>if x<i/\y<c\/x=i/\y<a then thW j c G x y else G x y
theorem fJ (R C:Nat)(G:Nat->Nat->Rat):(mkT R C G).length=R:=by simp[mkT]
theorem gI {R C i:Nat}{G:Nat->Nat->Rat}(hi:i<R):(mkT R C G).getD i []=(List.range C).map (G i):=by simp[mkT,hi]
theorem uU {R C i j:Nat}{G:Nat->Nat->Rat}(hi:i<R)(hj:j<C):((mkT R C G).getD i []).getD j 0=G i j:=by rw[gI hi]; simp[hj]
theorem k5 {R C:Nat}{G H:Nat->Nat->Rat}(h:∀i,i<R->∀j,j<C->G i j=H i j):mkT R C G=mkT R C H:=by unfold mkT;refine List.map_congr_left λi hi=>List.map_congr_left λj hj=>h i (List.mem_range.mp hi) j (List.mem_range.mp hj)
theorem qj {R C:Nat}{G:Nat->Nat->Rat}(r1:1<=R)(r7:R<=7)(c1:1<=C)(c7:C<=7):Tq R C (mkT R C G):=⟨r1,r7,c1,c7,fJ R C G,λr hr=>by
 unfold mkT at hr;obtain⟨i,_,rfl⟩:=List.mem_map.mp hr;simp⟩
theorem me {R C i j:Nat}{G:Nat->Nat->Rat}{q:Rat}(hi:i<R):sa (mkT R C G) i j q=mkT R C λx y=>if x=i/\y=j then q else G x y:=by
 unfold sa;rw[gI hi];unfold mkT;refine List.ext_getElem (by simp) λx h1 h2=>?_;rw[List.getElem_set];by_cases e:i=x
 . subst e;rw[if_pos rfl];simp only[List.getElem_map,List.getElem_range];refine List.ext_getElem (by simp) λy h3 h4=>?_;rw[List.getElem_set];simp only[List.getElem_map,List.getElem_range,true_and];by_cases e:j=y
   . rw[if_pos e,if_pos e.symm]
   . rw[if_neg e,if_neg λz=>e z.symm]
 . rw[if_neg e];simp only[List.getElem_map,List.getElem_range];refine List.map_congr_left λy _=>?_;rw[if_neg λz=>e z.1.symm]
theorem Bg (j c:Nat)(G:Nat->Nat->Rat):thP j c 0 0 G=G:=by funext x y;unfold thP;rw[if_neg (by omega)]
theorem we (j c i:Nat)(G:Nat->Nat->Rat):thP j c i c G=thP j c (i+1) 0 G:=by
 funext x y;unfold thP;by_cases h:x<i/\y<c\/x=i/\y<c
 . rw[if_pos h,if_pos (by omega)]
 . rw[if_neg h,if_neg (by omega)]
theorem wL {j c:Nat}{G:Nat->Nat->Rat}(h0:G j c≠0):thP j c j 0 G=thS j c G:=by
 funext x y;unfold thP thS;by_cases h:x<j/\y<c
 . rw[if_pos (.inl h),if_pos ⟨h.1,h.2,h0⟩]
 . rw[if_neg (by omega),if_neg λz=>h ⟨z.1,z.2.1⟩]
theorem y6 {j c:Nat}{G:Nat->Nat->Rat}(h0:G j c=0):thS j c G=G:=by funext x y;unfold thS;rw[if_neg λz=>z.2.2 h0]
theorem wx {R C j c i a:Nat}{G:Nat->Nat->Rat}(hi:i<R):sa (mkT R C (thP j c i a G)) i a (thW j c G i a)=mkT R C (thP j c i (a+1) G):=by
 rw[me hi];refine k5 λx _ y _=>?_;unfold thP;by_cases e:x=i/\y=a
 . rw[if_pos e,if_pos (.inr ⟨e.1,by omega⟩),e.1,e.2]
 . rw[if_neg e];by_cases h:x<i/\y<c\/x=i/\y<a
   . rw[if_pos h,if_pos (by omega)]
   . rw[if_neg h,if_neg (by omega)]
theorem A6 {j c i a:Nat}{G:Nat->Nat->Rat}(ha:a<c):thP j c i a G i c=G i c:=by unfold thP;rw[if_neg (by omega)]
theorem x9 {j c i a y:Nat}{G:Nat->Nat->Rat}(hi:i<j):thP j c i a G j y=G j y:=by unfold thP;rw[if_neg (by omega)]
theorem zF {j c i a:Nat}{G:Nat->Nat->Rat}:thP j c i a G i a=G i a:=by unfold thP;rw[if_neg (by omega)]
def Cq (w d m:Nat)(r:Nat->Rat):Prop:=∃D:Int,0<D/\D.natAbs<=2^d/\∀a<w,∃z:Int,(z:Rat)=r a*(D:Rat)/\z.natAbs<=2^m
theorem jc {i j:Int}{a b:Nat}(p:i.natAbs<=2^a)(q:j.natAbs<=2^b):(i*j).natAbs<=2^(a+b):=by rw[Int.natAbs_mul,Nat.pow_add]; exact Nat.mul_le_mul p q
section
variable {w d m e u b:Nat}{r p:Nat->Rat}
theorem Cq.qs {a:Nat}(h:Cq w d m r)(ha:a<w):Qs (d+1) m (r a):=by obtain⟨D,h0,h1,h⟩:=h;obtain⟨z,hz,h2⟩:=h a ha;refine Qs.of h0 hz ?_ h2;unfold Bd;rw[Nat.pow_succ];have:=Nat.two_pow_pos d;omega
theorem Cq.mono {d' m':Nat}(h:Cq w d m r)(h1:d<=d')(h2:m<=m'):Cq w d' m' r:=by obtain⟨D,g0,g1,g⟩:=h;refine⟨D,g0,Nat.le_trans g1 (Nat.pow_le_pow_right (by decide) h1),λa ha=>?_⟩;obtain⟨z,hz,h3⟩:=g a ha;exact⟨z,hz,Nat.le_trans h3 (Nat.pow_le_pow_right (by decide) h2)⟩
theorem Cq.step (hr:Cq w d m r)(hp:Cq w e u p)(hb:b<w)(h0:p b≠0):Cq w (d+u) (m+u+1) λa=>if a<b then r a+r b*p a/p b else r a:=by
 obtain⟨D,d0,d1,g⟩:=hr;obtain⟨E,e0,e1,f⟩:=hp;obtain⟨q,hq,q1⟩:=f b hb;obtain⟨zb,hzb,zb1⟩:=g b hb
 have qn:q≠0:=by
   intro z;subst z;rcases Rat.mul_eq_zero.mp (show p b*(E:Rat)=0 from hq.symm) with z | z
   . exact h0 z
   . exact ua e0 z
 have cn:=Rat.inv_mul_cancel (p b) h0
 obtain⟨σ,hσ,hc⟩:∃σ:Int,(σ=1\/σ=-1)/\0<q*σ:=by
   rcases Int.lt_or_lt_of_ne qn with z | z
   . exact⟨-1,.inr rfl,by omega⟩
   . exact⟨1,.inl rfl,by omega⟩
 have σ1:σ.natAbs=1:=by rcases hσ with rfl | rfl <;> rfl
 have cl:(q*σ).natAbs<=2^u:=by rw[Int.natAbs_mul,σ1,Nat.mul_one]; exact q1
 refine⟨D*(q*σ),Int.mul_pos d0 hc,jc d1 cl,λa ha=>?_⟩;obtain⟨za,hza,za1⟩:=g a ha;simp only;by_cases h:a<b
 . obtain⟨qa,hqa,qa1⟩:=f a ha;refine⟨za*(q*σ)+zb*(qa*σ),?_,?_⟩
   . rw[if_pos h,Rat.div_def];simp only[Rat.intCast_mul,Rat.intCast_add];rw[hza,hzb,hqa,hq];grind
   . refine Nat.le_trans (Int.natAbs_add_le _ _) ?_;rw[Nat.pow_succ,Nat.mul_two];exact Nat.add_le_add (jc za1 cl) (jc zb1 (by rw[Int.natAbs_mul,σ1,Nat.mul_one]; exact qa1))
 . refine⟨za*(q*σ),?_,Nat.le_trans (jc za1 cl) (Nat.pow_le_pow_right (by decide) (by omega))⟩;rw[if_neg h];simp only[Rat.intCast_mul];rw[hza];grind
end
noncomputable def thN (C:Nat):Nat->Nat
 | 0=>0
 | k+1=>thN C k+if 0<k/C/\0<k%C then 1 else 0
theorem w9:∀R,R<8->∀C,C<8->∀k,k<R*C+1->thN C k<=(R-1)*(C-1):=by decide +kernel
section
variable {R C d m e u:Nat}{G:Nat->Nat->Rat}
theorem ma:∀(k i:Nat),k/C<=i->thK C G k i=G i
 | 0,_,_=>rfl
 | k+1,i,h=>by have h1:k/C<=(k+1)/C:=Nat.div_le_div_right (Nat.le_succ k);have ih:=ma k i (Nat.le_trans h1 h);rw[<- ih];funext a;show thS (k/C) (k%C) (thK C G k) i a=_;unfold thS;rw[if_neg (by omega)]
theorem vh (hc:0<C)(hp:∀i<R,Cq C e u (G i))(hG:∀i<R,Cq C d m (G i)):∀k,k<=R*C->∀i<R,Cq C (d+u*thN C k) (m+(u+1)*thN C k) (thK C G k i)
 | 0,_,i,hi=>hG i hi
 | k+1,hk,i,hi=>by
   have ih:=vh hc hp hG k (by omega) i hi;have hj:k/C<R:=Nat.div_lt_of_lt_mul (by rw[Nat.mul_comm]; omega);have row:thK C G k (k/C)=G (k/C):=ma k _ (Nat.le_refl _);have hb:k%C<C:=Nat.mod_lt _ hc;show Cq C _ _ (thS (k/C) (k%C) (thK C G k) i);by_cases q:i<k/C/\0<k%C/\thK C G k (k/C) (k%C)≠0
   . have z:0<k/C/\0<k%C:=⟨by omega,q.2.1⟩;have e1:thN C (k+1)=thN C k+1:=by show thN C k+_=_; rw[if_pos z]
     have:=ih.step (p:=thK C G k (k/C)) (by rw[row]; exact hp _ hj) hb q.2.2
     have e2:thS (k/C) (k%C) (thK C G k) i=λa=>if a<k%C then thK C G k i a+thK C G k i (k%C)*thK C G k (k/C) a/thK C G k (k/C) (k%C) else thK C G k i a:=by
       funext a;unfold thS thW;by_cases z:a<k%C
       . rw[if_pos ⟨q.1,z,q.2.2⟩,if_pos z]
       . rw[if_neg λy=>z y.2.1,if_neg z]
     rw[e1,e2];exact this.mono (by rw[Nat.mul_add]; omega) (by rw[Nat.mul_add]; omega)
   . have e2:thS (k/C) (k%C) (thK C G k) i=thK C G k i:=by funext a;unfold thS;rw[if_neg λy=>q ⟨y.1,by omega,y.2.2⟩]
     rw[e2];have:thN C k<=thN C (k+1):=Nat.le_add_right ..;exact ih.mono (Nat.add_le_add_left (Nat.mul_le_mul_left _ this) _) (Nat.add_le_add_left (Nat.mul_le_mul_left _ this) _)
end
theorem Sq.part {n:Nat}{p q t:Rat}(h:t≠0)(sp:Sq n p)(sq:Sq n q)(st:Sq n t):Sq (n+n+n) (p*q/t):=by
 have e:=qX (p:=p) (q:=q) h;have h1:=den_pos p;have h2:=den_pos q;have h3:t.num≠0:=λz=>h (Rat.num_eq_zero.mp z);have b1:=(sp.1.mul sq.1).mul st.2;have b2:=(sp.2.mul sq.2).mul st.1;have b0:((p.den:Nat):Int)*(q.den:Nat)*t.num≠0:=Int.mul_ne_zero (Int.mul_ne_zero (by omega) (by omega)) h3;generalize p.num*q.num*((t.den:Nat):Int)=u at e b1;generalize ((p.den:Nat):Int)*((q.den:Nat):Int)*t.num=v at e b2 b0;rcases Int.lt_or_lt_of_ne b0 with z | z
 . exact Sq.cD (t:=-u) (b:=-v) (by omega) (by rw[Rat.intCast_neg,Rat.intCast_neg,e,Rat.mul_neg]) b1.neg b2.neg
 . exact Sq.cD z e b1 b2
theorem cj {R C i:Nat}{G:Nat->Nat->Rat}(hi:i<R):ixN ((mkT R C G).map λr=>Nd.l ((r.map frD).map .d)).length (i:Int)=some i:=by rw[List.length_map,fJ]; exact jR hi
theorem cI {R C i j:Nat}{G:Nat->Nat->Rat}(hi:i<R)(hj:j<C):ixN ((((mkT R C G).getD i []).map frD).map Nd.d).length (j:Int)=some j:=by rw[List.length_map,List.length_map,gI hi,List.length_map,List.length_range];exact jR hj
theorem mC {R C i j:Nat}{G:Nat->Nat->Rat}(hi:i<R)(hj:j<C):ixN (((mkT R C G).getD i []).map frD).length (j:Int)=some j:=by rw[List.length_map,gI hi,List.length_map,List.length_range];exact jR hj
theorem bJ {R C i:Nat}{G:Nat->Nat->Rat}(hi:i<R):cE [i] (cg (mkT R C G))=some (.l ((((mkT R C G).getD i []).map frD).map .d)):=x4 (by rw[fJ]; exact hi)
theorem bK {R C i j:Nat}{G:Nat->Nat->Rat}{q:Rat}(hi:i<R)(hj:j<C)(e:G i j=q):cE [i,j] (cg (mkT R C G))=some (.d (frD q)):=by rw[t9 (by rw[fJ]; exact hi) (by rw[gI hi,List.length_map,List.length_range]; exact hj),uU hi hj,e]
noncomputable def plD (C k:Nat):D:=.tup [.int ((k/C:Nat):Int),.int ((k%C:Nat):Int)]
noncomputable def rwD (r:List Int):D:=.lst (r.map .int)
noncomputable def tbD (m:List (List Int)):D:=.lst (m.map rwD)
noncomputable def tb (C q:Nat)(g:List Int):List (List Int):=(List.range q).map λi=>(g.drop (i*C)).take C
theorem zi (C q:Nat)(g:List Int):(tb C q g).length=q:=by simp[tb]
theorem yr {C q:Nat}{g:List Int}{i:Nat}(h:i<q):(tb C q g).getD i []=(g.drop (i*C)).take C:=by simp[tb,h]
theorem tE {C q:Nat}{g:List Int}{i j:Nat}(h:i<q)(hj:j<C):((tb C q g).getD i []).getD j 0=g.getD (i*C+j) 0:=by rw[yr h];simp[List.getD,List.getElem?_take,hj,List.getElem?_drop]
theorem AN {C q:Nat}{g:List Int}{i:Nat}(h:i<q)(hg:q*C<=g.length):((tb C q g).getD i []).length=C:=by rw[yr h,List.length_take,List.length_drop];have:(i+1)*C<=q*C:=Nat.mul_le_mul_right C h;rw[Nat.succ_mul]at this;omega
structure Tb (R C:Nat)(f:List Int):Prop where
 r1:1<=R
 r7:R<=7
 c1:1<=C
 c7:C<=7
 len:f.length=R*C
 g:∀{i j:Nat},i<R->j<C->f.getD (i*C+j) 0=1\/(f.getD (i*C+j) 0=0/\¬((∃j',j'<j/\f.getD (i*C+j') 0=1)/\(∃i',i'<i/\f.getD (i'*C+j) 0=1)))
theorem Tb.bit {R C:Nat}{f:List Int}(h:Tb R C f){i j:Nat}(hi:i<R)(hj:j<C):f.getD (i*C+j) 0=1\/f.getD (i*C+j) 0=0:=(h.g hi hj).imp id (·.1)
theorem Tb.yW {R C:Nat}{f:List Int}(h:Tb R C f){i:Nat}(hi:i<R):((tb C R f).getD i []).length=C:=AN hi (by rw[h.len]; exact Nat.le_refl _)
theorem lP {m:List (List Int)}{i:Int}(h0:0<=i)(h:i.toNat<m.length):atI (m.map rwD) i=some (rwD (m.getD i.toNat [])):=by
 obtain⟨n,rfl⟩:=Int.eq_ofNat_of_zero_le h0
 exact aC (by
   have h:n<m.length:=h;simp[h])
theorem x8 {m:List (List Int)}(i:Nat)(h:i<(m.map rwD).length):(m.map rwD)[i]=rwD (m.getD i []):=by
 have:i<m.length:=by simpa using h
 simp[this]
end K49
namespace L2
open PySem PySem.Spec PyProof.Rows
end L2
namespace Hy
open PySem PySem.Spec PyProof.Rows L2
open Ev (D Den aq ai aU aO aM eZ dt PTs cQ da)
end Hy
namespace Hy
open PySem PySem.Spec PyProof.Rows L2
open Ev (D Den aq ai)
end Hy
namespace Hy
open PySem PySem.Spec PyProof.Rows L2
open Ev (D Den aq cQ da)
end Hy
namespace Hy
open PySem PySem.Spec PyProof.Rows L2
open Ev (D Den aq ai)
end Hy
namespace Lc
open PySem PySem.Spec PyProof.Rows L2
open PySem.AutoSeq1 (wpAny_loadPart')
open PySem.MeetsSeq PySem.MeetsSeq2 PySem.MeetsSeq3 PySem.SeqRoads2 PySem.SeqAt
open Ev (D Den aq eqD eV toP)
section
open Ev (cln e8 dep fM cW gx lY mx)
end
end Lc
namespace Hy
open PySem PySem.Spec PyProof.Rows L2
open Ev (D Den aq eV)
end Hy
namespace Hy
open PySem PySem.Spec PyProof.Rows L2
open Ev (D Den aq ai aU aO Ite yQ lG)
end Hy
namespace Hy
open PySem PySem.Spec PyProof.Rows L2
open Ev (D Den aq aO eqD eV e8 cln dep fM)
end Hy
namespace Hy
open PySem PySem.Spec PyProof.Rows L2
open Ev (D Den aq ai aU aO)
noncomputable def par:D->Bool
 | .tup [x,y]=>flat x&&flat y
 | _=>false
section
variable {K:PySem.W.Frag}{A:Addr->Prop}{H₀ H:Hp}{τ:List Sl}{B:Nat->List Addr}{σ:L2.St}
theorem Sta.BN {i j:Nat}{xs:List Nd}{s:Sl}{c:Nd}(S:Sta K A H₀ τ B σ H)(hij:i≠j)(hi:τ[i]?=some (.n (.l xs)))(hj:τ[j]?=some s)(hc:ky s=some c):
   ∃a vs w,(σ[i]?).join=some (.ref a)/\H a=some (.lst vs)/\vs.length=xs.length/\(σ[j]?).join=some w/\∃B',Sta K A H₀ ((τ.set i (.n (.l (xs++[c])))).set j .un) B' σ (upd H a (.lst (vs++[w]))):=by
 obtain⟨nd,u,eu,ok⟩:=S.sl i _ hi;have q:=S.sl j s hj
 obtain⟨w,ew⟩:∃w,(σ[j]?).join=some w:=by
   cases s with
   | un=>cases hc
   | d x=>obtain⟨_,u,e,_⟩:=q; exact⟨u,e⟩
   | o xs=>obtain⟨_,_,_,e,_⟩:=q; exact⟨_,e⟩
   | n t=>obtain⟨_,u,e,_⟩:=q; exact⟨u,e⟩
   | x E=>cases hc
 rw[ew]at q;obtain⟨q1,q2⟩:=q.nd hc;generalize hBi:B i=bi at nd ok;cases ok with
 | @l a vs bs0 _ hH r0=>
   have hlj:=(List.getElem?_eq_some_iff.mp hj).1;have hli:=(List.getElem?_eq_some_iff.mp hi).1
   have mi:∀b,b=a\/b∈bs0->b∈B i:=λb hb=>by
     rw[hBi];rcases hb with z | z
     . rw[z]; exact List.mem_cons_self ..
     . exact List.mem_cons_of_mem _ z
   have dj:∀b,b∈B i->b∉B j:=λb h1 h2=>hij (S.uq i j b h1 h2);have ha:own A B a:=.inr ⟨i,mi a (.inl rfl)⟩
   have mem:∀k b,b∈upB (upB B i (a::(bs0++B j))) j [] k->(k=i/\(b∈B i\/b∈B j))\/(k≠i/\k≠j/\b∈B k):=λk b z=>by
     rcases aP z with ⟨_,z⟩ | ⟨hk,z⟩
     . exact nomatch z
     . rcases aP z with ⟨h1,z⟩ | ⟨h1,z⟩
       . refine .inl ⟨h1,?_⟩;rcases List.mem_cons.mp z with z | z
         . exact .inl (mi b (.inl z))
         . exact(List.mem_append.mp z).elim (λy=>.inl (mi b (.inr y))) .inr
       . exact .inr ⟨h1,hk,z⟩
   have sub:∀b,own A (upB (upB B i (a::(bs0++B j))) j []) b->own A B b:=λb z=>by
     rcases z with z | ⟨k,z⟩
     . exact .inl z
     . rcases mem k b z with ⟨_,z | z⟩ | ⟨_,_,z⟩
       . exact .inr ⟨i,z⟩
       . exact .inr ⟨j,z⟩
       . exact .inr ⟨k,z⟩
   have sm:ah (hd H (own A B)) (hd (upd H a (.lst (vs++[w]))) (own A (upB (upB B i (a::(bs0++B j))) j []))):=λb o z=>by obtain⟨z1,z2⟩:=ag.mp z;exact ag.mpr ⟨λy=>z1 (sub b y),by rw[au λe:b=a=>z1 (e▸ha)]; exact z2⟩
   have f0:H₀ a=none:=S.fr i a (mi a (.inl rfl));have na:a∉bs0:=(List.nodup_cons.mp nd).1;have eBi:upB (upB B i (a::(bs0++B j))) j [] i=a::(bs0++B j):=by unfold upB;rw[if_neg hij,if_pos rfl]
   have eBj:upB (upB B i (a::(bs0++B j))) j [] j=[]:=by unfold upB;rw[if_pos rfl]
   refine⟨a,vs,w,eu,hH,r0.length,ew,upB (upB B i (a::(bs0++B j))) j [],?_⟩;refine⟨λb o z=>by rw[au λe:b=a=>by rw[e,f0]at z; cases z]; exact S.same b o z,by rw[List.length_set,List.length_set,S.len],λk t hk=>?_,λk b hb=>?_,λk l b h1 h2=>?_,S.ad,λk b hb=>?_⟩
   . by_cases ej:k=j
     . subst ej;rw[List.getElem?_set_self (by rw[List.length_set]; exact hlj)]at hk;cases hk;exact eBj
     . rw[List.getElem?_set_ne λz=>ej z.symm]at hk;by_cases ei:k=i
       . subst ei;rw[List.getElem?_set_self hli]at hk;cases hk;rw[eBi];refine⟨List.nodup_cons.mpr ⟨λz=>?_,List.nodup_append.mpr ⟨(List.nodup_cons.mp nd).2,q2,λx hx y hy e=>dj x (mi x (.inr hx)) (e▸hy)⟩⟩,_,eu,.l aB (aQ.snoc (q1.frame sm λb hb=>au λe:b=a=>dj a (mi a (.inl rfl)) (e▸hb)) (r0.frame sm λb hb=>au λe:b=a=>na (e▸hb)))⟩;exact(List.mem_append.mp z).elim na λy=>dj a (mi a (.inl rfl)) y
       . rw[List.getElem?_set_ne λz=>ei z.symm]at hk;have eBk:upB (upB B i (a::(bs0++B j))) j [] k=B k:=by unfold upB;rw[if_neg ej,if_neg ei]
         rw[eBk];exact bY.frame sm (λb hb=>au λe:b=a=>ei (S.uq k i a (e▸hb) (mi a (.inl rfl)))) (S.sl k t hk)
   . rcases mem k b hb with ⟨_,z | z⟩ | ⟨_,_,z⟩
     . exact S.fr i b z
     . exact S.fr j b z
     . exact S.fr k b z
   . rcases mem k b h1 with ⟨e1,z⟩ | ⟨e1,e1',z⟩
     . rcases mem l b h2 with ⟨e2,y⟩ | ⟨e2,e2',y⟩
       . rw[e1,e2]
       . rcases z with z | z
         . exact absurd (S.uq l i b y z) e2
         . exact absurd (S.uq l j b y z) e2'
     . rcases mem l b h2 with ⟨e2,y⟩ | ⟨e2,e2',y⟩
       . rcases y with y | y
         . exact absurd (S.uq k i b z y) e1
         . exact absurd (S.uq k j b z y) e1'
       . exact S.uq k l b z y
   . by_cases e:b=a
     . subst e; exact⟨_,aB⟩
     . rw[au e];rcases mem k b hb with ⟨_,z | z⟩ | ⟨_,_,z⟩
       . exact S.bd i b z
       . exact S.bd j b z
       . exact S.bd k b z
end
end Hy
namespace Hy
open PySem PySem.Spec PyProof.Rows L2
open Ev (D Den aq aD aH ai aU aO eqD eV e8 cln dep fM)
end Hy
namespace Hy
open PySem PySem.Spec PyProof.Rows L2
open Ev (D Den aq ai)
end Hy
namespace Hy
open PySem PySem.Spec PyProof.Rows L2
open Ev (D Den aq ai aU aO)
section
variable {K:PySem.W.Frag}{A:Addr->Prop}{H₀ H H':Hp}{τ:List Sl}{B:Nat->List Addr}{σ:L2.St}
theorem Sta.lD {i j:Nat}{s':Sl}{v:V}{bs:List Addr}(S:Sta K A H₀ τ B σ H)(hij:i≠j)(hi:i<τ.length)(hj:j<τ.length)(e:ah H H')(sub:∀b∈bs,b∈B i\/b∈B j\/H b=none)(al:∀b∈bs,∃o,H' b=some o)
   (ok:∀G,ah (hd H' (own A (upB (upB B i []) j bs))) G->bY K G H' (some v) bs s'):Sta K A H₀ ((τ.set i .un).set j s') (upB (upB B i []) j bs) (σ.set j (some v)) H':=by
 have mem:∀k b,b∈upB (upB B i []) j bs k->(k=j/\b∈bs)\/(k≠i/\k≠j/\b∈B k):=λk b z=>by
   rcases aP z with z | ⟨hk,z⟩
   . exact .inl z
   . rcases aP z with ⟨_,z⟩ | ⟨h1,z⟩
     . exact nomatch z
     . exact .inr ⟨h1,hk,z⟩
 have sub2:∀b o,H b=some o->own A (upB (upB B i []) j bs) b->own A B b:=λb o ho z=>by
   rcases z with z | ⟨k,z⟩
   . exact .inl z
   . rcases mem k b z with ⟨_,z⟩ | ⟨_,_,z⟩
     . rcases sub b z with y | y | y
       . exact .inr ⟨i,y⟩
       . exact .inr ⟨j,y⟩
       . rw[ho]at y; cases y
     . exact .inr ⟨k,z⟩
 have sm:ah (hd H (own A B)) (hd H' (own A (upB (upB B i []) j bs))):=λb o z=>by obtain⟨z1,z2⟩:=ag.mp z;exact ag.mpr ⟨λy=>z1 (sub2 b o z2 y),e b o z2⟩
 have eBj:upB (upB B i []) j bs j=bs:=by unfold upB; rw[if_pos rfl]
 have eBi:upB (upB B i []) j bs i=[]:=by unfold upB; rw[if_neg hij,if_pos rfl]
 have eBk:∀k,k≠i->k≠j->upB (upB B i []) j bs k=B k:=λk h1 h2=>by unfold upB; rw[if_neg h2,if_neg h1]
 refine⟨S.same.trans e,by rw[List.length_set,List.length_set,List.length_set,S.len],λk t hk=>?_,λk b hb=>?_,λk l b h1 h2=>?_,S.ad,λk b hb=>?_⟩
 . by_cases ej:k=j
   . subst ej;rw[List.getElem?_set_self (by rw[List.length_set]; exact hj)]at hk;cases hk;rw[List.getElem?_set_self (by rw[S.len]; exact hj),eBj];exact ok _ (ah.refl _)
   . rw[List.getElem?_set_ne λz=>ej z.symm]at hk;rw[List.getElem?_set_ne λz=>ej z.symm];by_cases ei:k=i
     . subst ei;rw[List.getElem?_set_self hi]at hk;cases hk;exact eBi
     . rw[List.getElem?_set_ne λz=>ei z.symm]at hk;rw[eBk k ei ej];refine bY.frame sm (λb hb=>?_) (S.sl k t hk);obtain⟨o,ho⟩:=S.bd k b hb;rw[ho,e b o ho]
 . rcases mem k b hb with ⟨_,z⟩ | ⟨_,_,z⟩
   . rcases sub b z with y | y | y
     . exact S.fr i b y
     . exact S.fr j b y
     . cases q:H₀ b with
       | none=>rfl
       | some o=>rw[S.same b o q]at y; cases y
   . exact S.fr k b z
 . rcases mem k b h1 with ⟨e1,z⟩ | ⟨e1,e1',z⟩
   . rcases mem l b h2 with ⟨e2,y⟩ | ⟨e2,e2',y⟩
     . rw[e1,e2]
     . rcases sub b z with q | q | q
       . exact absurd (S.uq l i b y q) e2
       . exact absurd (S.uq l j b y q) e2'
       . obtain⟨o,ho⟩:=S.bd l b y;rw[ho]at q; cases q
   . rcases mem l b h2 with ⟨e2,y⟩ | ⟨e2,e2',y⟩
     . rcases sub b y with q | q | q
       . exact absurd (S.uq k i b z q) e1
       . exact absurd (S.uq k j b z q) e1'
       . obtain⟨o,ho⟩:=S.bd k b z;rw[ho]at q; cases q
     . exact S.uq k l b z y
 . rcases mem k b hb with ⟨_,z⟩ | ⟨_,_,z⟩
   . exact al b z
   . obtain⟨o,ho⟩:=S.bd k b z;exact⟨o,e b o ho⟩
end
section
variable {X:Cx}{τ:List Sl}{N:Po}{rest:List Stmt}{xs ys:List Nd}{pos p p2 p3:Pos}{s:Sl}{c t:Nd}
theorem B9 (i j:Nat){n m:Str}(hN:X.N.Nodup)(hr:PSs X rest (dS X.K ((τ.set j .un).set i (.n t)) N))(hj:τ[j]?=some (.n t):=by rfl)(hi:i<τ.length:=by exact Nat.le_of_ble_eq_true rfl)(hij:j≠i:=by decide)(hNi:X.N[i]?=some n:=by rfl)(hNj:X.N[j]?=some m:=by rfl)
   (hv:Vis X.env.scope m:=by first | exact Or.inl rfl | exact Or.inr (Or.inl rfl) | exact Or.inr (Or.inr rfl)) (hl:Loc X.env.scope n:=by first | exact .inl rfl | exact .inr rfl) (hs:swapsWith (.Name m p2) (some (.Name n p)) pos.line X.env=pure false:=by rfl)
   (hf:X.fn n=true\/X.env.scope.names.lookup n=some .local:=by first | exact .inl rfl | exact .inr rfl | assumption) (hd:(m==("__debug__" : Str))=false:=by decide) (hcd:(m==("__classdict__" : Str))=false:=by decide) :
   PSs X (.Assign [.Name n p] (.Name m p2) pos::rest) (dS X.K τ N):=
 bf (M:=(·=(τ.set j .un).set i (.n t))) (psW (js hN hNi hl (bI hNj hv hd hcd) hs hf) λD σ H ⟨A,H₀,B,S,Me⟩=>by
   obtain⟨nd,u,eu,ok⟩:=S.sl j _ hj;have hjl:=(List.getElem?_eq_some_iff.mp hj).1;refine⟨u,slot_of eu,Me.nx _ _ _ _ rfl (S.lD hij hjl hi (ah.refl _) (λb z=>.inl z) (λb z=>S.bd j b z) λG g=>⟨nd,u,rfl,ok.frame (λb o z=>g b o ?_) λ_ _=>rfl⟩)⟩;obtain⟨z1,z2⟩:=ag.mp z;refine ag.mpr ⟨λy=>z1 ?_,z2⟩;rcases y with y | ⟨k,y⟩
   . exact .inl y
   . rcases aP y with ⟨_,y⟩ | ⟨_,y⟩
     . exact .inr ⟨j,y⟩
     . rcases aP y with ⟨_,y⟩ | ⟨_,y⟩
       . exact nomatch y
       . exact .inr ⟨k,y⟩) λ_ e=>e▸hr
theorem rf {A:Addr->Prop}{B:Nat->List Addr}{i j:Nat}{bs:List Addr}{b:Addr}(y:own A (upB (upB B i []) j bs) b):own A B b\/b∈bs:=by
 rcases y with y | ⟨k,y⟩
 . exact .inl (.inl y)
 . rcases aP y with ⟨_,y⟩ | ⟨_,y⟩
   . exact .inr y
   . rcases aP y with ⟨_,y⟩ | ⟨_,y⟩
     . exact nomatch y
     . exact .inl (.inr ⟨k,y⟩)
theorem yS (i j k:Nat){n v:Str}{ip tp sp:Pos}{ix:Expr}{z:Int}(ns:List Nd)(hN:X.N.Nodup)(hr:PSs X rest (dS X.K ((τ.set i .un).set j (.n c)) N))(hx:PE X ix (dE X.K false τ (.d (.int z))))(hk:ixN ns.length z=some k)(hc:ns[k]?=some c)(hi:τ[i]?=some (.n (.l ns)):=by rfl)(hpx:i8 ix:=by exact λ_ _=>rfl)(hj:j<τ.length:=by exact Nat.le_of_ble_eq_true rfl)(hij:i≠j:=by decide)(hNi:X.N[i]?=some v:=by rfl)(hNj:X.N[j]?=some n:=by rfl)
   (hvi:Vis X.env.scope v:=by first | exact Or.inl rfl | exact Or.inr (Or.inl rfl) | exact Or.inr (Or.inr rfl)) (hlj:Loc X.env.scope n:=by first | exact .inl rfl | exact .inr rfl)
   (hs:swapsWith (.Subscript (.Name v ip) ix sp) (some (.Name n tp)) pos.line X.env=pure false:=by rfl)
   (hf:X.fn n=true\/X.env.scope.names.lookup n=some .local:=by first | exact .inl rfl | exact .inr rfl | assumption)
   (hd1:(v==("__debug__" : Str))=false:=by decide) (hd2:(v==("__classdict__" : Str))=false:=by decide) :
   PSs X (.Assign [.Name n tp] (.Subscript (.Name v ip) ix sp) pos::rest) (dS X.K τ N):=by
 have pe:PE X (.Subscript (.Name v ip) ix sp) (dP X.K τ i ([]++[k])):=a8 (t:=.l ns) (xs:=ns) (ba i (h:=hi) (hN:=hNi) (hv:=hvi) (hd:=hd1) (hcd:=hd2)) hx hi rfl hk (hs:=hpx);refine bf (M:=(·=(τ.set i .un).set j (.n c))) (psW (js hN hNj hlj pe hs hf) λD σ H ⟨A,H₀,B,S,Me⟩=>⟨A,H₀,B,S,λu w H1 eu e1 pv=>?_⟩) λ_ e=>e▸hr;obtain⟨a,vs,w',rfl,hh,hw,ew⟩:=pv;obtain rfl:w=w':=ew;have S1:=S.mono e1;obtain⟨nd,u',eu',ok⟩:=S1.sl i _ hi;rw[eu]at eu';cases eu';have hil:=(List.getElem?_eq_some_iff.mp hi).1;generalize hB:B i=bi at nd ok;cases ok with
 | @l _ vs' bs0 _ hH r0=>
   obtain rfl:vs'=vs:=by
     rcases hh with hh | hh
     . rw[hH]at hh; cases hh; rfl
     . rw[hH]at hh; cases hh
   obtain⟨w2,l,m,q,g1,g2,g3,_⟩:=r0.part hc;rw[hw]at g1;cases g1;have ms:∀b,b∈m->b∈B i:=λb hb=>by rw[hB,g2];exact List.mem_cons_of_mem _ (List.mem_append_right _ (List.mem_append_left _ hb))
   have mn:m.Nodup:=by have:=(List.nodup_cons.mp nd).2;rw[g2]at this;exact(List.nodup_append.mp (List.nodup_append.mp this).2.1).1
   refine Me.nx _ _ _ _ rfl (S1.lD hij hil hj (ah.refl _) (λb z=>.inl (ms b z)) (λb z=>S1.bd i b (ms b z)) λG g=>⟨mn,w,rfl,g3.frame (λb o z=>g b o ?_) λ_ _=>rfl⟩);obtain⟨z1,z2⟩:=ag.mp z;exact ag.mpr ⟨λy=>z1 ((rf y).elim id λy=>.inr ⟨i,ms b y⟩),z2⟩
theorem aQ.app {K:PySem.W.Frag}{G H:Hp}{v2:List V}{b2:List Addr}{x2:List Nd}(h:aQ K G H v2 b2 x2):∀{vs:List V} {bs:List Addr} {xs:List Nd},aQ K G H vs bs xs->aQ K G H (vs++v2) (bs++b2) (xs++x2)
 | _,_,_,.nil=>h
 | _,_,_,.cons (b1:=b1) h1 r=>by rw[List.append_assoc]; exact .cons h1 (h.app r)
theorem Ad (i j:Nat){n m:Str}{op1:Pos}(hN:X.N.Nodup)(hl:xs.length+ys.length<1000000)(hr:PSs X rest (dS X.K ((τ.set j .un).set i (.n (.l (xs++ys)))) N))(hi:τ[i]?=some (.n (.l xs)):=by rfl)(hj:τ[j]?=some (.n (.l ys)):=by rfl)(hij:j≠i:=by decide)(hNi:X.N[i]?=some n:=by rfl)(hNj:X.N[j]?=some m:=by rfl)
   (hv:Vis X.env.scope n:=by first | exact Or.inl rfl | exact Or.inr (Or.inl rfl) | exact Or.inr (Or.inr rfl)) (hv':Vis X.env.scope m:=by first | exact Or.inl rfl | exact Or.inr (Or.inl rfl) | exact Or.inr (Or.inr rfl)) (hlc:Loc X.env.scope n:=by first | exact .inl rfl | exact .inr rfl)
   (hs:swapsWith (.BinOp (.Name n p2) .Add (.Name m p3) op1) (some (.Name n p)) pos.line X.env=pure false:=by rfl)
   (hf:X.fn n=true\/X.env.scope.names.lookup n=some .local:=by first | exact .inl rfl | exact .inr rfl | assumption) (hdb:(n==("__debug__" : Str))=false:=by decide) (hcd:(n==("__classdict__" : Str))=false:=by decide) (hd':(m==("__debug__" : Str))=false:=by decide) (hcd':(m==("__classdict__" : Str))=false:=by decide) :
   PSs X (.Assign [.Name n p] (.BinOp (.Name n p2) .Add (.Name m p3) op1) pos::rest) (dS X.K τ N):=
 bf (M:=(·=(τ.set j .un).set i (.n (.l (xs++ys))))) (psW (js hN hNi hlc (vA rG (bI hNi hv hdb hcd) (bI hNj hv' hd' hcd')) hs hf) λD σ H ⟨A,H₀,B,S,Me⟩=>by
   obtain⟨nd1,u1,eu1,ok1⟩:=S.sl i _ hi;obtain⟨nd2,u2,eu2,ok2⟩:=S.sl j _ hj;have hil:=(List.getElem?_eq_some_iff.mp hi).1;have hjl:=(List.getElem?_eq_some_iff.mp hj).1;refine⟨u1,slot_of eu1,u2,slot_of eu2,?_⟩;generalize hB1:B i=bi at nd1 ok1;generalize hB2:B j=bj at nd2 ok2;cases ok1 with
   | @l a1 v1 b1 _ hH1 r1=>cases ok2 with
     | @l a2 v2 b2 _ hH2 r2=>
       refine⟨_,_,_,_,rfl,rfl,SqL.of hH1,SqL.of hH2,by rw[r1.length,r2.length]; exact Nat.le_of_lt (Nat.lt_trans hl (by decide)),λq hq=>?_⟩;have m1:∀b,b∈b1->b∈B i:=λb hb=>by rw[hB1]; exact List.mem_cons_of_mem _ hb
       have m2:∀b,b∈b2->b∈B j:=λb hb=>by rw[hB2]; exact List.mem_cons_of_mem _ hb
       have nq:∀b o,H b=some o->b≠q:=λb o ho z=>by rw[z,hq]at ho; cases ho
       have e:ah H (upd H q (.lst (v1++v2))):=λb o ho=>by rw[au (nq b o ho)]; exact ho
       have al:∀b∈q::(b1++b2),∃o,upd H q (.lst (v1++v2)) b=some o:=λb hb=>by
         rcases List.mem_cons.mp hb with z | z
         . rw[z]; exact⟨_,aB⟩
         . rcases List.mem_append.mp z with z | z
           . obtain⟨o,ho⟩:=S.bd i b (m1 b z); exact⟨o,e b o ho⟩
           . obtain⟨o,ho⟩:=S.bd j b (m2 b z); exact⟨o,e b o ho⟩
       have dq:q∉b1++b2:=λz=>by
         rcases List.mem_append.mp z with z | z
         . obtain⟨o,ho⟩:=S.bd i q (m1 q z); rw[hq]at ho; cases ho
         . obtain⟨o,ho⟩:=S.bd j q (m2 q z); rw[hq]at ho; cases ho
       have dn:(b1++b2).Nodup:=List.nodup_append.mpr ⟨(List.nodup_cons.mp nd1).2,(List.nodup_cons.mp nd2).2,λx hx y hy z=>hij (S.uq j i x (z▸m2 y hy) (m1 x hx))⟩;refine Me.nx _ _ _ _ rfl (S.lD hij hjl hil e (λb hb=>?_) al λG g=>⟨List.nodup_cons.mpr ⟨dq,dn⟩,_,rfl,?_⟩)
       . rcases List.mem_cons.mp hb with z | z
         . exact .inr (.inr (z▸hq))
         . rcases List.mem_append.mp z with z | z
           . exact .inr (.inl (m1 b z))
           . exact .inl (m2 b z)
       . have vw:ah (hd H (own A B)) G:=λb o z=>by
           obtain⟨z1,z2⟩:=ag.mp z;refine g b o (ag.mpr ⟨λy=>?_,e b o z2⟩);rcases rf y with y | y
           . exact z1 y
           . rcases List.mem_cons.mp y with y | y
             . exact nq b o z2 y
             . rcases List.mem_append.mp y with y | y
               . exact z1 (.inr ⟨i,m1 b y⟩)
               . exact z1 (.inr ⟨j,m2 b y⟩)
         exact .l aB ((r2.frame vw λb hb=>by obtain⟨o,ho⟩:=S.bd j b (m2 b hb); exact au (nq b o ho)).app (r1.frame vw λb hb=>by obtain⟨o,ho⟩:=S.bd i b (m1 b hb); exact au (nq b o ho)))) λ_ e=>e▸hr
theorem xf (i j l:Nat){n m u:Str}{ap cp pu spos pos2:Pos}{elt tg it:Expr}{ifs:List Expr}{scope:Scope}{ns:List Nd}{x:D}(hNd:X.N.Nodup)(hl:xs.length<1000000)
   (h:ue X elt tg it ifs scope ((((τ.set i (.n (.l (xs++[c])))).set j .un).set i .un).set j (.d x)) ns) (hx:fzD (.n c)=some x) (f:iU ns=true)
   (hr:PSs X rest (dS X.K (((τ.set i (.n (.l (xs++[c])))).set j .un).set l (.n (.l ns))) N)) (hi:τ[i]?=some (.n (.l xs)):=by rfl) (hj:τ[j]?=some s:=by rfl) (hc:ky s=some c:=by rfl) (hij:i≠j:=by decide) (hN:X.N[i]?=some n:=by rfl) (hM:X.N[j]?=some m:=by rfl)
   (hv:Vis X.env.scope n:=by first | exact Or.inl rfl | exact Or.inr (Or.inl rfl) | exact Or.inr (Or.inr rfl)) (hdb:(n==("__debug__" : Str))=false:=by decide) (hcd:(n==("__classdict__" : Str))=false:=by decide)
   (hv':Vis X.env.scope m:=by first | exact Or.inl rfl | exact Or.inr (Or.inl rfl) | exact Or.inr (Or.inr rfl)) (hd':(m==("__debug__" : Str))=false:=by decide) (hcd':(m==("__classdict__" : Str))=false:=by decide)
   (hfew:((backTo cp (starEach [.Name m p2] X.env)).all (λx=>!x.1)&&(backToKw cp (keywordEach [] X.env)).all (λx=>x.1.isSome)&&decide (([.Name m p2]:List Expr).length+([]:List Keyword).length+(if ([]:List Keyword).isEmpty then 0 else 1)<30))=true:=by rfl)
   (hline:(ap.endLine==cp.line)=true:=by rfl) (hst:starEach [.Name m p2] X.env=(false,eval (.Name m p2) X.env)::starEach [] X.env:=by rfl) (hpl:(backTo cp (starEach [] X.env)).any (·.1)=false:=by rfl)
   (hs:swapsWith (.Call (.Attribute (.Name n p) "append" ap) [.Name m p2] [] cp) none pos.line X.env=pure false:=by rfl) (hbase:attributeBase (.Name n p) "append" X.env (eval (.Name n p) X.env)=eval (.Name n p) X.env:=by rfl)
   (hNl:X.N[l]?=some u:=by rfl) (hll:Loc X.env.scope u:=by first | exact .inl rfl | exact .inr rfl)
   (hsw:swapsWith (.ListComp elt [⟨tg,it,ifs,0⟩] scope pos2) (some (.Name u pu)) spos.line X.env=pure true:=by rfl) (hf:X.fn u=true\/X.env.scope.names.lookup u=some .local:=by first | exact .inl rfl | exact .inr rfl | assumption) :
   PSs X (.Expr (.Call (.Attribute (.Name n p) "append" ap) [.Name m p2] [] cp) pos::.Assign [.Name u pu] (.ListComp elt [⟨tg,it,ifs,0⟩] scope pos2) spos::rest) (dS X.K τ N):=by
 obtain⟨In,caps,N',wi,g1,g2,g3,g4⟩:=h.ex;refine gM (cV (fK (qz PySem.F.plainAttrs_list PySem.F.slot_list_append PySem.F.type_list_append dW (bI hN hv hdb hcd) (b7 (bI hM hv' hd' hcd') eO hst) hbase hfew hline hst hpl) hs) (cV (Ev.gQ (dg (i:=l) hNd hNl hll hf) g1 g2 h.hs g3 hsw) hr)) λD σ H ⟨A,H₀,B,S,Me⟩=>?_;obtain⟨a,vs,w,eu,hH,ln,ew,B',S'⟩:=S.BN hij hi hj hc;refine⟨_,slot_of eu,.inl ⟨rfl,_,SqL.of hH⟩,w,slot_of ew,a,vs,w,rfl,rfl,hH,by rw[ln]; exact Nat.lt_trans hl (by decide),?_⟩;have hil:=(List.getElem?_eq_some_iff.mp hi).1;have hjl:=(List.getElem?_eq_some_iff.mp hj).1;have hi':((τ.set i (.n (.l (xs++[c])))).set j .un)[i]?=some (Sl.n (.l (xs++[c]))):=by rw[List.getElem?_set_ne (Ne.symm hij),List.getElem?_set_self hil]
 obtain⟨nd,u',eu',ok⟩:=S'.sl i _ hi';rw[eu]at eu';cases eu';have hj2:j<((τ.set i (.n (.l (xs++[c])))).set j .un).length:=by rw[List.length_set,List.length_set]; exact hjl
 have den:Den X.K (hd (upd H a (.lst (vs++[w]))) (own A (upB B' i []))) w x:=by
   have sub:∀b,own A (upB B' i []) b->own A B' b:=λb z=>by
     rcases z with z | ⟨k,z⟩
     . exact .inl z
     . rcases aP z with ⟨_,z⟩ | ⟨_,z⟩
       . exact nomatch z
       . exact .inr ⟨k,z⟩
   have ni:∀b,b∈B' i->¬own A (upB B' i []) b:=λb hb z=>by
     rcases z with z | ⟨k,z⟩
     . obtain⟨o,ho⟩:=S'.ad b z;rw[S'.fr i b hb]at ho; cases ho
     . rcases aP z with ⟨_,z⟩ | ⟨h1,z⟩
       . exact nomatch z
       . exact h1 (S'.uq k i b z hb)
   generalize hB:B' i=bi at nd ok;cases ok with
   | @l _ vs' bs0 _ hH' r0=>
     rw[aB]at hH';cases hH';obtain⟨v,l',m',r',q1,q2,q3,_⟩:=r0.part (i:=xs.length) (c:=c) (by simp);have:v=w:=by rw[<- ln]at q1;simpa using q1.symm
     subst this;have ms:∀b,b∈m'->b∈B' i:=λb hb=>by rw[hB,q2];exact List.mem_cons_of_mem _ (List.mem_append_right _ (List.mem_append_left _ hb))
     have mn:m'.Nodup:=by have:=(List.nodup_cons.mp nd).2;rw[q2]at this;exact(List.nodup_append.mp (List.nodup_append.mp this).2.1).1
     have so:bY X.K (hd (upd H a (.lst (vs++[v]))) (own A B')) (upd H a (.lst (vs++[v]))) (some v) m' (.n c):=⟨mn,v,rfl,q3⟩
     obtain⟨u2,e2,d2⟩:=so.den (G':=hd (upd H a (.lst (vs++[v]))) (own A (upB B' i []))) (λb o z=>by
       obtain⟨z1,z2⟩:=ag.mp z;exact ag.mpr ⟨λy=>z1 (sub b y),z2⟩) (λb hb o ho=>ag.mpr ⟨ni b (ms b hb),ho⟩) hx
     cases e2;exact d2
 have S3:=(S'.un i).set (ah.refl _) (i:=j) (v:=w) (s:=.d x) (bs:=[]) (λ_ z=>nomatch z) ⟨rfl,w,rfl,den.mono (λb o z=>by
   obtain⟨z1,z2⟩:=ag.mp z;exact ag.mpr ⟨λy=>y.elim z1 (λy=>nomatch y),z2⟩)⟩
 rw[set_same (slot_of ew)]at S3;show xC (Ev.da In caps wi) (vT l) _ σ (upd H a (.lst (vs++[w])))
 exact g4 true _ _ _ ⟨A,H₀,_,S3,λv H' bs e hf h=>⟨A,H₀,_,S'.set e hf (by
   obtain⟨h0,u,eu,ok⟩:=h;exact⟨h0,u,eu,ok.fl (show qf (.l ns)=true by rw[qf]; exact f)⟩),Me⟩⟩
theorem Cmp.toN {elt tg it:Expr}{ifs:List Expr}{scope:Scope}{zs:List D}(h:Cmp X elt tg it ifs scope τ zs):ue X elt tg it ifs scope τ (zs.map .d):=by obtain⟨In,caps,N,wi,h1,h2,h3,h4⟩:=h.ex;exact⟨⟨In,caps,N,wi,h1,h2,h3,λC σ H Q ⟨A,H₀,B,S,k⟩=>h4 C σ H Q ⟨A,H₀,B,S,λv H' bs e hf h=>k v H' bs e hf ⟨(h.nd rfl).2,v,rfl,(h.nd rfl).1⟩⟩⟩,h.hs⟩
end
end Hy
namespace K49
open PySem PySem.Spec PyProof.Rows L2 Hy
open Ev (D Den aq aD aH)
noncomputable def lgr (one:Bool)(rs:List (List Int)):List (List Int):=rs.flatMap λr=>(if one then [r++[0]] else [])++[r++[1]]
noncomputable def smK (cs:List Bool)(first k:Nat):List (List Int):=((cs.drop (first+1)).take k).foldl (λrs one=>lgr one rs) [List.replicate first 0++[1]]
noncomputable def gy (cs:List Bool)(k:Nat):List (List Int):=List.replicate cs.length 0::(List.range k).flatMap λi=>smK cs i cs.length
noncomputable def opts (cs:List Bool):List (List Int):=gy cs cs.length
theorem l5 (one:Bool):∀rs,(lgr one rs).length<=2*rs.length
 | []=>Nat.le_refl _
 | r::rs=>by have:=l5 one rs;unfold lgr at this ⊢;rw[List.flatMap_cons,List.length_append,List.length_cons];cases one <;> simp at this ⊢ <;> omega
theorem jn {cs:List Bool}{first k:Nat}(h:k<(cs.drop (first+1)).length):smK cs first (k+1)=lgr ((cs.drop (first+1)).getD k false) (smK cs first k):=by unfold smK;rw[take_snoc false h,List.foldl_append];rfl
theorem i6 {cs:List Bool}{first k:Nat}(h:(cs.drop (first+1)).length<=k):smK cs first k=smK cs first cs.length:=by unfold smK;rw[List.take_of_length_le h,List.take_of_length_le (by rw[List.length_drop]; omega)]
theorem gu (cs:List Bool)(first:Nat):∀k,(smK cs first k).length<=2^k
 | 0=>by simp[smK]
 | k+1=>by
   by_cases h:k<(cs.drop (first+1)).length
   . rw[jn h];have:=l5 ((cs.drop (first+1)).getD k false) (smK cs first k);have:=gu cs first k;rw[Nat.pow_succ];omega
   . rw[i6 (by omega),<- i6 (k:=k) (by omega)];have:=gu cs first k;rw[Nat.pow_succ];omega
theorem nO (cs:List Bool)(h:cs.length<=7):∀k,(gy cs k).length<=1+k*128
 | 0=>by simp[gy]
 | k+1=>by have ih:=nO cs h k;have h1:=gu cs k cs.length;have h2:2^cs.length<=2^7:=Nat.pow_le_pow_right (by decide) h;unfold gy at ih ⊢;rw[List.range_succ,List.flatMap_append];simp at ih ⊢;omega
theorem sZ (cs:List Bool)(k:Nat):gy cs (k+1)=gy cs k++smK cs k cs.length:=by unfold gy;rw[List.range_succ,List.flatMap_append];simp
structure OkR (cs:List Bool)(n:Nat)(r:List Int):Prop where
 len:r.length=n
 at_:∀j,j<n->r.getD j 0=1\/(r.getD j 0=0/\((∀j',j'<j->r.getD j' 0=0)\/cs.getD j false=true))
theorem getD_snoc {r:List Int}{x:Int}{j:Nat}:(r++[x]).getD j 0=if j<r.length then r.getD j 0 else if j=r.length then x else 0:=by
 by_cases h:j<r.length
 . rw[if_pos h]; simp[List.getD,List.getElem?_append_left h]
 . rw[if_neg h];by_cases e:j=r.length
   . subst e; simp
   . rw[if_neg e];simp[List.getD];rw[List.getElem?_eq_none (by simp; omega)];rfl
theorem OkR.snoc {cs:List Bool}{n:Nat}{r:List Int}{x:Int}(h:OkR cs n r)(hx:x=1\/x=0/\cs.getD n false=true):OkR cs (n+1) (r++[x]):=by
 refine⟨by rw[List.length_append,h.len]; rfl,λj hj=>?_⟩;rw[getD_snoc,h.len];by_cases e:j<n
 . rw[if_pos e];refine(h.at_ j e).imp id λ⟨z1,z2⟩=>⟨z1,z2.imp (λz j' hj'=>?_) id⟩;rw[getD_snoc,h.len,if_pos (by omega)];exact z j' hj'
 . rw[if_neg e,if_pos (by omega)];obtain rfl:j=n:=by omega
   exact hx.imp id λ⟨z1,z2⟩=>⟨z1,.inr z2⟩
theorem OkR.zeros (cs:List Bool)(n:Nat):OkR cs n (List.replicate n 0):=⟨List.length_replicate,λj hj=>.inr ⟨by simp[hj],.inl λj' hj'=>by simp[(by omega:j'<n)]⟩⟩
theorem pT (cs:List Bool)(first:Nat):∀k,first+1+k<=cs.length->∀r∈smK cs first k,OkR cs (first+1+k) r
 | 0,_,r,hr=>by simp[smK]at hr;subst hr;exact(OkR.zeros cs first).snoc (.inl rfl)
 | k+1,hk,r,hr=>by
   have hl:k<(cs.drop (first+1)).length:=by rw[List.length_drop]; omega
   rw[jn hl]at hr;unfold lgr at hr;rw[List.mem_flatMap]at hr;obtain⟨r0,h0,h1⟩:=hr;have ih:=pT cs first k (by omega) r0 h0;have ec:(cs.drop (first+1)).getD k false=cs.getD (first+1+k) false:=by simp[List.getD,List.getElem?_drop]
   rw[ec]at h1;rcases List.mem_append.mp h1 with z | z
   . cases hc:cs.getD (first+1+k) false with
     | false=>rw[hc]at z; simp at z
     | true=>rw[hc]at z;simp at z;subst z;exact ih.snoc (.inr ⟨rfl,hc⟩)
   . simp at z;subst z;exact ih.snoc (.inl rfl)
theorem xY (cs:List Bool)(r:List Int)(h:r∈opts cs):OkR cs cs.length r:=by
 unfold opts gy at h;rcases List.mem_cons.mp h with rfl | h
 . exact OkR.zeros cs cs.length
 . rw[List.mem_flatMap]at h;obtain⟨i,h1,h2⟩:=h;rw[List.mem_range]at h1;rw[<- i6 (k:=cs.length-(i+1)) (by rw[List.length_drop]; exact Nat.le_refl _)]at h2;have:=pT cs i (cs.length-(i+1)) (by omega) r h2
   rwa [show i+1+(cs.length-(i+1))=cs.length by omega]at this
def fb (ds:List D)(r:Sl):Prop:=∃cs:List Bool,ds=[.lst (cs.map .bl)]/\cs.length<=7/\r=.n (bU (opts cs))
theorem Cw {bs:List Bool}(i:Nat)(h:i<(bs.map D.bl).length):(bs.map D.bl)[i]=.bl (bs.getD i false):=by
 have:i<bs.length:=by simpa using h
 simp[this]
theorem jE {xs:List D}(m:Nat):Hy.cutD xs (some (m:Int)) none=xs.drop m:=by
 unfold Hy.cutD;rw[HT.ee,HT.gU];rcases Nat.le_total m xs.length with h | h
 . rw[Nat.min_eq_left h,List.take_of_length_le (by rw[List.length_drop]; exact Nat.le_refl _)]
 . rw[Nat.min_eq_right h,List.drop_of_length_le (Nat.le_refl _),List.drop_of_length_le h,List.take_nil]
theorem uE {α:Type}(n:Nat)(x:α):(List.range n).map (λ_=>x)=List.replicate n x:=by refine List.ext_getElem (by simp) λi h1 h2=>by simp
theorem qd (m:List (List Int)):fzD (.n (bU m))=some (tbD m):=congrArg some (ud m)
theorem lB (m:List (List Int))(r:List Int):Nd.l (m.map rwN++[rwN r])=bU (m++[r]):=by unfold bU; rw[List.map_append]; rfl
noncomputable def opS (cs:List Bool)(m:List (List Int))(s2 s3 s4 s5 s6:Sl):List Sl:=[.d (.lst (cs.map .bl)),.n (bU m),s2,s3,s4,s5,s6]
section
variable {P:Program}{w:World}{K:PySem.W.Frag}{mg:Str->Option Value}{base:Heap}{k:Nat}{f:Addr}{fd:FuncData}{qual:Str}
set_option maxHeartbeats 1000000 in
theorem mj (F:Fun K "_law_options" qual (top 46) f fd)(hb:∀x∈ar,mg x=none):a4 P w K mg base CX0 (k+1) f fd ["_law_clear"] (spD K fb):=by
 refine fnD F gB hb (by rintro _ _ ⟨_,rfl,_⟩; rfl) ?_;rintro _ _ ⟨cs,rfl,h7,rfl⟩ cdv A outer s H E b;have nd:=gB.nd;have lc:(cs.map D.bl).length=cs.length:=List.length_map ..;refine aI 1 nd (ug (ns:=[rwN (List.replicate cs.length 0)]) (uD (eF (cmp 0 (f:=λ_=>.int 0) b (a6 (aa 0)) Cw (by omega) λi hi s0 H0 fp=>ae)) ?z0 yb)) ?_
 case z0=>rw[lc,uE]; show some (Nd.l _)=some (Nd.l _); rw[List.map_replicate,List.map_replicate,List.map_replicate]
 refine bz 2 (λi τ=>∃s2 s3 s4 s5 s6,τ=opS cs (gy cs i) s2 s3 s4 s5 s6) b nd (cC b (bM b (ab (aa 0) af) ft) (by omega) (by omega)) cB ⟨.un,.un,.un,.un,.un,rfl⟩ (λi hi τ h=>?_) λτ h=>?_
 . obtain⟨s2,s3,s4,s5,s6,rfl⟩:=h;have hi:i<cs.length:=by rw[aw]at hi; omega
   refine aI 3 nd (ug (ns:=[rwN (List.replicate i 0++[1])]) (uD (ql (bG (eF (cmp 0 (f:=λ_=>.int 0) b (cC b (aa 2) (by omega) (by omega)) cB (by rw[aw]; omega) λi hi s0 H0 fp=>ae))) (bG (dB (ab ae af))) ?_) ?z1 yb)) ?_
   . rw[List.length_map,List.length_range,aw]; show _+1<_; omega
   case z1=>rw[aw,uE,Int.toNat_natCast]; show some (Nd.l _)=some (Nd.l _); rw[List.map_append (f:=D.int),List.map_replicate (f:=D.int)]; rfl
   refine bz 4 (g:=λj=>.bl ((cs.drop (i+1)).getD j false)) (λj τ=>∃s4 s5 s6,τ=opS cs (gy cs i) (.d (.int (i:Nat))) (.n (bU (smK cs i j))) s4 s5 s6) b nd (a6 (bG (sA (aa 0) (cJ (aJ (aa 2) ae bE)) iA))) ?_ ⟨s4,s5,s6,rfl⟩ (λj hj τ h=>?_) λτ h=>?_
   . intro j hj;simp only[show (i:Int)+1=((i+1:Nat):Int) by omega,jE,<- List.map_drop]at hj ⊢;exact Cw j hj
   . obtain⟨s4,s5,s6,rfl⟩:=h;have hj:j<(cs.drop (i+1)).length:=by rw[show (i:Int)+1=((i+1:Nat):Int) by omega,jE,<- List.map_drop,List.length_map]at hj; exact hj
     have hj7:j<7:=by rw[List.length_drop]at hj; omega
     have l2:=gu cs i j;have l3:2^j<=2^7:=Nat.pow_le_pow_right (by decide) (by omega);have ll:∀rs,(lgr ((cs.drop (i+1)).getD j false) rs).length<=2*rs.length:=l5 _;have yW:∀l,l<(smK cs i j).length->((smK cs i j).getD l []).length<=7:=λl hl=>by have:=pT cs i j (by rw[List.length_drop]at hj; omega) ((smK cs i j).getD l []) (by simp[hl]);rw[this.len];rw[List.length_drop]at hj;omega
     refine aI 5 nd (dB af) (xn 5 (c:=bU []) ?_);refine pI 3 (x:=tbD (smK cs i j)) ?_ rfl (qd _);refine bz 6 (g:=λl=>rwD ((smK cs i j).getD l [])) (λl τ=>∃s6,τ=opS cs (gy cs i) (.d (.int (i:Nat))) (.d (tbD (smK cs i j))) (.d (.bl ((cs.drop (i+1)).getD j false))) (.n (bU (lgr ((cs.drop (i+1)).getD j false) ((smK cs i j).take l)))) s6) b nd (a6 (aa 3)) x8 ⟨s6,rfl⟩ (λl hl τ h=>?_) λτ h=>?_
     . obtain⟨s6,rfl⟩:=h;have hl:l<(smK cs i j).length:=by simpa using hl
       have rl:=yW l hl;have lt:=ll ((smK cs i j).take l);rw[List.length_take]at lt;have step:lgr ((cs.drop (i+1)).getD j false) ((smK cs i j).take (l+1))=lgr ((cs.drop (i+1)).getD j false) ((smK cs i j).take l)++((if (cs.drop (i+1)).getD j false then [(smK cs i j).getD l []++[0]] else [])++[(smK cs i j).getD l []++[1]]):=by rw[take_snoc [] hl];unfold lgr;rw[List.flatMap_append];simp
       have cat:∀x:Int,ky (.o (((smK cs i j).getD l []).map D.int++[D.int x]))=some (rwN ((smK cs i j).getD l []++[x])):=λx=>by show some (Nd.l _)=some (Nd.l _);rw[List.map_append (f:=D.int)];rfl
       generalize lgr ((cs.drop (i+1)).getD j false) ((smK cs i j).take l)=L at lt step ⊢;rw[step];refine i5 (M:=λτ=>τ=opS cs (gy cs i) (.d (.int (i:Nat))) (.d (tbD (smK cs i j))) (.d (.bl ((cs.drop (i+1)).getD j false))) (.n (bU (L++(if (cs.drop (i+1)).getD j false then [(smK cs i j).getD l []++[0]] else [])))) (.d (rwD ((smK cs i j).getD l [])))) (gD (aa 4)) (λh=>?_) (λh=>?_) λτ h=>?_
       . refine lu (ba 5) (ql (aa 6) (bG (dB (ab ae af))) ?_) rfl rfl (cat 0) ?_ (aR ?_)
         . rw[List.length_map]; show _+1<_; omega
         . rw[List.length_map]; omega
         . rw[h,if_pos rfl];show opS _ _ _ _ _ (Sl.n (Nd.l _)) _=_;rw[lB]
       . refine aR ?_;rw[h,if_neg Bool.false_ne_true,List.append_nil];rfl
       subst h;have le1:(if (cs.drop (i+1)).getD j false then [(smK cs i j).getD l []++[(0:Int)]] else []).length<=1:=by split <;> simp
       refine lu (ba 5) (ql (aa 6) (bG (dB (ab ae af))) ?_) rfl rfl (cat 1) ?_ (aR ?_)
       . rw[List.length_map]; show _+1<_; omega
       . rw[List.length_map,List.length_append]; omega
       . refine⟨.d (rwD ((smK cs i j).getD l [])),?_⟩;show opS _ _ _ _ _ (Sl.n (Nd.l _)) _=_;rw[lB,List.append_assoc]
     . obtain⟨s6,rfl⟩:=h;refine B9 3 5 nd (aR ⟨.d (.bl ((cs.drop (i+1)).getD j false)),.un,s6,?_⟩);rw[jn hj,List.length_map,List.take_of_length_le (Nat.le_refl _)];rfl
   . obtain⟨s4,s5,s6,rfl⟩:=h;have l1:=nO cs h7 i;have l2:=gu cs i cs.length;have l3:2^cs.length<=2^7:=Nat.pow_le_pow_right (by decide) h7;have ej:(Hy.cutD (cs.map D.bl) (some ((i:Int)+1)) none).length=(cs.drop (i+1)).length:=by rw[show (i:Int)+1=((i+1:Nat):Int) by omega,jE,<- List.map_drop,List.length_map]
     rw[ej,i6 (Nat.le_refl _)];refine Ad 1 3 (xs:=(gy cs i).map rwN) (ys:=(smK cs i cs.length).map rwN) nd ?_ (aR ⟨.d (.int (i:Nat)),.un,s4,s5,s6,?_⟩)
     . rw[List.length_map,List.length_map]; omega
     . rw[sZ];unfold opS bU;rw[List.map_append];rfl
 . obtain⟨s2,s3,s4,s5,s6,rfl⟩:=h;rw[aw,Int.toNat_natCast,lc];exact dY 1 rfl
end
noncomputable def pick (cs:List Bool)(p:Int):List Int:=(opts cs).getD (p.fmod ((opts cs).length:Nat)).toNat []
noncomputable def stS (ps:List Int)(C:Nat):Nat->List (List Int)×List Bool
 | 0=>([],List.replicate C true)
 | i+1=>((stS ps C i).1++[pick (stS ps C i).2 (ps.getD i 0)],(List.range C).map λj=>(stS ps C i).2.getD j false&&decide ((pick (stS ps C i).2 (ps.getD i 0)).getD j 0=0))
theorem om (cs:List Bool):0<(opts cs).length:=by simp[opts,gy]
theorem qW (cs:List Bool)(p:Int):0<=p.fmod ((opts cs).length:Nat)/\(p.fmod ((opts cs).length:Nat)).toNat<(opts cs).length:=by have h:=om cs;have h1:=Int.fmod_nonneg_of_pos p (b:=((opts cs).length:Nat)) (by omega);have h2:=Int.fmod_lt_of_pos p (b:=((opts cs).length:Nat)) (by omega);exact⟨h1,by omega⟩
theorem rN (cs:List Bool)(p:Int):OkR cs cs.length (pick cs p):=xY cs _ (by
 have:=(qW cs p).2;unfold pick;simp[this])
structure StI (C i:Nat)(ms:List (List Int))(cs:List Bool):Prop where
 n:ms.length=i
 c:cs.length=C
 row:∀l,l<i->(ms.getD l []).length=C
 ok:∀l,l<i->∀j,j<C->(ms.getD l []).getD j 0=1\/((ms.getD l []).getD j 0=0/\((∀j',j'<j->(ms.getD l []).getD j' 0=0)\/∀l',l'<l->(ms.getD l' []).getD j 0=0))
 clr:∀j,j<C->cs.getD j false=true->∀l,l<i->(ms.getD l []).getD j 0=0
theorem jS {ms:List (List Int)}{r:List Int}{l:Nat}:(ms++[r]).getD l []=if l<ms.length then ms.getD l [] else if l=ms.length then r else []:=by
 by_cases h:l<ms.length
 . rw[if_pos h]; simp[List.getD,List.getElem?_append_left h]
 . rw[if_neg h];by_cases e:l=ms.length
   . subst e; simp
   . rw[if_neg e];simp[List.getD];rw[List.getElem?_eq_none (by simp; omega)];rfl
theorem mH (ps:List Int)(C:Nat):∀i,StI C i (stS ps C i).1 (stS ps C i).2
 | 0=>⟨rfl,List.length_replicate,λ_ h=>absurd h (by omega),λ_ h=>absurd h (by omega),λ_ _ _ _ h=>absurd h (by omega)⟩
 | i+1=>by
   have ih:=mH ps C i;have hp:=rN (stS ps C i).2 (ps.getD i 0);rw[ih.c]at hp;rw[stS];simp only;have old:∀l,l<i->((stS ps C i).1++[pick (stS ps C i).2 (ps.getD i 0)]).getD l []=(stS ps C i).1.getD l []:=λl hl=>by rw[jS,if_pos (by rw[ih.n]; exact hl)]
   have new:((stS ps C i).1++[pick (stS ps C i).2 (ps.getD i 0)]).getD i []=pick (stS ps C i).2 (ps.getD i 0):=by rw[jS,ih.n,if_neg (Nat.lt_irrefl _),if_pos rfl]
   refine⟨by rw[List.length_append,ih.n]; rfl,by simp,λl hl=>?_,λl hl j hj=>?_,λj hj hc l hl=>?_⟩
   . by_cases e:l<i
     . rw[old l e]; exact ih.row l e
     . obtain rfl:l=i:=by omega
       rw[new]; exact hp.len
   . by_cases e:l<i
     . rw[old l e];refine(ih.ok l e j hj).imp id λ⟨z1,z2⟩=>⟨z1,z2.imp id λz l' hl'=>?_⟩;rw[old l' (by omega)];exact z l' hl'
     . obtain rfl:l=i:=by omega
       rw[new];refine(hp.at_ j hj).imp id λ⟨z1,z2⟩=>⟨z1,z2.imp id λz l' hl'=>?_⟩;rw[old l' hl'];exact ih.clr j hj z l' hl'
   . have hc:((stS ps C i).2.getD j false&&decide ((pick (stS ps C i).2 (ps.getD i 0)).getD j 0=0))=true:=by rw[<- hc]; simp[hj]
     rw[Bool.and_eq_true]at hc;by_cases e:l<i
     . rw[old l e]; exact ih.clr j hj hc.1 l e
     . obtain rfl:l=i:=by omega
       rw[new]; exact of_decide_eq_true hc.2
theorem w5 (C q:Nat)(r g:List Int)(h:r.length=C):tb C (q+1) (r++g)=r::tb C q g:=by
 unfold tb;rw[List.range_succ_eq_map,List.map_cons,List.map_map];congr 1
 . rw[Nat.zero_mul,List.drop_zero,<- h,List.take_left]
 . refine List.map_congr_left λi _=>?_;show ((r++g).drop ((i+1)*C)).take C=_;rw[Nat.succ_mul,<- h,Nat.add_comm,<- List.drop_drop,List.drop_left]
theorem qR (C:Nat):∀ms:List (List Int),(∀l,l<ms.length->(ms.getD l []).length=C)->tb C ms.length ms.flatten=ms/\ms.flatten.length=ms.length*C
 | [],_=>⟨rfl,by simp⟩
 | r::ms,h=>by
   obtain⟨i1,i2⟩:=qR C ms λl hl=>by simpa using h (l+1) (by simpa using hl)
   have h0:r.length=C:=h 0 (by simp);rw[List.flatten_cons,List.length_cons,w5 C _ r _ h0,i1,List.length_append,i2,h0,Nat.succ_mul];exact⟨rfl,Nat.add_comm _ _⟩
noncomputable def stF (c:Int)(R C:Nat):List Int:=(stS (nums c (List.replicate R 5040)) C R).1.flatten
theorem tQ (c:Int)(R C:Nat):tb C R (stF c R C)=(stS (nums c (List.replicate R 5040)) C R).1/\(stF c R C).length=R*C:=by have h:=mH (nums c (List.replicate R 5040)) C R;have:=qR C (stS (nums c (List.replicate R 5040)) C R).1 λl hl=>h.row l (by rw[<- h.n]; exact hl);rw[h.n]at this;exact this
theorem vF (c:Int){R C:Nat}(r1:1<=R)(r7:R<=7)(c1:1<=C)(c7:C<=7):Tb R C (stF c R C):=by
 obtain⟨e1,e2⟩:=tQ c R C;have h:=mH (nums c (List.replicate R 5040)) C R;have get:∀{l j:Nat},l<R->j<C->(stF c R C).getD (l*C+j) 0=((stS (nums c (List.replicate R 5040)) C R).1.getD l []).getD j 0:=λhl hj=>by rw[<- tE hl hj,e1]
 refine⟨r1,r7,c1,c7,e2,λ{i j} hi hj=>?_⟩;rw[get hi hj];refine(h.ok _ hi _ hj).imp id λ⟨z1,z2⟩=>⟨z1,λ⟨⟨j',y1,y2⟩,⟨i',y3,y4⟩⟩=>?_⟩;rw[get hi (by omega)]at y2;rw[get (by omega) hj]at y4;rcases z2 with z | z
 . rw[z j' y1]at y2; omega
 . rw[z i' y3]at y4; omega
noncomputable def mkI (R C:Nat)(m:Nat->Nat->Int):List (List Int):=(List.range R).map λi=>(List.range C).map (m i)
theorem b9 (R C:Nat)(m:Nat->Nat->Int):(mkI R C m).length=R:=by simp[mkI]
theorem eG {R C i:Nat}{m:Nat->Nat->Int}(hi:i<R):(mkI R C m).getD i []=(List.range C).map (m i):=by simp[mkI,hi]
theorem ij {R C i j:Nat}{m:Nat->Nat->Int}(hi:i<R)(hj:j<C):((mkI R C m).getD i []).getD j 0=m i j:=by rw[eG hi]; simp[hj]
theorem tL {R C:Nat}{m:Nat->Nat->Int}{M:List (List Int)}(hl:M.length=R)(hr:∀i,i<R->(M.getD i []).length=C)(h:∀i,i<R->∀j,j<C->(M.getD i []).getD j 0=m i j):M=mkI R C m:=by
 refine List.ext_getElem (by rw[b9,hl]) λi h1 h2=>?_;have hi:i<R:=by omega
 have e:M[i]=M.getD i []:=by simp[h1]
 have e2:(mkI R C m)[i]=(List.range C).map (m i):=by simp[mkI]
 rw[e2,e];have l:=hr i hi;have h:=h i hi;clear e e2;generalize M.getD i []=r at l h ⊢;refine List.ext_getElem (by rw[List.length_map,List.length_range]; exact l) λj g1 g2=>?_;rw[List.getElem_map,List.getElem_range,<- h j (by omega)];simp[g1]
noncomputable def stM (c:Int)(R C i j:Nat):Int:=(stF c R C).getD (i*C+j) 0
theorem zp {C R:Nat}{f:List Int}(h:Tb R C f):tb C R f=mkI R C λi j=>f.getD (i*C+j) 0:=tL (zi ..) (λi hi=>h.yW hi) λi hi j hj=>tE hi hj
def iG (ds:List D)(r:Sl):Prop:=∃(c:Int) (R C:Nat),ds=[.int c,.int R,.int C]/\1<=R/\R<=7/\1<=C/\C<=7/\r=.n (bU (mkI R C (stM c R C)))
theorem Bf {bs:List Bool}{ms:List Int}(i:Nat)(h:i<(eW (bs.map D.bl) (ms.map D.int)).length):(eW (bs.map D.bl) (ms.map D.int))[i]=.tup [.bl (bs.getD i false),.int (ms.getD i 0)]:=by rw[lL];rw[cy,List.length_map,List.length_map]at h;simp[show i<bs.length by omega,show i<ms.length by omega]
theorem A8 (r:List Int):fzD (.n (rwN r))=some (rwD r):=by show some (ndD (.l ((r.map D.int).map .d)))=_;rw[ndD,qG];rfl
theorem yn:∀bs:List Bool,iU ((bs.map D.bl).map .d)=true
 | []=>rfl
 | x::xs=>by show (true&&iU _)=true;rw[yn xs];rfl
theorem BH (bs:List Bool):fzD (.n (.l ((bs.map D.bl).map .d)))=some (.lst (bs.map .bl)):=by show some (ndD _)=_;rw[ndD,qG]
noncomputable def srS (c:Int)(R C:Nat)(m:List (List Int))(cs:List Bool)(s5 s6 s7:Sl):List Sl:=[.d (.int c),.d (.int R),.d (.int C),.n (bU m),.d (.lst (cs.map .bl)),s5,s6,s7]
section
variable {P:Program}{w:World}{K:PySem.W.Frag}{mg:Str->Option Value}{base:Heap}{k:Nat}{f:Addr}{fd:FuncData}{qual:Str}
set_option maxHeartbeats 1000000 in
theorem pW (F:Fun K "_law_stair" qual (top 47) f fd)(hb:∀x∈ar,mg x=none)(c_l_numbers:Cal P w K mg base k "_law_numbers" bT)(c_l_options:Cal P w K mg base k "_law_options" fb):a4 P w K mg base CX0 (k+1) f fd ["_law_cell_here","_law_many","_law_wide"] (spD K iG):=by
 refine fnD F j8 hb (by rintro _ _ ⟨_,_,_,rfl,_⟩; rfl) ?_;rintro _ _ ⟨c,R,C,rfl,r1,r7,c1,c7,rfl⟩ cdv A outer s H E b;have nd:=j8.nd;have lr:∀n:Nat,(jB 0 ((n:Int)).toNat).length=n:=λn=>by rw[aw,Int.toNat_natCast]
 have ln:(nums c (List.replicate R 5040)).length=R:=by rw[dR,List.length_replicate]
 refine aI 3 nd (dB af) (xn 3 (c:=bU []) ?_);refine oT 4 nd (cmp 0 (f:=λ_=>.bl true) b (cC b (aa 2) (by omega) (by omega)) cB (by rw[lr]; omega) λi hi s0 H0 fp=>oZ) (.inr rfl) ?_;refine bz 5 (g:=λi=>.int ((nums c (List.replicate R 5040)).getD i 0)) (λi τ=>∃s5 s6 s7,τ=srS c R C (stS (nums c (List.replicate R 5040)) C i).1 (stS (nums c (List.replicate R 5040)) C i).2 s5 s6 s7) b nd (a6 (bG (x_call b c_l_numbers (ab (aa 0) (ab (bG (eF (cmp 0 (f:=λ_=>.int 5040) b (cC b (aa 1) (by omega) (by omega)) cB (by rw[lr]; omega) λi hi s0 H0 fp=>ae))) af)) ⟨c,List.replicate R 5040,?_,?_,?_,rfl⟩))) yc ⟨.un,.un,.un,?_⟩ (λi hi τ h=>?_) λτ h=>?_
 . rw[lr,uE,List.map_replicate]
 . rw[List.length_replicate]; omega
 . intro x hx;rw[List.eq_of_mem_replicate hx];exact vL (by decide) (by decide)
 . rw[lr,uE,<- List.map_replicate (f:=D.bl)];rfl
 . obtain⟨s5,s6,s7,rfl⟩:=h;have hi:i<R:=by rw[List.length_map,ln]at hi; exact hi
   have st:=mH (nums c (List.replicate R 5040)) C i;have pl:=qW (stS (nums c (List.replicate R 5040)) C i).2 ((nums c (List.replicate R 5040)).getD i 0);have po:=rN (stS (nums c (List.replicate R 5040)) C i).2 ((nums c (List.replicate R 5040)).getD i 0);rw[st.c]at po;have e1:(stS (nums c (List.replicate R 5040)) C (i+1)).1=(stS (nums c (List.replicate R 5040)) C i).1++[pick (stS (nums c (List.replicate R 5040)) C i).2 ((nums c (List.replicate R 5040)).getD i 0)]:=rfl;have e2:(stS (nums c (List.replicate R 5040)) C (i+1)).2=(List.range C).map λj=>(stS (nums c (List.replicate R 5040)) C i).2.getD j false&&decide ((pick (stS (nums c (List.replicate R 5040)) C i).2 ((nums c (List.replicate R 5040)).getD i 0)).getD j 0=0):=rfl;rw[e1,e2];have sc:=st.c;have sn:=st.n;have op:=om (stS (nums c (List.replicate R 5040)) C i).2;have pd:pick (stS (nums c (List.replicate R 5040)) C i).2 ((nums c (List.replicate R 5040)).getD i 0)=(opts (stS (nums c (List.replicate R 5040)) C i).2).getD (((nums c (List.replicate R 5040)).getD i 0).fmod ((opts (stS (nums c (List.replicate R 5040)) C i).2).length:Nat)).toNat []:=rfl;generalize (stS (nums c (List.replicate R 5040)) C i).2=cs at pl po sc op pd ⊢;generalize (stS (nums c (List.replicate R 5040)) C i).1=m at sn ⊢;generalize (nums c (List.replicate R 5040)).getD i 0=p at pl po pd ⊢;generalize pick cs p=r at po pd ⊢;refine aI 6 nd (x_call b c_l_options (ab (aa 4) af) ⟨_,rfl,by rw[sc]; exact c7,rfl⟩) ?_;obtain⟨kk,hk⟩:=Int.eq_ofNat_of_zero_le pl.1;rw[hk]at pl pd;have hkk:kk<(opts cs).length:=pl.2;refine yS 6 7 kk (c:=rwN r) ((opts cs).map rwN) nd ?_ (aJ (aa 5) (bM b (ab (y8 6 (s:=.n (bU (opts cs))) (hx:=qd _)) af) (Aa (n:=(opts cs).length) (List.length_map ..))) (eU (by omega))) (by rw[hk]; exact jR (by rw[List.length_map]; exact hkk)) (by rw[pd]; simp[hkk]);have lz:(eW (cs.map D.bl) (r.map D.int)).length=C:=by rw[cy,List.length_map,List.length_map,po.len,sc,Nat.min_self]
   have eb:(List.range (eW (cs.map D.bl) (r.map D.int)).length).map (λj=>D.bl (cs.getD j false&&decide (r.getD j 0=0)))=((List.range C).map λj=>cs.getD j false&&decide (r.getD j 0=0)).map D.bl:=by rw[lz,List.map_map]; rfl
   refine xf 3 7 4 (xs:=m.map rwN) (x:=rwD r) nd (by rw[List.length_map,sn]; omega) (Cmp.toN (zd 0 1 (f:=λj=>.bl (cs.getD j false&&decide (r.getD j 0=0))) b (uS b (aa 4) (aa 7)) Bf (by rw[lz]; omega) λi hi s0 H0 fp=>(nZ (aa 0) λh=>(oy (gX (aa 1) ae ie))))) (A8 r) ?fl ?_
   case fl=>rw[eb]; exact yn _
   refine pI 4 (x:=.lst (((List.range C).map λj=>cs.getD j false&&decide (r.getD j 0=0)).map .bl)) (aR ⟨.d (.int p),.un,.un,?_⟩) rfl (by rw[eb]; exact BH _);unfold srS;rw[<- lB];rfl
 . obtain⟨s5,s6,s7,rfl⟩:=h;rw[List.length_map,ln,<- (tQ c R C).1,zp (vF c r1 r7 c1 c7)];exact dY 3 rfl
end
theorem wA {M:List (List Int)}{i:Nat}(hi:i<M.length):cE [i] (bU M)=some (.l (((M.getD i []).map D.int).map .d)):=by unfold bU;rw[cE,List.getElem?_map,List.getElem?_eq_getElem hi];simp[cE,hi,rwN]
theorem wK {M:List (List Int)}{i j:Nat}{q:Int}:cw [i] (bU M) (.l ((((M.getD i []).map D.int).set j (.int q)).map .d))=bU (M.set i ((M.getD i []).set j q)):=by unfold bU;simp only[List.map_set];show Nd.l _=Nd.l _;unfold rwN;rw[List.map_set,List.map_set];rfl
theorem uh {M:List (List Int)}{i j:Nat}(hi:i<M.length)(hj:j<(M.getD i []).length):cE [i,j] (bU M)=some (.d (.int ((M.getD i []).getD j 0))):=by
 unfold bU;rw[cE,List.getElem?_map,List.getElem?_eq_getElem hi];have e:(M.getD i [])=M[i]:=by simp[hi]
 rw[e]at hj ⊢;simp only[Option.map_some,Option.bind_some,rwN,cE,List.getElem?_map,List.getElem?_eq_getElem hj];simp[hj]
noncomputable def wO (m:Nat->Nat->Int)(i j:Nat)(v:Int):Nat->Nat->Int:=λx y=>if x=i/\y=j then v else m x y
theorem jf {α:Type}{l:List α}{i x:Nat}{v d:α}(hi:i<l.length):(l.set i v).getD x d=if x=i then v else l.getD x d:=by
 by_cases e:x=i
 . subst e;rw[if_pos rfl,List.getD_eq_getElem?_getD,List.getElem?_set_self hi];rfl
 . rw[if_neg e,List.getD_eq_getElem?_getD,List.getElem?_set_ne (Ne.symm e),<- List.getD_eq_getElem?_getD]
theorem wH {R C i j:Nat}{m:Nat->Nat->Int}{v:Int}(hi:i<R)(hj:j<C):(mkI R C m).set i (((mkI R C m).getD i []).set j v)=mkI R C (wO m i j v):=by
 have hl:i<(mkI R C m).length:=by rw[b9]; exact hi
 have hr:((mkI R C m).getD i []).length=C:=by rw[eG hi,List.length_map,List.length_range]
 refine tL (by rw[List.length_set,b9]) (λx hx=>?_) λx hx y hy=>?_
 . rw[jf hl];split
   . rw[List.length_set,hr]
   . rw[eG hx,List.length_map,List.length_range]
 . rw[jf hl];unfold wO;by_cases e:x=i
   . rw[if_pos e,jf (by rw[hr]; exact hj)];by_cases f:y=j
     . rw[if_pos f,if_pos ⟨e,f⟩]
     . rw[if_neg f,if_neg λz=>f z.2,ij hi hy,e]
   . rw[if_neg e,if_neg λz=>e z.1,ij hx hy]
noncomputable def mrB (R C:Nat):List Int:=[4,(R:Int),(C:Int)]++List.replicate (R*C) 2
noncomputable def mrP (c:Int)(R C:Nat):List Int:=nums c (mrB R C)
noncomputable def sQ (c1:Int)(R C:Nat)(p:List Int):Nat->Nat->Int:=if p.getD 0 0=1 then wO (stM c1 R C) (p.getD 1 0).toNat (p.getD 2 0).toNat (1-stM c1 R C (p.getD 1 0).toNat (p.getD 2 0).toNat) else stM c1 R C
noncomputable def mrM (c1 c2:Int)(R C:Nat):Nat->Nat->Int:=if (mrP c2 R C).getD 0 0=2 then λi j=>(mrP c2 R C).getD (3+C*i+j) 0 else sQ c1 R C (mrP c2 R C)
def Bit (R C:Nat)(m:Nat->Nat->Int):Prop:=∀i,i<R->∀j,j<C->m i j=1\/m i j=0
theorem jm {c:Int}{R C:Nat}(r1:1<=R)(c1:1<=C){i:Nat}(h:i<3+R*C):0<=(mrP c R C).getD i 0/\(mrP c R C).getD i 0<(mrB R C).getD i 0:=gO (c:=c) (bs:=mrB R C) (λx hx=>by
 rcases List.mem_append.mp hx with z | z
 . simp only[List.mem_cons,List.not_mem_nil,or_false]at z;omega
 . rw[List.eq_of_mem_replicate z]; decide) (by unfold mrB; rw[List.length_append,List.length_replicate]; show i<3+_; exact h)
theorem Am (c1 c2:Int){R C:Nat}(r1:1<=R)(r7:R<=7)(h1:1<=C)(h7:C<=7):Bit R C (mrM c1 c2 R C):=λi hi j hj=>by
 have st:Bit R C (stM c1 R C):=λi hi j hj=>(vF c1 r1 r7 h1 h7).bit hi hj;unfold mrM;split
 . have hh:C*i+j<R*C:=by have:(i+1)*C<=R*C:=Nat.mul_le_mul_right C hi;rw[Nat.succ_mul,Nat.mul_comm i C]at this;omega
   have q:=jm (c:=c2) r1 h1 (i:=3+C*i+j) (by omega);have e:(mrB R C).getD (3+C*i+j) 0=2:=by unfold mrB;rw[List.getD_eq_getElem?_getD,List.getElem?_append_right (by show 3<=_; omega)];simp[show 3+C*i+j-3<R*C by omega]
   rw[e]at q;show (mrP c2 R C).getD (3+C*i+j) 0=1\/(mrP c2 R C).getD (3+C*i+j) 0=0;omega
 . unfold sQ;split
   . unfold wO;split
     . rcases st (i:=((mrP c2 R C).getD 1 0).toNat) (by have:=jm (c:=c2) r1 h1 (i:=1) (by omega); have:(mrB R C).getD 1 0=R:=rfl; omega) ((mrP c2 R C).getD 2 0).toNat (by have:=jm (c:=c2) r1 h1 (i:=2) (by omega); have:(mrB R C).getD 2 0=C:=rfl; omega) with z | z <;> rw[z] <;> decide
     . exact st i hi j hj
   . exact st i hi j hj
def g8 (ds:List D)(r:Sl):Prop:=∃(ns:List Int) (R C:Nat),ds=[.lst (ns.map .int),.int (R:Nat),.int (C:Nat)]/\1<=R/\R<=7/\1<=C/\C<=7/\r=.n (bU (mkI R C (mrM (ns.getD 1 0) (ns.getD 2 0) R C)))
noncomputable def mrS (ns:List Int)(R C:Nat)(p:List Int)(m:Nat->Nat->Int):List Sl:=[.d (.lst (ns.map .int)),.d (.int (R:Nat)),.d (.int (C:Nat)),.n (bU (mkI R C m)),.d (.lst (p.map .int))]
section
variable {P:Program}{w:World}{K:PySem.W.Frag}{mg:Str->Option Value}{base:Heap}{k:Nat}{f:Addr}{fd:FuncData}{qual:Str}
set_option maxHeartbeats 1000000 in
theorem oW (F:Fun K "_law_marks" qual (top 49) f fd)(hb:∀x∈ar,mg x=none)(c_l_stair:Cal P w K mg base k "_law_stair" iG)(c_l_numbers:Cal P w K mg base k "_law_numbers" bT)(c_l_cell:Cal P w K mg base k "_law_cell" gH):a4 P w K mg base CX0 (k+1) f fd ["_law_script","_law_many","_law_wide"] (spD K g8):=by
 refine fnD F jo hb (by rintro _ _ ⟨_,_,_,rfl,_⟩; rfl) ?_;rintro _ _ ⟨ns,R,C,rfl,r1,r7,c1,c7,rfl⟩ cdv A outer s H E b;have nd:=jo.nd;have rc:R*C<=49:=Nat.mul_le_mul r7 c7;have eRC:(R:Int)*(C:Int)=((R*C:Nat):Int):=by rw[Int.natCast_mul]
 refine aI 3 nd (x_call b c_l_stair (ab (x_call b c_l_cell (ab (aa 0) (ab ae af)) ⟨ns,1,rfl,rfl⟩) (ab (aa 1) (ab (aa 2) af))) ⟨ns.getD 1 0,R,C,rfl,r1,r7,c1,c7,rfl⟩) ?_;refine aI 4 nd (bG (x_call b c_l_numbers (ab (x_call b c_l_cell (ab (aa 0) (ab ae af)) ⟨ns,2,rfl,rfl⟩) (ab (bG (x:=.lst ((mrB R C).map .int)) (ql (bG (dB (ab ae (ab (aa 1) (ab (aa 2) af))))) (bG (eF (cmp 0 (f:=λ_=>.int 2) b (cC (n:=((R*C:Nat):Int)) b (by rw[<- eRC]; exact aJ (aa 1) (aa 2) (aX (mkL (by omega)))) (by omega) (by omega)) cB (by rw[aw]; omega) λi hi s0 H0 fp=>ae))) ?_) ?_) af)) ⟨ns.getD 2 0,mrB R C,rfl,?_,λx hx=>?_,rfl⟩)) ?_
 . rw[List.length_map,List.length_range,aw,Int.toNat_natCast]; show 3+_<_; omega
 . show some (D.lst _)=some (D.lst _);unfold mrB;rw[aw,Int.toNat_natCast,List.map_append,List.map_replicate,uE];rfl
 . unfold mrB; rw[List.length_append,List.length_replicate]; show 3+_<=_; omega
 . have:0<x/\x<8:=by
     rcases List.mem_append.mp hx with z | z
     . simp only[List.mem_cons,List.not_mem_nil,or_false]at z;omega
     . rw[List.eq_of_mem_replicate z]; decide
   exact vL this.1 (by omega)
 have lp:(mrP (ns.getD 2 0) R C).length=3+R*C:=by unfold mrP; rw[dR]; unfold mrB; rw[List.length_append,List.length_replicate]; rfl
 have b1:0<=(mrP (ns.getD 2 0) R C).getD 1 0/\(mrP (ns.getD 2 0) R C).getD 1 0<(R:Int):=jm r1 c1 (i:=1) (by omega);have b2:0<=(mrP (ns.getD 2 0) R C).getD 2 0/\(mrP (ns.getD 2 0) R C).getD 2 0<(C:Int):=jm r1 c1 (i:=2) (by omega);unfold mrM;show PSs _ _ (dS K (mrS ns R C (mrP (ns.getD 2 0) R C) (stM (ns.getD 1 0) R C)) _);generalize mrP (ns.getD 2 0) R C=p at lp b1 b2 ⊢;have pa:∀i:Nat,i<3+R*C->atI (p.map D.int) (i:Int)=some (.int (p.getD i 0)):=λi hi=>atR (by omega);have hi:(p.getD 1 0).toNat<R:=by omega
 have hj:(p.getD 2 0).toNat<C:=by omega
 have ei:p.getD 1 0=(((p.getD 1 0).toNat:Nat):Int):=by omega
 have ej:p.getD 2 0=(((p.getD 2 0).toNat:Nat):Int):=by omega
 refine i5 (M:=λτ=>τ=mrS ns R C p (sQ (ns.getD 1 0) R C p)) (bF (aK (aa 4) ae (a7 (pa 0 (by omega)))) ae ie) (λh=>?_) (λh=>?_) λτ h=>?_
 . have h:=of_decide_eq_true h;have lr:((mkI R C (stM (ns.getD 1 0) R C)).getD (p.getD 1 0).toNat []).length=C:=by rw[eG hi,List.length_map,List.length_range]
   have ir:cE ([]++[(p.getD 1 0).toNat]) (bU (mkI R C (stM (ns.getD 1 0) R C)))=some (.l ((((mkI R C (stM (ns.getD 1 0) R C)).getD (p.getD 1 0).toNat []).map D.int).map .d)):=wA (by rw[b9]; exact hi);have ix1:ixN ((mkI R C (stM (ns.getD 1 0) R C)).map rwN).length (p.getD 1 0)=some (p.getD 1 0).toNat:=by rw[ei]; exact jR (by rw[List.length_map,b9]; exact hi)
   refine oU (pt:=[]++[(p.getD 1 0).toNat]) (t:=bU (mkI R C (stM (ns.getD 1 0) R C))) (ds:=((mkI R C (stM (ns.getD 1 0) R C)).getD (p.getD 1 0).toNat []).map D.int) (j:=(p.getD 2 0).toNat) (x:=.int (1-stM (ns.getD 1 0) R C (p.getD 1 0).toNat (p.getD 2 0).toNat)) (a8 (ba 3) (aK (aa 4) ae (a7 (pa 1 (by omega)))) rfl rfl ix1) (aK (aa 4) ae (a7 (pa 2 (by omega)))) (aJ ae (hV (a8 (a8 (ba 3) (aK (aa 4) ae (a7 (pa 1 (by omega)))) rfl rfl ix1) (aK (aa 4) ae (a7 (pa 2 (by omega)))) rfl ir (by rw[ej]; exact jR (by rw[List.length_map,List.length_map,lr]; exact hj))) rfl (by rw[<- ij (m:=stM (ns.getD 1 0) R C) hi hj]; exact uh (by rw[b9]; exact hi) (by rw[lr]; exact hj))) iX) rfl ir (by rw[ej]; exact jR (by rw[List.length_map,lr]; exact hj)) (aR ?_);show (mrS ns R C p (stM (ns.getD 1 0) R C)).set 3 (Sl.n (cw [(p.getD 1 0).toNat] (bU (mkI R C (stM (ns.getD 1 0) R C))) _))=_;rw[wK,wH hi hj];unfold sQ;rw[if_pos h];rfl
 . unfold sQ;rw[if_neg (of_decide_eq_false h)];exact aR rfl
 subst h;refine i5 (M:=λτ=>τ=mrS ns R C p (if p.getD 0 0=2 then λi j=>p.getD (3+C*i+j) 0 else sQ (ns.getD 1 0) R C p)) (bF (aK (aa 4) ae (a7 (pa 0 (by omega)))) ae ie) (λh=>?_) (λh=>?_) λτ h=>?_
 . have h:=of_decide_eq_true h;rw[if_pos h]
   have cut:∀i,i<R->Hy.cutD (p.map D.int) (some (3+(C:Int)*(i:Int))) (some (3+(C:Int)*((i:Int)+1)))=((List.range C).map λj=>p.getD (3+C*i+j) 0).map D.int:=λi hi=>by
     have ll:3+C*(i+1)<=3+R*C:=by have:(i+1)*C<=R*C:=Nat.mul_le_mul_right C hi;rw[Nat.mul_comm C]; omega
     rw[show 3+(C:Int)*(i:Int)=((3+C*i:Nat):Int) by rw[Int.natCast_add,Int.natCast_mul]; rfl,show 3+(C:Int)*((i:Int)+1)=((3+C*(i+1):Nat):Int) by rw[Int.natCast_add,Int.natCast_mul]; rfl,Hy.rM,<- List.map_take,<- List.map_drop];refine congrArg _ (List.ext_getElem ?_ λj h1 h2=>?_)
     . rw[List.length_drop,List.length_take,lp,List.length_map,List.length_range,Nat.min_eq_left ll,Nat.mul_succ]; omega
     . rw[List.length_map,List.length_range]at h2;rw[Nat.mul_succ]at ll;rw[List.getElem_map,List.getElem_range];simp[List.getElem_drop,List.getElem_take,List.getD_eq_getElem?_getD,show 3+C*i+j<p.length by omega]
   refine lI 3 nd (A9 0 (g:=λi=>.int (i:Nat)) (f:=λi=>rwN ((List.range C).map λj=>p.getD (3+C*i+j) 0)) (S':=λi=>.o (((List.range C).map λj=>p.getD (3+C*i+j) 0).map D.int)) b (cC b (aa 1) (by omega) (by omega)) cB (by rw[aw]; omega) (λi hi s0 H0 fp=>?_) λi hi=>rfl) ?_
   . rw[aw,Int.toNat_natCast]at hi;rw[<- cut i hi];exact sA (aa 1) (cJ (aJ ae (aJ (aa 2) (aa 0) (aX (mkL (by omega)))) bE)) (cJ (aJ ae (aJ (aa 2) (aJ (aa 0) ae bE) (aX (mkL (by omega)))) bE))
   rw[aw,Int.toNat_natCast]
   . refine aR ?_;unfold mrS mkI bU;rw[List.map_map];rfl
 . rw[if_neg (of_decide_eq_false h)];exact aR rfl
 subst h;exact dY 3 rfl
end
def SP (m n:Nat)(A B:Nat->Nat->Rat):Prop:=∀(k:Nat) (ρ γ:Nat->Nat),Inc k ρ->(∀i,i<k->ρ i<m)->Inc k γ->(∀i,i<k->γ i<n)->0<=mi A k ρ γ/\0<=mi B k ρ γ/\(mi A k ρ γ=0↔mi B k ρ γ=0)
theorem yj {m n k:Nat}{A B:Nat->Nat->Rat}{ρ γ:Nat->Nat}(e:∀i,i<m->∀j,j<n->A i j=B i j)(h2:∀i,i<k->ρ i<m)(h4:∀i,i<k->γ i<n):mi A k ρ γ=mi B k ρ γ:=aj λi hi j hj=>e _ (h2 i hi) _ (h4 j hj)
theorem SP.congr {m n:Nat}{A B A' B':Nat->Nat->Rat}(h:SP m n A B)(e:∀i,i<m->∀j,j<n->A i j=A' i j)(e':∀i,i<m->∀j,j<n->B i j=B' i j):SP m n A' B':=λk ρ γ h1 h2 h3 h4=>by rw[<- yj e h2 h4,<- yj e' h2 h4];exact h k ρ γ h1 h2 h3 h4
theorem nK {k p:Nat}{M:Nat->Nat->Rat}(hp:p<k)(h:∀c,c<k->M p c=0):det k M=0:=by
 rw[<- (cL k).B8 M hp];refine aj λi hi j hj=>?_;unfold ao;split
 . rename_i z; rw[z]; exact h j hj
 . rfl
theorem jw {k q:Nat}{M:Nat->Nat->Rat}(hq:q<k)(h:∀r,r<k->M r q=0):det k M=0:=by rw[<- b5];exact nK hq h
noncomputable def cs (w:Rat)(h t:Nat)(A:Nat->Nat->Rat):Nat->Nat->Rat:=λi j=>if j=h then A i h+w*A i t else A i j
theorem Cd {m n k h t:Nat}{γ:Nat->Nat}(ht:h<t)(tn:t<n)(h3:Inc k γ)(h4:∀i,i<k->γ i<n):
   (∀(A:Nat->Nat->Rat) (w:Rat) (ρ:Nat->Nat),(∀i,i<k->ρ i<m)->(∀i,i<m->∀c,h<c->c<t->A i c=0)->mi (cs w h t A) k ρ γ=mi A k ρ γ) \/
   ∃γ':Nat->Nat,Inc k γ'/\(∀i,i<k->γ' i<n)/\∀(A:Nat->Nat->Rat) (w:Rat) (ρ:Nat->Nat),mi (cs w h t A) k ρ γ=mi A k ρ γ+w*mi A k ρ γ':=by
 by_cases ex:∃c,c<k/\γ c=h
 . obtain⟨c0,hc,ec⟩:=ex
   have e1:∀(A:Nat->Nat->Rat) (w:Rat) (ρ:Nat->Nat),mi (cs w h t A) k ρ γ=mi A k ρ γ+w*mi A k ρ λc=>if c=c0 then t else γ c:=λA w ρ=>by
     have e1:mi (cs w h t A) k ρ γ=det k (aE (λr c=>A (ρ r) (γ c)) c0 λr=>1*A (ρ r) h+w*A (ρ r) t):=aj λi hi j hj=>by
       show (if γ j=h then A (ρ i) h+w*A (ρ i) t else A (ρ i) (γ j))=if j=c0 then 1*A (ρ i) h+w*A (ρ i) t else A (ρ i) (γ j);by_cases z:j=c0
       . rw[if_pos z,if_pos (by rw[z]; exact ec),Rat.one_mul]
       . rw[if_neg z,if_neg (by rw[<- ec]; exact h3.ne hj hc z)]
     rw[e1,fq _ hc 1 w,Rat.one_mul]
     have e2:det k (aE (λr c=>A (ρ r) (γ c)) c0 λr=>A (ρ r) h)=mi A k ρ γ:=aj λi hi j hj=>by
       show (if j=c0 then A (ρ i) h else A (ρ i) (γ j))=A (ρ i) (γ j);split
       . rename_i z; rw[z,ec]
       . rfl
     have e3:det k (aE (λr c=>A (ρ r) (γ c)) c0 λr=>A (ρ r) t)=mi A k ρ λc=>if c=c0 then t else γ c:=aj λi hi j hj=>by
       show (if j=c0 then A (ρ i) t else A (ρ i) (γ j))=A (ρ i) (if j=c0 then t else γ j);by_cases z:j=c0
       . rw[if_pos z,if_pos z]
       . rw[if_neg z,if_neg z]
     rw[e2,e3]
   by_cases ey:∃c,c<k/\h<γ c/\γ c<=t
   . obtain⟨c1,hc1,l1,l2⟩:=ey;have ne:c1≠c0:=λz=>by rw[z,ec]at l1; omega
     refine .inl λA w ρ hρ hz=>?_;rw[e1]
     have:mi A k ρ (λc=>if c=c0 then t else γ c)=0:=by
       by_cases z:γ c1=t
       . refine dU hc hc1 (Ne.symm ne) λr=>?_;show A (ρ r) (if c0=c0 then t else γ c0)=A (ρ r) (if c1=c0 then t else γ c1);rw[if_pos rfl,if_neg ne,z]
       . refine jw hc1 λr hr=>?_;show A (ρ r) (if c1=c0 then t else γ c1)=0;rw[if_neg ne];exact hz _ (hρ r hr) _ l1 (by omega)
     rw[this,Rat.mul_zero,Rat.add_zero]
   . refine .inr ⟨λc=>if c=c0 then t else γ c,λi hi=>?_,λi hi=>?_,e1⟩
     . have:=h3 i hi;have n2:¬(h<γ (i+1)/\γ (i+1)<=t):=λz=>ey ⟨i+1,by omega,z.1,z.2⟩;show (if i=c0 then t else γ i)<if i+1=c0 then t else γ (i+1);by_cases z:i=c0
       . rw[if_pos z,if_neg (by omega)];rw[z]at this n2 ⊢;omega
       . by_cases z':i+1=c0
         . rw[if_neg z,if_pos z'];rw[z']at this;omega
         . rw[if_neg z,if_neg z'];exact this
     . show (if i=c0 then t else γ i)<n;split
       . exact tn
       . exact h4 i hi
 . refine .inl λA w ρ _ _=>aj λi hi j hj=>if_neg λz=>ex ⟨j,hj,z⟩
theorem Bu {a b x y:Rat}(ha:0<=a)(hb:0<b)(hx:0<=x)(e:a+b*x=0):a=0/\x=0:=by
 have p:0<=b*x:=Rat.mul_nonneg (Rat.le_of_lt hb) hx;have a0:a=0:=Rat.le_antisymm (by rw[<- e]; have:=(Rat.add_le_add_left (c:=a)).mpr p; rwa [Rat.add_zero]at this) ha;refine⟨a0,?_⟩;rw[a0,Rat.zero_add]at e;rcases Rat.mul_eq_zero.mp e with z | z
 . rw[z]at hb; exact absurd hb (Rat.lt_irrefl)
 . exact z
theorem SP.col {m n h t:Nat}{A B:Nat->Nat->Rat}{w v:Rat}(H:SP m n A B)(hw:0<w)(hv:0<v)(ht:h<t)(tn:t<n)(zA:∀i,i<m->∀c,h<c->c<t->A i c=0)(zB:∀i,i<m->∀c,h<c->c<t->B i c=0):SP m n (cs w h t A) (cs v h t B):=λk ρ γ h1 h2 h3 h4=>by
 rcases Cd (m:=m) ht tn h3 h4 with e | ⟨γ',g1,g2,e⟩
 . rw[e A w ρ h2 zA,e B v ρ h2 zB];exact H k ρ γ h1 h2 h3 h4
 . rw[e A w ρ,e B v ρ];obtain⟨a1,b1,i1⟩:=H k ρ γ h1 h2 h3 h4;obtain⟨a2,b2,i2⟩:=H k ρ γ' h1 h2 g1 g2;refine⟨Rat.add_nonneg a1 (Rat.mul_nonneg (Rat.le_of_lt hw) a2),Rat.add_nonneg b1 (Rat.mul_nonneg (Rat.le_of_lt hv) b2),λz=>?_,λz=>?_⟩
   . obtain⟨x,y⟩:=Bu (y:=0) a1 hw a2 z;rw[i1.mp x,i2.mp y,Rat.mul_zero,Rat.add_zero]
   . obtain⟨x,y⟩:=Bu (y:=0) b1 hv b2 z;rw[i1.mpr x,i2.mpr y,Rat.mul_zero,Rat.add_zero]
noncomputable def er (m b:Nat)(x:Rat)(A:Nat->Nat->Rat):Nat->Nat->Rat:=λi j=>if i=m then (if j=b then x else 0) else A i j
theorem B5 {m n k b:Nat}{ρ γ:Nat->Nat}(h1:Inc (k+1) ρ)(hρ:∀i,i<k+1->ρ i<m+1)(em:ρ k=m)(h3:Inc (k+1) γ)(h4:∀i,i<k+1->γ i<n):
   (∀(A:Nat->Nat->Rat) (x:Rat),(∀i,i<m->∀c,b<c->c<n->A i c=0)->mi (er m b x A) (k+1) ρ γ=0) \/
   ∀(A:Nat->Nat->Rat) (x:Rat),mi (er m b x A) (k+1) ρ γ=mi A k ρ γ*x:=by
 have lt:∀i,i<k->ρ i<m:=λi hi=>by have:=h1.mono hi (show k<k+1 by omega); omega
 by_cases z:γ k=b
 . refine .inr λA x=>?_
   have hb:=iC 1 k (λr c=>er m b x A (ρ r) (γ c)) λi hi hi2 j hj=>by
     have:i=k:=by omega
     subst this;show er m b x A (ρ i) (γ j)=0;unfold er;have:=h3.mono hj (show i<i+1 by omega);rw[if_pos em,if_neg (by omega)]
   refine Eq.trans (b:=det (k+1) λr c=>er m b x A (ρ r) (γ c)) rfl (hb.trans ?_);rw[fG];show _*er m b x A (ρ k) (γ k)=_;have e1:er m b x A (ρ k) (γ k)=x:=by unfold er; rw[if_pos em,if_pos z]
   have e2:det k (λr c=>er m b x A (ρ r) (γ c))=mi A k ρ γ:=aj λi hi j _=>by show er m b x A (ρ i) (γ j)=A (ρ i) (γ j);unfold er;rw[if_neg (by have:=lt i hi; omega)]
   rw[e1,e2]
 . refine .inl λA x hz=>?_;rcases Nat.lt_or_ge b (γ k) with y | y
   . refine jw (q:=k) (by omega) λr hr=>?_;show er m b x A (ρ r) (γ k)=0;unfold er;by_cases q:ρ r=m
     . rw[if_pos q,if_neg (by omega)]
     . rw[if_neg q];exact hz _ (by have:=hρ r hr; omega) _ y (h4 k (by omega))
   . refine nK (p:=k) (by omega) λc hc=>?_;show er m b x A (ρ k) (γ c)=0;unfold er
     have:γ c<=γ k:=by
       rcases Nat.lt_or_ge c k with u | u
       . have:=h3.mono u (show k<k+1 by omega); omega
       . rw[show c=k by omega]; exact Nat.le_refl _
     rw[if_pos em,if_neg (by omega)]
theorem SP.row {m n b:Nat}{A B:Nat->Nat->Rat}{x y:Rat}(H:SP m n A B)(hx:0<=x)(hy:0<=y)(xy:x=0↔y=0)(zA:∀i,i<m->∀c,b<c->c<n->A i c=0)(zB:∀i,i<m->∀c,b<c->c<n->B i c=0):SP (m+1) n (er m b x A) (er m b y B):=λk ρ γ h1 h2 h3 h4=>by
 by_cases q:∀i,i<k->ρ i<m
 . have e:∀(A:Nat->Nat->Rat) (x:Rat),mi (er m b x A) k ρ γ=mi A k ρ γ:=λA x=>aj λi hi j _=>by show (if ρ i=m then _ else A (ρ i) (γ j))=_;rw[if_neg (by have:=q i hi; omega)]
   rw[e,e];exact H k ρ γ h1 q h3 h4
 . cases k with
   | zero=>exact absurd (λi hi=>absurd hi (Nat.not_lt_zero i)) q
   | succ k=>
     have em:ρ k=m:=by
       have hk:=h2 k (by omega);rcases Nat.lt_or_ge (ρ k) m with u | u
       . refine absurd (λi hi=>?_) q;rcases Nat.lt_or_ge i k with v | v
         . have:=h1.mono v (show k<k+1 by omega); omega
         . rw[show i=k by omega]; exact u
       . omega
     rcases B5 (n:=n) (b:=b) h1 h2 em h3 h4 with e | e
     . rw[e A x zA,e B y zB];exact⟨Rat.le_refl,Rat.le_refl,Iff.rfl⟩
     . rw[e A x,e B y];obtain⟨a1,b1,i1⟩:=H k ρ γ (h1.le (by omega)) (λi hi=>by have:=h1.mono hi (show k<k+1 by omega); omega) (h3.le (by omega)) λi hi=>h4 i (by omega);refine⟨Rat.mul_nonneg a1 hx,Rat.mul_nonneg b1 hy,?_⟩;rw[Rat.mul_eq_zero,Rat.mul_eq_zero,i1,xy]
noncomputable def suB (d h:Nat->Rat)(a:Nat):Nat->Rat:=aG λc=>if a<c/\d c≠0 then h c/d c else 0
theorem mQ {C j:Nat}{G:Nat->Nat->Rat}:∀b,b<=C->∀i a,thK C G (j*C+b) i a=if i<j then thK C G (j*C) i a+G j a*suB (G j) (thK C G (j*C) i) a b else G i a
 | 0,_,i,a=>by
   by_cases h:i<j
   . rw[if_pos h];show _=_+_*(0:Rat);rw[Rat.mul_zero,Rat.add_zero];rfl
   . rw[if_neg h];rcases Nat.eq_zero_or_pos C with z | z
     . subst z;rw[Nat.mul_zero];rfl
     . rw[ma _ _ (by rw[Nat.add_zero,Nat.mul_div_cancel _ z]; omega)]
 | b+1,hb,i,a=>by
   have ih:=mQ (C:=C) (G:=G) (j:=j) b (by omega);have e1:(j*C+b)/C=j:=by rw[Nat.mul_comm,Nat.mul_add_div (by omega),Nat.div_eq_of_lt (by omega),Nat.add_zero]
   have e2:(j*C+b)%C=b:=by rw[Nat.mul_comm,Nat.mul_add_mod,Nat.mod_eq_of_lt (by omega)]
   show thS ((j*C+b)/C) ((j*C+b)%C) (thK C G (j*C+b)) i a=_;rw[e1,e2];generalize thK C G (j*C+b)=V at ih ⊢;have vj:∀a,V j a=G j a:=λa=>by rw[ih,if_neg (by omega)]
   unfold thS thW;by_cases h:i<j
   . rw[vj,vj,ih i a,ih i b,if_pos h,if_pos h,if_pos h];have z:suB (G j) (thK C G (j*C) i) b b=0:=ck λc hc=>if_neg λz=>by have:=z.1; omega
     have st:suB (G j) (thK C G (j*C) i) a (b+1)=suB (G j) (thK C G (j*C) i) a b+if a<b/\G j b≠0 then thK C G (j*C) i b/G j b else 0:=rfl;rw[z,st];by_cases q:a<b/\G j b≠0
     . rw[if_pos ⟨h,q⟩,if_pos q];simp only[Rat.div_def];grind
     . rw[if_neg λz=>q z.2,if_neg q,Rat.add_zero]
   . rw[if_neg λz=>h z.1,ih,if_neg h,if_neg h]
noncomputable def bB (j C:Nat)(d:Nat->Rat)(H:Nat->Nat->Rat)(b:Nat):Nat->Nat->Rat:=λi a=>if i=j then (if b<=a then d a else 0) else if b<=a then H i a+d a*suB d (H i) a C else H i a
theorem least {p:Nat->Prop}:∀n,p n->∃m,m<=n/\p m/\∀l,l<m->¬p l:=λn=>by
 induction n using Nat.strongRecOn with
 | ind n ih=>
   intro h;by_cases e:∃l,l<n/\p l
   . obtain⟨l,h1,h2⟩:=e;obtain⟨m,g1,g2⟩:=ih l h1 h2;exact⟨m,by omega,g2⟩
   . exact⟨n,Nat.le_refl _,h,λl hl hp=>e ⟨l,hl,hp⟩⟩
theorem uX {d h:Nat->Rat}{a n C:Nat}(an:a<n)(nC:n<C)(hn:d n≠0)(hz:∀c,a<c->c<n->d c=0):suB d h a C=h n/d n+suB d h n C:=by
 unfold suB;rw[<- cu (λ_=>h n/d n) n C nC,<- fE];refine aA λc hc=>?_;unfold dq;rcases Nat.lt_or_ge c n with z | z
 . rw[if_neg (by rintro⟨y,q⟩; exact q (hz c y z)),if_neg (by omega),if_neg (by omega),Rat.mul_zero,Rat.add_zero]
 . by_cases e:c=n
   . rw[e,if_pos ⟨an,hn⟩,if_pos rfl,if_neg (by omega),Rat.mul_one,Rat.add_zero]
   . rw[if_neg e,Rat.mul_zero,Rat.zero_add];by_cases q:d c≠0
     . rw[if_pos ⟨by omega,q⟩,if_pos ⟨by omega,q⟩]
     . rw[if_neg λz=>q z.2,if_neg λz=>q z.2]
def Zc (j C:Nat)(d:Nat->Rat)(H:Nat->Nat->Rat):Prop:=∀b c,b<c->c<C->d b≠0->d c=0->∀i,i<j->H i c=0
theorem wa {j C b:Nat}{d:Nat->Rat}{H:Nat->Nat->Rat}(no:∀n,b<n->n<C->d n=0):∀i a,a<C->er j b (d b) H i a=bB j C d H b i a:=λi a ha=>by
 unfold er bB;by_cases y:i=j
 . rw[if_pos y,if_pos y];by_cases z:a=b
   . rw[if_pos z,z,if_pos (Nat.le_refl _)]
   . rw[if_neg z];by_cases u:b<=a
     . rw[if_pos u,no a (by omega) ha]
     . rw[if_neg u]
 . rw[if_neg y,if_neg y];by_cases u:b<=a
   . rw[if_pos u];have:suB d (H i) a C=0:=ck λc hc=>if_neg (by rintro⟨z,w⟩; exact w (no c (by omega) hc));rw[this,Rat.mul_zero,Rat.add_zero]
   . rw[if_neg u]
theorem vz {j C b:Nat}{d:Nat->Rat}{H:Nat->Nat->Rat}(h:d b=0):bB j C d H (b+1)=bB j C d H b:=by
 funext i a;unfold bB;by_cases z:a=b
 . have n1:¬b+1<=b:=by omega
   rw[z,if_neg n1,if_neg n1,if_pos (Nat.le_refl b),if_pos (Nat.le_refl b),h,Rat.zero_mul,Rat.add_zero]
 . by_cases u:b<=a
   . have n1:b+1<=a:=by omega
     rw[if_pos u,if_pos u,if_pos n1,if_pos n1]
   . have n1:¬b+1<=a:=by omega
     rw[if_neg u,if_neg u,if_neg n1,if_neg n1]
theorem tM {j C b n:Nat}{d:Nat->Rat}{H:Nat->Nat->Rat}(bn:b<n)(nC:n<C)(hn:d n≠0)(hz:∀c,b<c->c<n->d c=0):cs (d b/d n) b n (bB j C d H (b+1))=bB j C d H b:=by
 funext i a;unfold cs;by_cases z:a=b
 . subst z;rw[if_pos rfl];unfold bB;have n1:¬a+1<=a:=by omega
   have n2:a+1<=n:=by omega
   rw[if_neg n1,if_neg n1,if_pos n2,if_pos n2,if_pos (Nat.le_refl a),if_pos (Nat.le_refl a)];by_cases y:i=j
   . rw[if_pos y,if_pos y,if_pos y,Rat.zero_add,Rat.div_def,Rat.mul_assoc,Rat.inv_mul_cancel _ hn,Rat.mul_one]
   . rw[if_neg y,if_neg y,if_neg y,uX bn nC hn hz,Rat.div_def,Rat.div_def];have:=Rat.inv_mul_cancel _ hn;grind
 . rw[if_neg z];unfold bB;by_cases u:b<=a
   . have n1:b+1<=a:=by omega
     rw[if_pos u,if_pos u,if_pos n1,if_pos n1]
   . have n1:¬b+1<=a:=by omega
     rw[if_neg u,if_neg u,if_neg n1,if_neg n1]
theorem yx {j C b n:Nat}{d:Nat->Rat}{H:Nat->Nat->Rat}(Z:Zc j C d H)(nC:n<C)(hb:d b≠0)(hz:∀c,b<c->c<n->d c=0):∀i,i<j+1->∀c,b<c->c<n->bB j C d H (b+1) i c=0:=λi hi c h1 h2=>by
 unfold bB;by_cases y:i=j
 . rw[if_pos y,if_pos (by omega),hz c h1 h2]
 . rw[if_neg y,if_pos (by omega),hz c h1 h2,Rat.zero_mul,Rat.add_zero];exact Z b c h1 (by omega) hb (hz c h1 h2) i (by omega)
theorem uz {a b:Rat}(ha:0<a)(hb:0<b):0<a/b:=by rw[Rat.div_def];exact Rat.mul_pos ha (Rat.inv_pos.mpr hb)
theorem pA {a:Rat}(h:0<=a)(n:a≠0):0<a:=by
 rcases Rat.le_iff_lt_or_eq.mp h with z | z
 . exact z
 . exact absurd z.symm n
theorem SP.yp {j C:Nat}{d d':Nat->Rat}{H H':Nat->Nat->Rat}(S:SP j C H H')(p:∀a,a<C->0<=d a/\0<=d' a/\(d a=0↔d' a=0))(Z:Zc j C d H)(Z':Zc j C d' H'):∀t b,b+t=C->SP (j+1) C (bB j C d H b) (bB j C d' H' b)
 | 0,b,e=>by
   have hb:b=C:=e;subst hb;have h:=S.row (b:=b) (x:=0) (y:=0) Rat.le_refl Rat.le_refl Iff.rfl (λi _ c h1 h2=>by omega) (λi _ c h1 h2=>by omega)
   have:∀(d:Nat->Rat) (H:Nat->Nat->Rat) (i:Nat),i<j+1->∀a,a<b->er j b 0 H i a=bB j b d H b i a:=λd H i _ a ha=>by
     unfold er bB;have n1:¬b<=a:=by omega
     rw[if_neg n1,if_neg n1,if_neg (show ¬a=b by omega)]
   exact h.congr (this d H) (this d' H')
 | t+1,b,e=>by
   have ih:=S.yp p Z Z' t (b+1) (by omega);obtain⟨p0,p1,p2⟩:=p b (by omega);by_cases h:d b=0
   . rw[vz h,vz (p2.mp h)]at ih;exact ih
   . have h':d' b≠0:=λz=>h (p2.mpr z);by_cases ex:∃n,b<n/\n<C/\d n≠0
     . obtain⟨n0,q⟩:=ex;obtain⟨n,_,⟨bn,nC,hn⟩,mn⟩:=least (p:=λn=>b<n/\n<C/\d n≠0) n0 q;have hz:∀c,b<c->c<n->d c=0:=λc h1 h2=>Decidable.byContradiction λz=>mn c h2 ⟨h1,by omega,z⟩;have hz':∀c,b<c->c<n->d' c=0:=λc h1 h2=>(p c (by omega)).2.2.mp (hz c h1 h2);obtain⟨n0,n1,n2⟩:=p n nC;have hn':d' n≠0:=λz=>hn (n2.mpr z);have:=ih.col (uz (pA p0 h) (pA n0 hn)) (uz (pA p1 h') (pA n1 hn')) bn nC (yx Z nC h hz) (yx Z' nC h' hz');rw[tM bn nC hn hz,tM bn nC hn' hz']at this;exact this
     . have no:∀n,b<n->n<C->d n=0:=λn h1 h2=>Decidable.byContradiction λz=>ex ⟨n,h1,h2,z⟩;have no':∀n,b<n->n<C->d' n=0:=λn h1 h2=>(p n h2).2.2.mp (no n h1 h2);exact(S.row (b:=b) p0 p1 p2 (λi hi c h1 h2=>Z b c h1 h2 h (no c h1 h2) i hi) (λi hi c h1 h2=>Z' b c h1 h2 h' (no' c h1 h2) i hi)).congr (λi _=>wa no i) λi _=>wa no' i
theorem qt {C c:Nat}{G:Nat->Nat->Rat}{j:Nat}(h:∀i,i<j->G i c=0):∀k,k<=j*C->∀i,i<j->thK C G k i c=0
 | 0,_,i,hi=>h i hi
 | k+1,hk,i,hi=>by
   have ih:=qt (C:=C) h k (by omega);show thS (k/C) (k%C) (thK C G k) i c=0;unfold thS thW;have hj:k/C<j:=Nat.div_lt_of_lt_mul (by rw[Nat.mul_comm]; omega);split
   . rw[ih i hi,ih _ hj,Rat.mul_zero,Rat.zero_add,Rat.div_def,Rat.zero_mul]
   . exact ih i hi
structure StG (R C:Nat)(G G':Nat->Nat->Rat):Prop where
 p:∀i,i<R->∀a,a<C->0<=G i a/\0<=G' i a/\(G i a=0↔G' i a=0)
 z:∀j,j<R->Zc j C (G j) G
theorem StG.sp {R C:Nat}{G G':Nat->Nat->Rat}(h:StG R C G G'):∀j,j<=R->SP j C (thK C G (j*C)) (thK C G' (j*C))
 | 0,_=>λk ρ γ _ h2 _ _=>by
   cases k with
   | zero=>exact⟨by show (0:Rat)<=1; decide,by show (0:Rat)<=1; decide,Iff.rfl⟩
   | succ k=>exact absurd (h2 0 (by omega)) (Nat.not_lt_zero _)
 | j+1,hj=>by
   have ih:=h.sp j (by omega);have z1:=h.z j (by omega);have z2:Zc j C (G' j) G':=λb c h1 h2 h3 h4 i hi=>(h.p i (by omega) c h2).2.2.mp (z1 b c h1 h2 (λz=>h3 ((h.p j (by omega) b (by omega)).2.2.mp z)) ((h.p j (by omega) c h2).2.2.mpr h4) i hi);have t:∀{G:Nat->Nat->Rat},Zc j C (G j) G->Zc j C (G j) (thK C G (j*C)):=λz b c h1 h2 h3 h4 i hi=>qt (λi hi=>z b c h1 h2 h3 h4 i hi) _ (Nat.le_refl _) i hi
   have e:∀(G:Nat->Nat->Rat) (i:Nat),i<j+1->∀a,a<C->bB j C (G j) (thK C G (j*C)) 0 i a=thK C G ((j+1)*C) i a:=λG i hi a _=>by
     rw[Nat.add_mul,Nat.one_mul,mQ C (Nat.le_refl _)];unfold bB;by_cases y:i=j
     . rw[if_pos y,if_pos (Nat.zero_le _),if_neg (by omega),y]
     . rw[if_neg y,if_pos (Nat.zero_le _),if_pos (by omega)]
   exact(ih.yp (h.p j (by omega)) (t z1) (t z2) C 0 (by omega)).congr (e G) (e G')
theorem fmn {a b:Int}(h:0<b):0<=a.fmod b/\a.fmod b<b:=⟨Int.fmod_nonneg_of_pos a h,Int.fmod_lt_of_pos a h⟩
theorem Az (i:Int):frD (i:Rat)=.tup [.int i,.int 1]:=by unfold frD;rw[Rat.num_intCast,Rat.den_intCast];rfl
noncomputable def soQ (p:Int):Rat:=((1+p.fmod 9:Int):Rat)/((1+p.fdiv 9:Int):Rat)
noncomputable def soT (p:Int):Rat:=((1+p.fmod 3:Int):Rat)
noncomputable def soP (c:Int)(n:Nat):List Int:=nums c (List.replicate n 54)
noncomputable def soE (big:Bool)(p:Int):Rat:=if big then soT p else soQ p
theorem lK {c:Int}{n i:Nat}:0<=(soP c n).getD i 0/\(soP c n).getD i 0<54:=by
 by_cases h:i<n
 . have:=gO (c:=c) (bs:=List.replicate n 54) (λb hb=>by rw[(List.mem_replicate.mp hb).2]; decide) (i:=i) (by rw[List.length_replicate]; exact h);rw[show (List.replicate n (54:Int)).getD i 0=54 by simp[h]]at this;exact this
 . have:(soP c n).length=n:=by unfold soP; rw[dR,List.length_replicate]
   rw[show (soP c n).getD i 0=0 by rw[List.getD_eq_getElem?_getD,List.getElem?_eq_none (by omega)]; rfl];decide
theorem qP {p:Int}(h:0<=p):((1+p.fmod 9:Int):Rat)=soQ p*((1+p.fdiv 9:Int):Rat):=by unfold soQ;rw[Rat.div_mul_cancel];exact ua (by rw[Int.fdiv_eq_ediv_of_nonneg _ (by decide)]; omega)
theorem AK {p:Int}(h:0<=p)(h2:p<54):∃z:Int,(z:Rat)=soQ p*((60:Int):Rat)/\z.natAbs<=2^10:=by
 have e:=qP h;have f9:0<=p.fmod 9/\p.fmod 9<9:=fmn (by decide);have hb:0<=p.fdiv 9/\p.fdiv 9<6:=by rw[Int.fdiv_eq_ediv_of_nonneg _ (by decide)]; omega
 generalize soQ p=q at e ⊢;generalize p.fmod 9=t at e f9
 obtain⟨y,hy,y60⟩:∃y:Int,(1+p.fdiv 9)*y=60/\0<=y/\y<=60:=by
   rcases(by omega:p.fdiv 9=0\/p.fdiv 9=1\/p.fdiv 9=2\/p.fdiv 9=3\/p.fdiv 9=4\/p.fdiv 9=5) with z | z | z | z | z | z <;> rw[z]
   . exact⟨60,by decide⟩
   . exact⟨30,by decide⟩
   . exact⟨20,by decide⟩
   . exact⟨15,by decide⟩
   . exact⟨12,by decide⟩
   . exact⟨10,by decide⟩
 refine⟨(1+t)*y,?_,?_⟩
 . rw[<- hy,Rat.intCast_mul,Rat.intCast_mul,e,Rat.mul_assoc]
 . rw[Int.natAbs_mul];have:(1+t).natAbs<=9:=by omega
   have:y.natAbs<=60:=by omega
   exact Nat.le_trans (Nat.mul_le_mul ‹(1+t).natAbs<=9› this) (by decide)
theorem CY:∀R,R<8->∀C,C<8->R*C<=16->(R-1)*(C-1)<=9:=by decide
theorem C2 {R C:Nat}(h1:R<=7)(h2:C<=7):(R-1)*(C-1)<=36:=Nat.mul_le_mul (show R-1<=6 by omega) (show C-1<=6 by omega)
theorem ub {i C:Nat}{G:Nat->Nat->Rat}:mkT (i+1) C G=mkT i C G++[(List.range C).map (G i)]:=by unfold mkT;rw[List.range_succ,List.map_append];rfl
theorem vZ {ps:List Int}{C i:Nat}:Hy.cutD (ps.map D.int) (some ((C:Int)*(i:Int))) (some ((C:Int)*((i:Int)+1)))=((ps.take (C*(i+1))).drop (C*i)).map D.int:=by rw[show (C:Int)*(i:Int)=((C*i:Nat):Int) by rw[Int.natCast_mul],show (C:Int)*((i:Int)+1)=((C*(i+1):Nat):Int) by rw[Int.natCast_mul]; rfl,Hy.rM,List.map_drop,List.map_take]
theorem uQ {ps:List Int}{R C i:Nat}(h:ps.length=R*C)(hi:i<R):((ps.take (C*(i+1))).drop (C*i)).length=C:=by have:C*(i+1)<=C*R:=Nat.mul_le_mul_left _ hi;rw[List.length_drop,List.length_take,h,Nat.mul_comm R C,Nat.min_eq_left this,Nat.mul_succ];omega
theorem yz {ps:List Int}{R C i:Nat}(h:ps.length=R*C)(hi:i<R)(l:Nat)(hl:l<(((ps.take (C*(i+1))).drop (C*i)).map D.int).length):(((ps.take (C*(i+1))).drop (C*i)).map D.int)[l]=.int (ps.getD (C*i+l) 0):=by rw[List.length_map,uQ h hi]at hl;have:C*(i+1)<=C*R:=Nat.mul_le_mul_left _ hi;rw[Nat.mul_succ]at this;rw[Nat.mul_comm C R]at this;simp[List.getElem_drop,List.getElem_take,List.getD_eq_getElem?_getD,show C*i+l<ps.length by omega]
theorem xH {big:Bool}{p:Int}(h:0<=p):0<soE big p:=by
 have f9:0<=p.fmod 9:=(fmn (b:=9) (by decide)).1;have f3:0<=p.fmod 3:=(fmn (b:=3) (by decide)).1;have fd:0<=p.fdiv 9:=by rw[Int.fdiv_eq_ediv_of_nonneg _ (by decide)]; omega
 cases big with
 | false=>show 0<soQ p;unfold soQ;rw[Rat.div_def];exact Rat.mul_pos (Rat.intCast_pos.mpr (by omega)) (Rat.inv_pos.mpr (Rat.intCast_pos.mpr (by omega)))
 | true=>show 0<soT p;unfold soT;exact Rat.intCast_pos.mpr (by omega)
noncomputable def nmG (big:Bool)(m:Nat->Nat->Int)(ps:List Int)(C:Nat):Nat->Nat->Rat:=λi a=>((m i a:Int):Rat)*soE big (ps.getD (C*i+a) 0)
theorem yT {R C n:Nat}{m:Nat->Nat->Int}{c:Int}(t:Bit R C m):∀i<R,Cq C (if 16<n then 0 else 6) (if 16<n then 2 else 10) (nmG (decide (16<n)) m (soP c n) C i):=λi hi=>by
 by_cases h:16<n
 . rw[if_pos h,if_pos h,decide_eq_true h];refine⟨1,by decide,by decide,λa ha=>⟨m i a*(1+((soP c n).getD (C*i+a) 0).fmod 3),?_,?_⟩⟩
   . show _=_*_*(1:Rat);rw[Rat.mul_one,Rat.intCast_mul];rfl
   . have f3:=fmn (a:=(soP c n).getD (C*i+a) 0) (b:=3) (by decide);rcases t i hi a ha with z | z
     . rw[z,Int.one_mul]; omega
     . rw[z,Int.zero_mul]; decide
 . rw[if_neg h,if_neg h,decide_eq_false h];refine⟨60,by decide,by decide,λa ha=>?_⟩;obtain⟨z,h1,h2⟩:=AK (p:=(soP c n).getD (C*i+a) 0) lK.1 lK.2;refine⟨m i a*z,?_,?_⟩
   . show _=_*soQ _*_;rw[Rat.intCast_mul,h1,Rat.mul_assoc]
   . rcases t i hi a ha with y | y
     . rw[y,Int.one_mul]; exact h2
     . rw[y,Int.zero_mul]; exact Nat.zero_le _
theorem uC {big:Bool}{R C:Nat}{m:Nat->Nat->Int}{ps:List Int}(t:Bit R C m)(hp:∀i,0<=ps.getD i 0){i a:Nat}(hi:i<R)(ha:a<C):0<=nmG big m ps C i a/\(nmG big m ps C i a=0↔m i a=0):=by
 have p:=xH (big:=big) (hp (C*i+a));unfold nmG;rcases t i hi a ha with z | z
 . rw[z];have e:((1:Int):Rat)*soE big (ps.getD (C*i+a) 0)=soE big (ps.getD (C*i+a) 0):=Rat.one_mul _;rw[e];exact⟨Rat.le_of_lt p,λy=>by rw[y]at p; exact absurd p (by decide),λy=>absurd y (by decide)⟩
 . rw[z];have e:((0:Int):Rat)*soE big (ps.getD (C*i+a) 0)=0:=Rat.zero_mul _;rw[e];exact⟨by decide,λ_=>rfl,λ_=>rfl⟩
noncomputable def ngG (G:Nat->Nat->Rat)(i j:Nat):Nat->Nat->Rat:=λx y=>if x=i/\y=j then -G i j else G x y
theorem A4 {R C d u i j:Nat}{G:Nat->Nat->Rat}(hi:i<R)(h:∀x<R,Cq C d u (G x)):∀x<R,Cq C d u (ngG G i j x):=λx hx=>by
 obtain⟨D,d0,d1,g⟩:=h x hx;refine⟨D,d0,d1,λa ha=>?_⟩;obtain⟨z,z1,z2⟩:=g a ha;unfold ngG;by_cases e:x=i/\a=j
 . rw[if_pos e];obtain⟨rfl,rfl⟩:=e;exact⟨-z,by rw[Rat.intCast_neg,z1,Rat.neg_mul],by rw[Int.natAbs_neg]; exact z2⟩
 . rw[if_neg e];exact⟨z,z1,z2⟩
theorem Al {R C:Nat}{G:Nat->Nat->Rat}(r7:R<=7)(c1:1<=C)(c7:C<=7)(h:∀i<R,Cq C (if 16<R*C then 0 else 6) (if 16<R*C then 2 else 10) (G i)):∀k,k<=R*C->∀i<R,Cq C 96 110 (thK C G k i):=λk hk i hi=>by
 have q:=vh c1 h h k hk i hi;have n1:=w9 R (by omega) C (by omega) k (by omega);by_cases z:16<R*C
 . simp only[if_pos z]at q;have:=C2 r7 c7;exact q.mono (by omega) (by omega)
 . simp only[if_neg z]at q;have:=CY R (by omega) C (by omega) (by omega);exact q.mono (by omega) (by omega)
end K49
namespace L2
open PySem PySem.Spec PyProof.Rows
end L2
namespace K49
open PySem PySem.Spec PyProof.Rows L2 Hy
open Ev (D Den aq aD aH)
def eB (ds:List D)(r:Sl):Prop:=∃(c:Int) (R C:Nat) (m:Nat->Nat->Int),ds=[tbD (mkI R C m),.int c]/\Bit R C m/\1<=R/\R<=7/\1<=C/\C<=7/\r=.n (cg (mkT R C (nmG (decide (16<R*C)) m (soP c (R*C)) C)))
theorem xP {m:Int}{q:Rat}(h:m=1\/m=0):D.tup [.int (m*q.num),.int ((q.den:Nat)*m+1-m)]=frD ((m:Rat)*q):=by
 rcases h with rfl | rfl
 . rw[Int.one_mul,Int.mul_one,show ((1:Int):Rat)=1 from rfl,Rat.one_mul,show ((q.den:Nat):Int)+1-1=(q.den:Nat) by omega]; rfl
 . rw[Int.zero_mul,Int.mul_zero,show ((0:Int):Rat)=0 from rfl,Rat.zero_mul]; rfl
theorem zm {ms:List Int}{qs:List Rat}(i:Nat)(h:i<(eW (ms.map D.int) (qs.map frD)).length):(eW (ms.map D.int) (qs.map frD))[i]=.tup [.int (ms.getD i 0),frD (qs.getD i 0)]:=by rw[lL];rw[cy,List.length_map,List.length_map]at h;simp[show i<ms.length by omega,show i<qs.length by omega]
noncomputable def nuS (C R:Nat)(g:Nat->Nat->Int)(c:Int)(ps:List Int)(T:List (List Rat))(s5 s6 s7:Sl):List Sl:=[.d (tbD (mkI R C g)),.d (.int c),.d (.int (C:Nat)),.d (.lst (ps.map D.int)),.n (cg T),s5,s6,s7]
theorem xQ (M:List (List Rat))(r:List Rat):Nd.l ((M.map λr=>Nd.l ((r.map frD).map .d))++[.l ((r.map frD).map .d)])=cg (M++[r]):=by unfold cg; rw[List.map_append]; rfl
section
variable {P:Program}{w:World}{K:PySem.W.Frag}{mg:Str->Option Value}{base:Heap}{k:Nat}{f:Addr}{fd:FuncData}{qual:Str}
set_option maxHeartbeats 4000000 in
theorem kj (F:Fun K "_law_numbered" qual (top 50) f fd)(hb:∀x∈ar,mg x=none)(c_l_numbers:Cal P w K mg base k "_law_numbers" bT)(c_l_made:Cal P w K mg base k "_law_made" fm):a4 P w K mg base CX0 (k+1) f fd ["_law_marks_here","_law_cell_here"] (spD K eB):=by
 refine fnD F fP hb (by rintro _ _ ⟨_,_,_,_,rfl,_⟩; rfl) ?_;rintro _ _ ⟨c,R,C,g,rfl,t,r1,r7,c1,c7,rfl⟩ cdv A outer s H E b;have nd:=fP.nd;have lm:=b9 R C g;have rl:∀{i},i<R->((mkI R C g).getD i []).length=C:=λhi=>by rw[eG hi,List.length_map,List.length_range]
 have rc:R*C<=49:=Nat.mul_le_mul r7 c7;have eRC:(R:Int)*(C:Int)=((R*C:Nat):Int):=by rw[Int.natCast_mul]
 have lt:((mkI R C g).map rwD).length=R:=by rw[List.length_map,lm]
 refine aI 2 nd (bM b (ab (aK (aa 0) ae (a7 (lP (m:=mkI R C g) (i:=0) (by omega) (by rw[lm]; exact r1)))) af) (gR (n:=C) (by rw[List.length_map]; exact rl r1))) ?_;refine aI 3 nd (bG (x_call b c_l_numbers (ab (aa 1) (ab (bG (eF (cmp 0 (f:=λ_=>.int 54) b (cC (n:=((R*C:Nat):Int)) b (by rw[<- eRC]; exact aJ (bM b (ab (aa 0) af) (gR (n:=R) lt)) (aa 2) (aX (mkL (by omega)))) (by omega) (by omega)) cB (by rw[aw]; omega) λi hi s0 H0 fp=>ae))) af)) ⟨c,List.replicate (R*C) 54,?_,?_,?_,rfl⟩)) ?_
 . rw[aw,Int.toNat_natCast,List.map_replicate];refine congrArg (λl=>[D.int c,D.lst l]) (List.ext_getElem (by simp) λi h1 h2=>by simp)
 . rw[List.length_replicate]; omega
 . intro x hx;rw[(List.mem_replicate.mp hx).2];exact vL (by decide) (by decide)
 have lp:(soP c (R*C)).length=R*C:=by unfold soP; rw[dR,List.length_replicate]
 have pl:∀i,0<=(soP c (R*C)).getD i 0/\(soP c (R*C)).getD i 0<54:=λi=>lK;show PSs _ _ (dS K [_,_,_,.d (.lst ((soP c (R*C)).map D.int)),_,_,_,_] _);generalize soP c (R*C)=ps at lp pl ⊢;refine aI 4 nd (dB af) (xn 4 (c:=cg []) ?_)
 refine pw 5 6 (g:=λi=>.int (i:Nat)) (g':=λi=>rwD ((mkI R C g).getD i [])) (λi τ=>∃s5 s6 s7,τ=nuS C R g c ps (mkT i C (nmG (decide (16<R*C)) g ps C)) s5 s6 s7) b nd (yJ (xs:=(mkI R C g).map rwD) b (aa 0)) (λi h=>by
     have h':i<(mkI R C g).length:=by rw[cY]at h; simpa using h
     rw[lQ];simp[h']) ⟨_,_,_,rfl⟩ (λi hi τ h=>?_) λτ h=>?_
 . obtain⟨s5,s6,s7,rfl⟩:=h;have hi:i<R:=by rw[cY,lt]at hi; exact hi
   have ln:=uQ (i:=i) lp hi;refine oT 7 nd (s:=.o (((List.range C).map λl=>soE false (ps.getD (C*i+l) 0)).map frD)) (cmp 0 (g:=λl=>.int (ps.getD (C*i+l) 0)) (f:=λl=>frD (soQ (ps.getD (C*i+l) 0))) b (a6 (bG (sA (aa 3) (cJ (aJ (aa 2) (aa 5) (aX (mkL (by omega))))) (cJ (aJ (aa 2) (aJ (aa 5) ae bE) (aX (mkL (by omega)))))) (congrArg (λl=>some (D.lst l)) vZ))) (yz lp hi) (by rw[List.length_map,ln]; omega) λl hl s0 H0 fp=>?_) (.inl ?_) ?_
   . have q:=pl (C*i+l);have f2:0<=(ps.getD (C*i+l) 0).fdiv 9/\(ps.getD (C*i+l) 0).fdiv 9<6:=by rw[Int.fdiv_eq_ediv_of_nonneg _ (by decide)]; omega
     refine x_call (b.comp s0 H0 _ fp) c_l_made (ab (aJ ae (aJ (aa 0) ae (eU (by decide))) bE) (ab (aJ ae (aJ (aa 0) ae (bx (mkD (by decide) (by decide)))) bE) af)) ⟨_,_,soQ (ps.getD (C*i+l) 0),rfl,by omega,(show Bd 10 _ by unfold Bd; omega).mono (by decide),qP q.1,rfl⟩
   . rw[List.length_map,ln,List.map_map];rfl
   refine i5 (M:=λτ=>τ=nuS C R g c ps (mkT i C (nmG (decide (16<R*C)) g ps C)) (.d (.int (i:Nat))) (.d (rwD ((mkI R C g).getD i []))) (.o (((List.range C).map λl=>soE (decide (16<R*C)) (ps.getD (C*i+l) 0)).map frD))) (bF (aJ (bM b (ab (aa 0) af) (gR (n:=R) lt)) (aa 2) (aX (mkL (by omega)))) ae pL) (λh=>?_) (λh=>?_) λτ h=>?_
   . have h:=of_decide_eq_true h;have h:16<R*C:=by omega
     refine oT 7 nd (s:=.o (((List.range C).map λl=>soE (decide (16<R*C)) (ps.getD (C*i+l) 0)).map frD)) (cmp 0 (g:=λl=>.int (ps.getD (C*i+l) 0)) (f:=λl=>frD (soT (ps.getD (C*i+l) 0))) b (a6 (bG (sA (aa 3) (cJ (aJ (aa 2) (aa 5) (aX (mkL (by omega))))) (cJ (aJ (aa 2) (aJ (aa 5) ae bE) (aX (mkL (by omega)))))) (congrArg (λl=>some (D.lst l)) vZ))) (yz lp hi) (by rw[List.length_map,ln]; omega) λl hl s0 H0 fp=>?_) (.inl ?_) (aR rfl)
     . unfold soT;rw[Az];exact b6 (ab (aJ ae (aJ (aa 0) ae (eU (by decide))) bE) (ab ae af))
     . rw[List.length_map,ln,List.map_map,decide_eq_true h];rfl
   . have h:=of_decide_eq_false h;have h:¬16<R*C:=by omega
     rw[decide_eq_false h];exact aR rfl
   subst h;generalize decide (16<R*C)=bg;have lz:(eW (((mkI R C g).getD i []).map D.int) (((List.range C).map λl=>soE bg (ps.getD (C*i+l) 0)).map frD)).length=C:=by rw[cy,List.length_map,List.length_map,List.length_map,List.length_range,rl hi,Nat.min_self]
   refine pI 7 ?_;refine lu (ba 4) (c:=.l ((((List.range C).map (nmG bg g ps C i)).map frD).map .d)) (eF (zd 0 1 (f:=λj=>frD (nmG bg g ps C i j)) b (uS b (aa 6) (aa 7)) zm (by rw[lz]; omega) λj hj s0 H0 fp=>?_)) rfl rfl ?_ (by rw[List.length_map,fJ]; omega) (aR ⟨.d (.int (i:Nat)),.d (rwD ((mkI R C g).getD i [])),.d (.lst (((List.range C).map λl=>soE bg (ps.getD (C*i+l) 0)).map frD)),?_⟩)
   . rw[lz]at hj;have hm:=t i hi j hj;have e1:((List.range C).map λl=>soE bg (ps.getD (C*i+l) 0)).getD j 0=soE bg (ps.getD (C*i+j) 0):=by simp[hj]
     rw[ij hi hj,e1];unfold nmG;rw[<- xP hm];have sm:aD (g i j) (soE bg (ps.getD (C*i+j) 0)).num:=by rcases hm with z | z <;> rw[z] <;> exact mkL (by decide)
     have sn:aD (((soE bg (ps.getD (C*i+j) 0)).den:Nat):Int) (g i j):=by rcases hm with z | z <;> rw[z] <;> exact mkR (by decide)
     exact b6 (ab (aJ (aa 0) (aK (aa 1) ae (aL (aC (i:=0) rfl))) (aX sm)) (ab (aJ (aJ (aJ (aK (aa 1) ae (aL (aC (i:=1) rfl))) (aa 0) (aX sn)) ae bE) (aa 0) iX) af))
   . rw[lz];show some (Nd.l _)=some (Nd.l _);rw[List.map_map (f:=nmG bg g ps C i)];rfl
   . unfold nuS;rw[ub,<- xQ];rfl
 . obtain⟨s5,s6,s7,rfl⟩:=h;rw[cY,lt];exact dY 4 rfl
end
noncomputable def pz (m:List (List Int))(i j:Nat):Bool:=decide ((m.getD i []).getD j 0=0)&&(decide (0<((m.getD i []).take j).sum)&&decide (0<((List.range (m.take i).length).map λl=>((m.take i).getD l []).getD j 0).sum))
noncomputable def dH (C:Nat)(m:List (List Int)):Bool:=(List.range m.length).all λi=>(List.range C).all λj=>!pz m i j
def dM (ds:List D)(r:Sl):Prop:=∃(C:Nat) (m:List (List Int)),ds=[tbD m]/\0<m.length/\m.length<=7/\C<=7/\(∀i,i<m.length->(m.getD i []).length=C)/\r=.d (.bl (dH C m))
section
variable {P:Program}{w:World}{K:PySem.W.Frag}{mg:Str->Option Value}{base:Heap}{k:Nat}{f:Addr}{fd:FuncData}{qual:Str}
theorem jt (F:Fun K "_law_is_stairs" qual (top 48) f fd)(hb:∀x∈ar,mg x=none):a4 P w K mg base CX0 (k+1) f fd ["_law_marks_here"] (spD K dM):=by
 refine fnD F fx hb (by rintro _ _ ⟨_,_,rfl,_⟩; rfl) ?_;rintro _ _ ⟨C,m,rfl,h1,h2,h3,h4,rfl⟩ cdv A outer s H E b;have nd:=fx.nd;have lm:(m.map rwD).length=m.length:=List.length_map ..;refine bz 1 (λi τ=>(∀i',i'<i->∀j,j<C->pz m i' j=false)/\∃s1 s2,τ=[.d (tbD m),s1,s2]) b nd (cC b (bM b (ab (aa 0) af) ft) (by omega) (by omega)) cB ⟨λ_ h=>by omega,_,_,rfl⟩ (λi hi τ h=>?_) λτ h=>?_
 . obtain⟨o1,s1,s2,rfl⟩:=h;have hi:i<m.length:=by rw[aw]at hi; omega
   have l0:((m.getD 0 []).map D.int).length=C:=by rw[List.length_map]; exact h4 0 h1
   refine bz 2 (λj τ=>(∀j',j'<j->pz m i j'=false)/\∃s2,τ=[.d (tbD m),.d (.int i),s2]) b nd (cC b (bM b (ab (aK (aa 0) ae (a7 (lP (i:=0) (by omega) (by omega)))) af) ft) ?_ ?_) cB ⟨λ_ h=>by omega,_,rfl⟩ (λj hj τ h=>?_) λτ h=>?_
   . omega
   . simp only[Int.toNat_zero]at *; omega
   . obtain⟨o2,s2,rfl⟩:=h;have hj:j<C:=by rw[aw]at hj; simp only[Int.toNat_zero,l0,Int.toNat_natCast]at hj; exact hj
     have hl:=h4 i hi;have ei:((i:Int)).toNat=i:=rfl;refine fT (PW.pt (vN (bF (aK (aK (aa 0) (aa 1) (a7 (lP (by omega) (by omega)))) (aa 2) (a7 (j5 (by omega) (by rw[ei]; omega)))) ae ie) λh=>(vN (bF (bM b (ab (bG (sA (aK (aa 0) (aa 1) (a7 (lP (by omega) (by omega)))) iA (cJ (aa 2)))) af) (yH b.calm ((m.getD i []).take j) ?_)) ae pL) λh=>(u4 (bF (bM b (ab (bG (eF (cmp 0 (g:=λl=>rwD ((m.take i).getD l [])) (f:=λl=>.int (((m.take i).getD l []).getD j 0)) b (a6 (bG (sA (aa 0) iA (cJ (aa 1))))) ?_ ?_ λl hl s0 H0 fp=>(aK (aa 0) (aa 1) (a7 ?_))))) af) (yH b.calm ((List.range (m.take i).length).map λl=>((m.take i).getD l []).getD j 0) ?_)) ae pL))))) (λh=>?_) λh=>?_
     . rw[iL,List.map_take]; rfl
     . intro l hl;simp only[iL,<- List.map_take]at hl ⊢;exact x8 l hl
     . rw[iL,<- List.map_take,List.length_map,List.length_take]; omega
     . rw[iL,<- List.map_take,List.length_map]at hl;have hl':l<i:=by rw[List.length_take]at hl; omega
       have:((m.take i).getD l []).length=C:=by rw[<- h4 l (by omega)];simp[List.getD,List.getElem?_take,hl']
       exact j5 (by omega) (by rw[this]; exact hj)
     . rw[iL,<- List.map_take,List.length_map,List.map_map]; rfl
     . refine aY oZ ?_;have h:pz m i j=true:=h;show Sl.d (.bl false)=_;have:dH C m=false:=by unfold dH;rw[List.all_eq_false];refine⟨i,List.mem_range.mpr hi,?_⟩;rw[Bool.not_eq_true,List.all_eq_false];exact⟨j,List.mem_range.mpr hj,by rw[h]; decide⟩
       rw[this]
     . refine aR ⟨λj' hj'=>?_,_,rfl⟩;rcases Nat.lt_or_ge j' j with z | z
       . exact o2 j' z
       . obtain rfl:j'=j:=by omega
         exact h
   . obtain⟨o2,s2,rfl⟩:=h;rw[aw]at o2;simp only[Int.toNat_zero,l0,Int.toNat_natCast]at o2;refine aR ⟨λi' hi'=>?_,_,_,rfl⟩;rcases Nat.lt_or_ge i' i with z | z
     . exact o1 i' z
     . obtain rfl:i'=i:=by omega
       exact o2
 . obtain⟨o1,s1,s2,rfl⟩:=h;rw[aw,Int.toNat_natCast,lm]at o1;refine aY oZ ?_;have:dH C m=true:=by unfold dH;rw[List.all_eq_true];intro i hi;rw[List.all_eq_true];intro j hj;rw[o1 i (List.mem_range.mp hi) j (List.mem_range.mp hj)];rfl
   show Sl.d (.bl true)=_;rw[this]
end
noncomputable abbrev kT:Ev.KD (List Int):=Ev.AE Ev.Cs
noncomputable abbrev kTT:Ev.KD (List Int×List Int):=Ev.AM kT kT
theorem hdT:kT.dep<=7:=by show 1<=7; decide
theorem kE:kTT.dep<=7:=by show 2<=7; decide
theorem cG {F:PySem.W.Frag}(c:List Int)(H:Hp)(v:V)(h:Den F H v (kT.toD c)):∃b,v=.ref b:=by
 generalize e:kT.toD c=x at h;cases h with
 | tup=>exact⟨_,rfl⟩
 | _=>cases e
theorem rK {F:PySem.W.Frag}(c:List Int×List Int)(H:Hp)(v:V)(h:Den F H v (kTT.toD c)):∃b,v=.ref b:=by
 generalize e:kTT.toD c=x at h;cases h with
 | tup=>exact⟨_,rfl⟩
 | _=>cases e
section
variable {κ:Type}[DecidableEq κ]
theorem hZ (p:κ×D)(m:List (κ×D))(k:κ):getM (p::m) k=if p.1=k then some p.2 else getM m k:=by
 unfold getM;rw[List.find?_cons];by_cases e:p.1=k
 . simp[e]
 . simp[e]
theorem kU (k k':κ)(x:D):∀m:List (κ×D),getM (m.map λy=>if y.1=k then (y.1,x) else y) k'=if k=k'/\(getM m k).isSome then some x else getM m k'
 | []=>by simp[getM]
 | p::m=>by
   rw[List.map_cons,hZ,kU k k' x m,hZ,hZ];by_cases e:p.1=k
   . rw[if_pos e,if_pos e];by_cases e':k=k'
     . simp[e,e']
     . simp[e,e']
   . rw[if_neg e,if_neg e];by_cases e':p.1=k'
     . simp[e',show ¬k=k' from λz=>e (e'.trans z.symm)]
     . simp[e']
theorem mV (m:List (κ×D))(k k':κ)(x:D):getM (eX m k x) k'=if k=k' then some x else getM m k':=by
 unfold eX;by_cases h:(getM m k).isSome
 . rw[if_pos h,kU];simp[h]
 . rw[if_neg h];have h:getM m k=none:=by simpa using h
   unfold getM at *
   rw[List.find?_append];by_cases e:k=k'
   . subst e;have h:m.find? (λx=>decide (x.1=k))=none:=by simpa using h
     rw[h];simp
   . simp[e]
noncomputable def mkM (v:κ->D)(ks:List κ):List (κ×D):=ks.foldl (λm k=>eX m k (v k)) []
theorem gW (v:κ->D)(ks:List κ)(k:κ):mkM v (ks++[k])=eX (mkM v ks) k (v k):=by unfold mkM; rw[List.foldl_append]; rfl
theorem k9 (v:κ->D)(k:κ):∀(ks:List κ) (m:List (κ×D)),getM (ks.foldl (λm k=>eX m k (v k)) m) k=if k∈ks then some (v k) else getM m k
 | [],m=>by simp
 | k0::ks,m=>by
   rw[List.foldl_cons,k9 v k ks,mV];by_cases h:k∈ks
   . simp[h]
   . by_cases e:k0=k
     . simp[e]
     . simp[h,e,show ¬k=k0 from λz=>e z.symm]
theorem dh {v:κ->D}{ks:List κ}{k:κ}(h:k∈ks):getM (mkM v ks) k=some (v k):=by unfold mkM; rw[k9,if_pos h]
theorem tG (m:List (κ×D))(k:κ)(x:D):(eX m k x).length<=m.length+1:=by unfold eX;split <;> simp
theorem kZ (v:κ->D):∀(ks:List κ) (m:List (κ×D)),(ks.foldl (λm k=>eX m k (v k)) m).length<=m.length+ks.length
 | [],m=>by simp
 | k::ks,m=>by rw[List.foldl_cons];have:=kZ v ks (eX m k (v k));have:=tG m k (v k);rw[List.length_cons];omega
theorem fH (v:κ->D)(ks:List κ):(mkM v ks).length<=ks.length:=by unfold mkM; simpa using kZ v ks []
theorem vy {m:List (κ×D)}{k:κ}{x:D}{p:κ×D}(h:p∈eX m k x):p=(k,x)\/p∈m:=by
 unfold eX at h;split at h
 . obtain⟨q,hq,e⟩:=List.mem_map.mp h;by_cases z:q.1=k
   . rw[if_pos z]at e; exact .inl (by rw[<- e,z])
   . rw[if_neg z]at e; exact .inr (e▸hq)
 . rcases List.mem_append.mp h with h | h
   . exact .inr h
   . exact .inl (List.mem_singleton.mp h)
theorem kF (v:κ->D){p:κ×D}:∀(ks:List κ) (m:List (κ×D)),p∈ks.foldl (λm k=>eX m k (v k)) m->(p.1∈ks/\p.2=v p.1)\/p∈m
 | [],m,h=>.inr h
 | k::ks,m,h=>by
   rw[List.foldl_cons]at h;rcases kF v ks _ h with ⟨h1,h2⟩ | h
   . exact .inl ⟨List.mem_cons_of_mem _ h1,h2⟩
   . rcases vy h with e | h
     . exact .inl (by rw[e]; exact⟨List.mem_cons_self ..,rfl⟩)
     . exact .inr h
theorem fI {v:κ->D}{ks:List κ}{p:κ×D}(h:p∈mkM v ks):p.1∈ks/\p.2=v p.1:=(kF v ks [] h).elim id λz=>nomatch z
theorem nV {m:List (κ×D)}{k:κ}{x:D}(h:getM m k=some x):(k,x)∈m:=by
 unfold getM at h;obtain⟨p,h1,h2⟩:=Option.map_eq_some_iff.mp h;have e:p.1=k:=by have:=List.find?_some h1; simpa using this
 rw[<- h2,<- e];exact List.mem_of_find?_eq_some h1
end
noncomputable def ers (c:List Int)(k:Nat):List Int:=c.take k++c.drop (k+1)
noncomputable def alP (f:List Int->Int)(row c:List Int)(k:Nat):Int:=row.getD (c.getD k 0).toNat 0*f (ers c k)
noncomputable def alS (f:List Int->Int)(row c:List Int):Nat->Int
 | 0=>0
 | k+1=>if Int.fmod ((c.length:Int)-(k:Nat)) 2=0 then alS f row c k-alP f row c k else alS f row c k+alP f row c k
noncomputable def alR (f:List Int->Int)(row c:List Int):Int:=alS f row c c.length
theorem BV (c:List Int)(k:Nat):kT.toD (ers c k)=.tup (Hy.cutD (c.map D.int) none (some (k:Int))++Hy.cutD (c.map D.int) (some ((k:Int)+1)) none):=by
 rw[show ((k:Int)+1)=((k+1:Nat):Int) from rfl,iL]
 have e:Hy.cutD (c.map D.int) (some ((k+1:Nat):Int)) none=(c.map D.int).drop (k+1):=by
   unfold Hy.cutD;rw[HT.ee,HT.gU];rcases Nat.le_total (k+1) (c.map D.int).length with h | h
   . rw[Nat.min_eq_left h,List.take_of_length_le (by rw[List.length_drop]; exact Nat.le_refl _)]
   . rw[Nat.min_eq_right h,List.drop_of_length_le (Nat.le_refl _),List.drop_of_length_le h,List.take_nil]
 rw[e];show D.tup ((ers c k).map D.int)=_;unfold ers;rw[List.map_append,List.map_take,List.map_drop]
def cF (P:Program)(w:World)(ds:List D)(r:Sl):Prop:=∃(m:List (List Int×D)) (f:List Int->Int) (row c:List Int) (n p:Nat),ds=[bxD kT hdT P w m,dtR row,tpD c]/\c.length<=7/\(∀k,k<c.length->0<=c.getD k 0/\c.getD k 0<row.length)/\(∀k,k<c.length->getM m (ers c k)=some (.int (f (ers c k)))/\Bd p (f (ers c k)))/\(∀x∈row,Bd n x)/\n<=10000/\p<=10000/\r=.d (.int (alR f row c))
section
variable {P:Program}{w:World}{K:PySem.W.Frag}{mg:Str->Option Value}{base:Heap}{k:Nat}{f:Addr}{fd:FuncData}{qual:Str}
theorem gq (F:Fun K "along_last_row" qual (top 31) f fd)(hb:∀x∈ar,mg x=none):a4 P w K mg base CX0 (k+1) f fd ["known","row","columns"] (spD K (cF P w)):=by
 refine fnD F dr hb (by rintro _ _ ⟨_,_,_,_,_,_,rfl,_⟩; rfl) ?_;rintro _ _ ⟨m,g,row,c,n,p,rfl,h7,hc,hg,hr,hn,hp,rfl⟩ cdv A outer s H E b;have nd:=dr.nd;have hu:(Xc P w K mg base ["known","row","columns","total","k","part"] qual (top 31) f cdv A outer s H E).A.units+16<cLine:=Nat.lt_of_le_of_lt (Nat.add_le_add_left (by decide:16<=64) _) b.room.units;have lc:(c.map D.int).length=c.length:=List.length_map ..;refine aI 3 nd ae ?_;refine bz 4 (λi τ=>i<=c.length/\∃s4 s5,τ=[.d (bxD kT hdT P w m),.d (dtR row),.d (tpD c),.d (.int (alS g row c i)),s4,s5]) b nd (cC b (bM b (ab (aa 2) af) mq) (by omega) (by omega)) cB ⟨Nat.zero_le _,.un,.un,rfl⟩ (λi hi τ h=>?_) λτ h=>?_
 . obtain⟨_,s4,s5,rfl⟩:=h;have hi:i<c.length:=by rw[aw,lc]at hi; omega
   obtain⟨c1,c2⟩:=hc i hi;obtain⟨g1,g2⟩:=hg i hi;have ht:(c.getD i 0).toNat<row.length:=by omega
   refine aI 5 nd (aJ (aK (aa 1) (aK (aa 2) (aa 4) (aL (atR hi))) (a7 (j5 c1 ht))) (pj (a:=kT) (hd:=hdT) (m:=m) (key:=ers c i) hu (aa 0) (by
     rw[BV]
     exact aJ (vM (aa 2) iA (cJ (aa 4)) (by rw[HT.ee,lc]; omega)) (vM (aa 2) (cJ (aJ (aa 4) ae bE)) iA (by rw[show ((i:Int)+1)=((i+1:Nat):Int) from rfl,HT.ee,lc]; omega)) (pU (by
       have l1:∀l u,(Hy.cutD (c.map D.int) l u).length<=7:=λl u=>by unfold Hy.cutD; rw[List.length_take,List.length_drop,lc]; omega
       have:=l1 none (some (i:Int));have:=l1 (some ((i:Int)+1)) none;omega))) g1 (cG _) uF) (aX ((hr _ (bO ht)).aD g2 (by omega) (by omega)))) ?_
   refine aI 3 nd (yu (s:=.d (.int (alS g row c (i+1)))) (bF (aJ (aJ (bM b (ab (aa 2) af) mq) (aa 4) iX) ae (eU (by decide))) ae ie) (λh=>?_) λh=>?_) (aR ⟨hi,_,_,rfl⟩)
   . have h:=of_decide_eq_true h;rw[lc]at h;rw[alS,if_pos h];exact aJ (aa 3) (aa 5) iX
   . have h:=of_decide_eq_false h;rw[lc]at h;rw[alS,if_neg h];exact aJ (aa 3) (aa 5) bE
 . obtain⟨_,s4,s5,rfl⟩:=h;refine aY (aa 3) ?_;rw[aw,lc,Int.toNat_natCast];rfl
end
noncomputable def orM (f:List Int->Int)(row:List Int)(cs:List (List Int)):List (List Int×D):=mkM (λc=>D.int (alR f row c)) cs
def cU (P:Program)(w:World)(ds:List D)(r:Sl):Prop:=∃(m:List (List Int×D)) (f:List Int->Int) (row:List Int) (cs:List (List Int)) (n p:Nat),ds=[bxD kT hdT P w m,dtR row,mI cs]/\cs.length<=100000/\(∀c∈cs,c.length<=7/\(∀k,k<c.length->0<=c.getD k 0/\c.getD k 0<row.length)/\(∀k,k<c.length->getM m (ers c k)=some (.int (f (ers c k)))/\Bd p (f (ers c k))))/\(∀x∈row,Bd n x)/\n<=10000/\p<=10000/\r=.d (bxD kT hdT P w (orM f row cs))
section
variable {P:Program}{w:World}{K:PySem.W.Frag}{mg:Str->Option Value}{base:Heap}{k:Nat}{f:Addr}{fd:FuncData}{qual:Str}
theorem i4 (F:Fun K "one_row_more" qual (top 30) f fd)(hb:∀x∈ar,mg x=none)(c_along_last_row:Cal P w K mg base k "along_last_row" (cF P w)):a4 P w K mg base CX0 (k+1) f fd ["known","row","column_choices"] (spD K (cU P w)):=by
 refine fnD F eR hb (by rintro _ _ ⟨_,_,_,_,_,_,rfl,_⟩; rfl) ?_;rintro _ _ ⟨m,g,row,cs,n,p,rfl,h1,hc,hr,hn,hp,rfl⟩ cdv A outer s H E b;have nd:=eR.nd;have hu:(Xc P w K mg base ["known","row","column_choices","found","columns"] qual (top 30) f cdv A outer s H E).A.units+16<cLine:=Nat.lt_of_le_of_lt (Nat.add_le_add_left (by decide:16<=64) _) b.room.units;refine aI 3 nd (pJ (a:=kT) (hd:=hdT)) ?_;refine bz 4 (g:=λi=>tpD (cs.getD i [])) (λi τ=>∃s4,τ=[.d (bxD kT hdT P w m),.d (dtR row),.d (mI cs),.x (exK kT hdT P w (orM g row (cs.take i))),s4]) b nd (a6 (aa 2)) wM ⟨.un,rfl⟩ (λi hi τ h=>?_) λτ h=>?_
 . obtain⟨s4,rfl⟩:=h;have hi:i<cs.length:=by simpa using hi
   obtain⟨c1,c2,c3⟩:=hc _ (bO (d:=[]) hi);have ln:=fH (λc=>D.int (alR g row c)) (cs.take i);rw[List.length_take]at ln;refine my 3 (a:=kT) (hd:=hdT) (key:=cs.getD i []) (x:=.int (alR g row (cs.getD i []))) hu rfl (aa 4) (x_call b c_along_last_row (ab (aa 0) (ab (aa 1) (ab (aa 4) af))) ⟨m,g,row,_,n,p,rfl,c1,c2,c3,hr,hn,hp,rfl⟩) (Nat.le_trans ln (by unfold sizeLine; omega)) (cG _) (aR ⟨.d (tpD (cs.getD i [])),?_⟩);rw[take_snoc [] hi];unfold orM;rw[gW];rfl
 . obtain⟨s4,rfl⟩:=h;refine yg 3 (a:=kT) (hd:=hdT) (aY (aa 3) ?_);rw[List.length_map,List.take_of_length_le (Nat.le_refl _)];rfl
end
theorem zJ:∀n,n<8->∀t,t<7->((chs n (t+1)).all λc=>(chs n t).contains (c.take t)&&(List.range (t+1)).all λk=>(chs n t).contains (ers c k))=true:=by decide +kernel
theorem mM:∀n,n<8->∀t,t<8->(chs n t).length<=35:=by decide +kernel
theorem lO {n t:Nat}{c:List Int}(hn:n<=7)(ht:t<7)(h:c∈chs n (t+1)):c.take t∈chs n t/\∀k,k<t+1->ers c k∈chs n t:=by have:=List.all_eq_true.mp (zJ n (by omega) t ht) c h;rw[Bool.and_eq_true]at this;obtain⟨h1,h2⟩:=this;refine⟨by simpa using h1,λk hk=>?_⟩;have:=List.all_eq_true.mp h2 k (List.mem_range.mpr hk);simpa using this
noncomputable def dtm (R:List (List Int)):Nat->List Int->List Int->Int
 | 0,_,_=>1
 | t+1,ls,c=>alR (dtm R t (ls.take t)) (R.getD (fD ls).toNat []) c
structure Rw (m n b:Nat)(R:List (List Int)):Prop where
 len:R.length=m
 row:∀r∈R,r.length=n/\∀x∈r,Bd b x
 m1:1<=m/\m<=7
 n1:1<=n/\n<=7
 b1:b<=1400
theorem v3 {f:List Int->Int}{row c:List Int}{N:Nat}:∀k,(∀i,i<k->(alP f row c i).natAbs<=N)->(alS f row c k).natAbs<=k*N
 | 0,_=>by simp[alS]
 | k+1,h=>by have ih:=v3 k λi hi=>h i (by omega);have h1:=h k (by omega);rw[alS,Nat.succ_mul];split <;> omega
theorem Be {f:List Int->Int}{row c:List Int}{n p:Nat}(h7:c.length<=7)(hr:∀x∈row,Bd n x)(hf:∀k,k<c.length->Bd p (f (ers c k))):Bd (n+p+3) (alR f row c):=by
 have h:=v3 (f:=f) (row:=row) (c:=c) (N:=2^(n+p)) c.length λi hi=>by
   have h1:Bd n (row.getD (c.getD i 0).toNat 0):=by
     by_cases h:(c.getD i 0).toNat<row.length
     . exact hr _ (bO h)
     . rw[getD_none (by omega)];exact Nat.two_pow_pos n
   exact Nat.le_of_lt (h1.mul (hf i hi))
 unfold Bd alR;have e:2^(n+p+3)=8*2^(n+p):=by rw[Nat.pow_add]; omega
 have p0:=Nat.two_pow_pos (n+p);have:c.length*2^(n+p)<=7*2^(n+p):=Nat.mul_le_mul_right _ h7;omega
theorem uO {m n b:Nat}{R:List (List Int)}(h:Rw m n b R):∀t,t<=7->∀ls c,c∈chs n t->Bd (1+t*(b+3)) (dtm R t ls c)
 | 0,_,_,_,_=>by unfold Bd dtm; rw[Nat.zero_mul]; decide
 | t+1,ht,ls,c,hc=>by
   have l:=(cK n _ c hc).len
   have:=Be (f:=dtm R t (ls.take t)) (row:=R.getD (fD ls).toNat []) (c:=c) (n:=b) (p:=1+t*(b+3)) (by omega) (λx hx=>by
     by_cases hl:(fD ls).toNat<R.length
     . exact(h.row _ (bO hl)).2 x hx
     . rw[getD_none (by omega)]at hx;cases hx) λk hk=>uO h t (by omega) _ _ ((lO h.n1.2 (by omega) hc).2 k (by omega))
   rw[dtm];refine this.mono ?_;rw[Nat.succ_mul];omega
noncomputable def kB (P:Program)(w:World)(R:List (List Int))(n t:Nat)(ls:List Int):D:=bxD kT hdT P w (mkM (λc=>D.int (dtm R t ls c)) (chs n t))
noncomputable def knM (P:Program)(w:World)(R:List (List Int))(m n t:Nat):List (List Int×D):=mkM (kB P w R n t) (chs m t)
noncomputable def ky1 (n t:Nat)(ls:List Int):List (List Int×List Int):=(chs n t).map λc=>(ls,c)
noncomputable def kys (m n i:Nat):List (List Int×List Int):=(List.range i).flatMap λt=>(chs m (t+1)).flatMap (ky1 n (t+1))
noncomputable def vD (R:List (List Int))(p:List Int×List Int):Int:=dtm R p.1.length p.1 p.2
noncomputable def fdM (R:List (List Int))(ks:List (List Int×List Int)):List ((List Int×List Int)×D):=mkM (λp=>D.int (vD R p)) ks
theorem v9 {n t:Nat}(hn:n<=7)(ht:t<=7):∀ls:List (List Int),ls.length<=35->(ls.flatMap (ky1 n t)).length<=1225:=λls hl=>by
 have:=fF (ky1 n t) 35 ls λx _=>by unfold ky1; rw[List.length_map]; exact mM n (by omega) t (by omega)
 omega
theorem kys_len {m n i:Nat}(hm:m<=7)(hn:n<=7)(hi:i<=7):(kys m n i).length<=8575:=by have:=fF (λt=>(chs m (t+1)).flatMap (ky1 n (t+1))) 1225 (List.range i) λt ht=>v9 hn (by have:=List.mem_range.mp ht; omega) _ (mM m (by omega) _ (by have:=List.mem_range.mp ht; omega));rw[List.length_range]at this;unfold kys;omega
def cb (P:Program)(w:World)(ds:List D)(r:Sl):Prop:=∃(R:List (List Int)) (m n b:Nat),ds=[.lst (R.map dtR)]/\Rw m n b R/\r=.d (.box (bxW kTT kE P w (fdM R (kys m n (min m n)))))
theorem mE {R:List (List Int)}{i:Int}(h0:0<=i)(h:i.toNat<R.length):atI (R.map dtR) i=some (dtR (R.getD i.toNat [])):=by
 obtain⟨n,rfl⟩:=Int.eq_ofNat_of_zero_le h0
 exact aC (by
   have h:n<R.length:=h;simp[h])
theorem zV (c:List Int)(t:Nat)(h:c.length=t+1):D.tup (Hy.cutD (c.map D.int) none (some (-1)))=kT.toD (c.take t):=by
 unfold Hy.cutD;have e:HT.sIx (c.map D.int).length (c.map D.int).length (some (-1))=t:=by unfold HT.sIx;simp only[];rw[if_pos (by decide),List.length_map,h];omega
 rw[e,HT.gU,List.drop_zero,Nat.sub_zero,<- List.map_take];rfl
theorem kn0 (P:Program)(w:World)(R:List (List Int))(m n:Nat):knM P w R m n 0=[([],bxD kT hdT P w [([],.int 1)])]:=rfl
section
variable {P:Program}{w:World}{K:PySem.W.Frag}{mg:Str->Option Value}{base:Heap}{k:Nat}{f:Addr}{fd:FuncData}{qual:Str}
set_option maxHeartbeats 1000000 in
theorem fL (F:Fun K "all_determinants" qual (top 29) f fd)(hb:∀x∈ar,mg x=none)(c_choices_of:Cal P w K mg base k "choices_of" eD)(c_one_row_more:Cal P w K mg base k "one_row_more" (cU P w)):a4 P w K mg base CX0 (k+1) f fd ["rows"] (spD K (cb P w)):=by
 refine fnD F cO hb (by rintro _ _ ⟨_,_,_,_,rfl,_⟩; rfl) ?_;rintro _ _ ⟨R,m,n,b0,rfl,ok,rfl⟩ cdv A outer s H E b;have nd:=cO.nd;have hu:(Xc P w K mg base ["rows","found","known","size","fresh","column_choices","some","columns"] qual (top 29) f cdv A outer s H E).A.units+16<cLine:=Nat.lt_of_le_of_lt (Nat.add_le_add_left (by decide:16<=64) _) b.room.units;obtain⟨⟨m1,m7⟩,n1,n7⟩:=And.intro ok.m1 ok.n1;have lR:(R.map dtR).length=m:=by rw[List.length_map,ok.len]
 have r0:(R.getD 0 []).length=n:=(ok.row _ (bO (by rw[ok.len]; omega))).1;have lr0:((R.getD 0 []).map D.int).length=n:=by rw[List.length_map,r0]
 have a0:atI (R.map dtR) 0=some (dtR (R.getD 0 [])):=mE (i:=0) (by decide) (by rw[ok.len]; show 0<m; omega);have hmin:(if ((((R.getD 0 []).map D.int).length:Nat):Int)<((R.map dtR).length:Nat) then ((((R.getD 0 []).map D.int).length:Nat):Int) else ((R.map dtR).length:Nat))=((min m n:Nat):Int):=by rw[lR,lr0];split <;> omega
 refine aI 1 nd (pJ (a:=kTT) (hd:=kE)) ?_;generalize e:Expr.Dict [some (Expr.Tuple [] 0 _)] _ _=ex;refine aI 2 nd (s:=.d (bxD kT hdT P w [([],bxD kT hdT P w [([],.int 1)])])) ?_ ?_ (hs:=by subst e; rfl)
 . subst e;generalize e:Expr.Dict [some (Expr.Tuple [] 0 _)] [Expr.Constant _ _ _] _=ex;refine yE (a:=kT) (hd:=hdT) (pF (a:=kT) (hd:=hdT) (key:=[]) (x:=bxD kT hdT P w [([],.int 1)]) hu ?_ ?_ (cG []))
   . show PE _ _ (dE _ _ _ (.d (.tup [])));exact b6 af
   . subst e;refine yE (a:=kT) (hd:=hdT) (m:=[([],.int 1)]) (pF (a:=kT) (hd:=hdT) (key:=[]) (x:=.int 1) hu ?_ ae (cG []));show PE _ _ (dE _ _ _ (.d (.tup [])));exact b6 af
 refine bz 3 (g:=λi=>.int (1+(i:Nat))) (λi τ=>i<=min m n/\∃s3 s4 s5 s6 s7,τ=[.d (.lst (R.map dtR)),.x (exK kTT kE P w (fdM R (kys m n i))),.d (bxD kT hdT P w (knM P w R m n i)),s3,s4,s5,s6,s7]) b nd (tU b ae (aJ (bM b (ab (bM b (ab (aa 0) af) ft) (ab (bM b (ab (aK (aa 0) ae (a7 a0)) af) ft) af)) (ya b.calm)) ae bE) (by rw[hmin]; omega)) (λk hk=>jd _ _ k hk) ⟨Nat.zero_le _,.un,.un,.un,.un,.un,by rw[kn0]; rfl⟩ (λi hi τ h=>?_) λτ h=>?_
 . obtain⟨_,s3,s4,s5,s6,s7,rfl⟩:=h;have hi:i<min m n:=by rw[aw,hmin]at hi; omega
   have e1:(1+(i:Nat):Int)=((i+1:Nat):Int):=by omega
   rw[e1];refine aI 4 nd (pJ (a:=kT) (hd:=hdT)) ?_;refine aI 5 nd (x_call b c_choices_of (ab (bM b (ab (aK (aa 0) ae (a7 a0)) af) ft) (ab (aa 3) af)) ⟨n,i+1,by rw[lr0],n7,by omega,rfl⟩) ?_;refine bz 6 (g:=λl=>tpD ((chs m (i+1)).getD l [])) (λl τ=>∃s6 s7,τ=[.d (.lst (R.map dtR)),.x (exK kTT kE P w (fdM R (kys m n i++((chs m (i+1)).take l).flatMap (ky1 n (i+1))))),.d (bxD kT hdT P w (knM P w R m n i)),.d (.int ((i+1:Nat):Int)),.x (exK kT hdT P w (mkM (kB P w R n (i+1)) ((chs m (i+1)).take l))),.d (mI (chs n (i+1))),s6,s7]) b nd (a6 (x_call b c_choices_of (ab (bM b (ab (aa 0) af) ft) (ab (aa 3) af)) ⟨m,i+1,by rw[lR],m7,by omega,rfl⟩)) wM ⟨s6,s7,by simp[mkM]; rfl⟩ (λl hl τ h=>?_) λτ h=>?_
   . obtain⟨s6,s7,rfl⟩:=h;have hl:l<(chs m (i+1)).length:=by simpa using hl
     have hs:=bO (d:=[]) hl;generalize hls:(chs m (i+1)).getD l []=ls at hs;have okl:=cK m _ ls hs;have l35:=mM m (by omega) (i+1) (by omega);have n35:=mM n (by omega) (i+1) (by omega);have lf:=fH (kB P w R n (i+1)) ((chs m (i+1)).take l);rw[List.length_take]at lf;have ne:ls≠[]:=λz=>by have:=okl.len; rw[z]at this; cases this
     have last:0<=fD ls/\fD ls<m:=by have:=okl.at_ i (by omega);unfold fD;rw[okl.len];exact this
     have hlr:(fD ls).toNat<R.length:=by rw[ok.len]; omega
     have hrow:=ok.row _ (bO (d:=[]) hlr);have pre:=(lO m7 (by omega) hs).1;have key:kT.toD (ls.take i)=D.tup (Hy.cutD (ls.map D.int) none (some (-1))):=(zV ls i okl.len).symm
     refine my 4 (a:=kT) (hd:=hdT) (key:=ls) (x:=kB P w R n (i+1) ls) hu rfl (aa 6) (x_call b c_one_row_more (ab (pj (a:=kT) (hd:=hdT) (m:=knM P w R m n i) (key:=ls.take i) (x:=kB P w R n i (ls.take i)) hu (aa 2) (by
       rw[key];refine vM (aa 6) iA (cJ (kX ae)) ?_;rintro⟨_,z⟩;have e:HT.sIx (ls.map D.int).length (ls.map D.int).length (some (-1))=i:=by unfold HT.sIx;simp only[];rw[if_pos (by decide),List.length_map,okl.len];omega
       rw[e,List.length_map,okl.len]at z;omega) (dh pre) (cG _) λ_ _=>rfl) (ab (aK (aa 0) (aK (aa 6) (kX ae) (aL (qL ne))) (a7 (mE last.1 hlr))) (ab (aa 5) af))) ⟨_,dtm R i (ls.take i),_,_,b0,1+i*(b0+3),rfl,by omega,λc hc=>?_,hrow.2,by have:=ok.b1; omega,?_,rfl⟩) (Nat.le_trans lf (by unfold sizeLine; omega)) (cG _) ?_
     . have okc:=cK n _ c hc;refine⟨by rw[okc.len]; omega,λk hk=>?_,λk hk=>?_⟩
       . rw[hrow.1];exact okc.at_ k (by rw[okc.len]at hk; exact hk)
       . have hk:k<i+1:=by rw[okc.len]at hk; exact hk
         have:=(lO n7 (by omega) hc).2 k hk;exact⟨dh this,uO ok i (by omega) _ _ this⟩
     . have:=ok.b1;have:i*(b0+3)<=6*(b0+3):=Nat.mul_le_mul_right _ (by omega);omega
     have kl:=kys_len (i:=i) m7 n7 (by omega);have kk:=v9 (t:=i+1) n7 (by omega) ((chs m (i+1)).take l) (by rw[List.length_take]; omega);refine bz 7 (g:=λj=>tpD ((chs n (i+1)).getD j [])) (λj τ=>∃s7,τ=[.d (.lst (R.map dtR)),.x (exK kTT kE P w (fdM R (kys m n i++((chs m (i+1)).take l).flatMap (ky1 n (i+1))++((chs n (i+1)).take j).map λc=>(ls,c)))),.d (bxD kT hdT P w (knM P w R m n i)),.d (.int ((i+1:Nat):Int)),.x (exK kT hdT P w (eX (mkM (kB P w R n (i+1)) ((chs m (i+1)).take l)) ls (kB P w R n (i+1) ls))),.d (mI (chs n (i+1))),.d (tpD ls),s7]) b nd (a6 (aa 5)) wM ⟨s7,by simp; rfl⟩ (λj hj τ h=>?_) λτ h=>?_
     . obtain⟨s7,rfl⟩:=h;have hj:j<(chs n (i+1)).length:=by simpa using hj
       have hc:=bO (d:=[]) hj;generalize hcs:(chs n (i+1)).getD j []=c at hc;have gF:getM (eX (mkM (kB P w R n (i+1)) ((chs m (i+1)).take l)) ls (kB P w R n (i+1) ls)) ls=some (kB P w R n (i+1) ls):=by rw[mV,if_pos rfl]
       refine my 1 (a:=kTT) (hd:=kE) (key:=(ls,c)) (x:=.int (vD R (ls,c))) hu rfl (b6 (ab (aa 6) (ab (aa 7) af))) (pj (a:=kT) (hd:=hdT) (key:=c) hu (pV 4 (a:=kT) (hd:=hdT) (key:=ls) hu rfl (aa 6) gF (cG _) eJ) (aa 7) ?_ (cG _) eJ) ?_ (rK _) (aR ⟨.d (tpD c),?_⟩)
       . rw[dh hc];show _=some (D.int (dtm R ls.length ls c));rw[okl.len]
       . refine Nat.le_trans (fH _ _) ?_;rw[List.length_append,List.length_append,List.length_map,List.length_take];unfold sizeLine;omega
       . rw[take_snoc [] hj,hcs,List.map_append,<- List.append_assoc];unfold fdM;rw[List.map_singleton,gW];rfl
     . obtain⟨s7,rfl⟩:=h;refine aR ⟨.d (tpD ls),s7,?_⟩;rw[take_snoc [] hl,hls,gW,List.flatMap_append,List.length_map,List.take_of_length_le (Nat.le_refl _),List.append_assoc];simp[ky1]
   . obtain⟨s6,s7,rfl⟩:=h;refine yg 4 (a:=kT) (hd:=hdT) (aI 2 nd (aa 4) (aR ⟨hi,.d (.int ((i+1:Nat):Int)),.d (bxD kT hdT P w (knM P w R m n (i+1))),.d (mI (chs n (i+1))),s6,s7,?_⟩));rw[List.length_map,List.take_of_length_le (Nat.le_refl _)];have e:kys m n (i+1)=kys m n i++(chs m (i+1)).flatMap (ky1 n (i+1)):=by unfold kys; rw[List.range_succ,List.flatMap_append]; simp
     rw[e];rfl
 . obtain⟨_,s3,s4,s5,s6,s7,rfl⟩:=h;refine yh 1 (a:=kTT) (hd:=kE) (aY (aa 1) ?_);rw[aw,hmin];show Sl.d (.box (bxW kTT kE P w (fdM R (kys m n ((((min m n:Nat):Int)+1)-1).toNat))))=_;rw[Int.add_sub_cancel,Int.toNat_natCast]
end
theorem rw_ok {m n d v:Nat}{M:List (List Rat)}(t:Tq m n M)(hq:∀r∈M,∀x∈r,Qs d v x)(hb:v+(1+n*d)<=1400):Rw m n (v+(1+n*d)) (whM M (M.map scL)):=by
 refine⟨by unfold whM; simp[t.len],λr hr=>?_,⟨t.r1,t.r7⟩,⟨t.c1,t.c7⟩,hb⟩;unfold whM at hr;obtain⟨i,hi,rfl⟩:=List.mem_map.mp hr;rw[List.mem_range]at hi;have mi:M.getD i []∈M:=de hi;refine⟨by unfold whR; rw[List.length_map]; exact t.row _ mi,λx hx=>?_⟩;unfold whR at hx;obtain⟨q,hq',rfl⟩:=List.mem_map.mp hx;have e:(M.map scL).getD i 0=scL (M.getD i []):=by simp[hi]
 rw[e];have:=iJ (d:=d) (r:=M.getD i []) λx hx=>(hq _ mi x hx).den;rw[t.row _ mi]at this;exact BG (hq _ mi q hq') ((jQ _).2 q hq') this
noncomputable def fuO (R:List (List Int))(m n:Nat)(t:Int):Option (List Int×List Int):=(((fdM R (kys m n (min m n))).map (·.1)).find? λp=>decide (vD R p<t))
noncomputable def fuD:Option (List Int×List Int)->D
 | none=>.non
 | some p=>.tup [.lst (p.1.map .int),.lst (p.2.map .int)]
theorem ly {R:List (List Int)}{m n:Nat}{t:Int}:fuO R m n t=none↔∀p∈kys m n (min m n),t<=vD R p:=by
 unfold fuO;rw[List.find?_eq_none];constructor
 . intro h p hp;have:=h p (List.mem_map.mpr ⟨_,nV (dh (v:=λp=>D.int (vD R p)) hp),rfl⟩);have:=of_decide_eq_false (by simpa using this:decide (vD R p<t)=false);omega
 . intro h p hp;obtain⟨q,hq,rfl⟩:=List.mem_map.mp hp;have:=h _ (fI hq).1;simp;omega
theorem yX {X:Cx}{o:Option (List Int×List Int)}:cM X (compareOp .Is) (fuD o) .non (.bl o.isNone):=⟨_,AR,λ_ v w H Q _ d1 d2 k=>by
 cases d2;cases o with
 | none=>cases d1; exact⟨rfl,by rw[decide_eq_true rfl]; exact k _ H (ah.refl _) .bl⟩
 | some i=>cases d1; exact⟨rfl,by rw[decide_eq_false (by intro z; cases z)]; exact k _ H (ah.refl _) .bl⟩⟩
def dD (ds:List D)(r:Sl):Prop:=∃(m n d v:Nat) (M:List (List Rat)) (t:Int),ds=[tbQ M,.int t]/\Tq m n M/\(∀r∈M,∀x∈r,Qs d v x)/\v+(1+n*d)<=1400/\r=.d (fuD (fuO (whM M (M.map scL)) m n t))
def ig (ds:List D)(r:Sl):Prop:=∃(m n d v:Nat) (M:List (List Rat)),ds=[tbQ M]/\Tq m n M/\(∀r∈M,∀x∈r,Qs d v x)/\v+(1+n*d)<=1400/\r=.d (.bl (fuO (whM M (M.map scL)) m n 0).isNone)
section
variable {P:Program}{w:World}{K:PySem.W.Frag}{mg:Str->Option Value}{base:Heap}{k:Nat}{f:Addr}{fd:FuncData}{qual:Str}
set_option maxHeartbeats 1000000 in
theorem j3 (F:Fun K "first_under" qual (top 28) f fd)(hb:∀x∈ar,mg x=none)(c_all_determinants:Cal P w K mg base k "all_determinants" (cb P w))(c_whole_rows:Cal P w K mg base k "whole_rows" eo)(c_scale_of:Cal P w K mg base k "scale_of" fV):a4 P w K mg base CX0 (k+1) f fd ["table","bound"] (spD K dD):=by
 refine fnD F fA hb (by rintro _ _ ⟨_,_,_,_,_,_,rfl,_⟩; rfl) ?_;rintro _ _ ⟨m,n,d,v,M,t,rfl,tq,hq,hz,rfl⟩ cdv A outer s H E b;have nd:=fA.nd;have hu:(Xc P w K mg base ["table","bound","found","choices"] qual (top 28) f cdv A outer s H E).A.units+16<cLine:=Nat.lt_of_le_of_lt (Nat.add_le_add_left (by decide:16<=64) _) b.room.units;have r7:=tq.r7;have c7:=tq.c7;have nd1:d<=n*d:=Nat.le_mul_of_pos_left d tq.c1;have ok:=rw_ok tq hq hz;generalize hRR:whM M (M.map scL)=R at ok;have es:(D.lst ((M.map scL).map .int))=.lst ((List.range (M.map rwQ).length).map λi=>D.int (scL (M.getD i []))):=by exact congrArg D.lst (((je (λr:List Rat=>D.int (scL r)) M [] (List.length_map ..)).trans (by rw[List.map_map]; rfl)).symm)
 refine aI 2 nd (x_call b c_all_determinants (ab (bG (x_call b c_whole_rows (ab (aa 0) (ab (bG (eF (cmp 0 (g:=λi=>rwQ (M.getD i [])) (f:=λi=>.int (scL (M.getD i []))) b (a6 (aa 0)) (cN (f:=rwQ) (xs:=M) []) (by rw[List.length_map,tq.len]; omega) λi hi s0 H0 fp=>(x_call (b.comp s0 H0 _ fp) c_scale_of (ab (aa 0) af) ⟨_,d,rfl,?_,?_,?_,?_,rfl⟩)))) af)) ⟨M,M.map scL,v+d,by rw[es],by rw[List.length_map],by rw[tq.len]; omega,λr hr=>⟨by rw[tq.row r hr]; omega,λx hx=>(hq r hr x hx).sq⟩,by omega,?_,rfl⟩)) af) ⟨R,m,n,_,by rw[hRR],ok,rfl⟩) ?_
 . rw[tq.row _ (de (by simpa using hi))]; omega
 . exact λx hx=>(hq _ (de (by simpa using hi)) x hx).den
 . rw[tq.row _ (de (by simpa using hi))]; omega
 . omega
 . intro s hs;obtain⟨r,hr,rfl⟩:=List.mem_map.mp hs;have:=iJ (d:=d) (r:=r) λx hx=>(hq _ hr x hx).den;rw[tq.row r hr]at this;exact this.mono (by omega)
 have hall:∀p∈(fdM R (kys m n (min m n))).map (·.1),getM (fdM R (kys m n (min m n))) p=some (.int (vD R p)):=λp hp=>by obtain⟨q,hq,rfl⟩:=List.mem_map.mp hp;exact dh (fI hq).1
 unfold fuO;generalize hks:(fdM R (kys m n (min m n))).map (·.1)=ks at hall;have em:(fdM R (kys m n (min m n))).map (λp=>kTT.toD p.1)=ks.map kTT.toD:=by rw[<- hks,List.map_map]; rfl
 refine bz 3 (g:=λi=>kTT.toD (ks.getD i ([],[]))) (λi τ=>(ks.take i).find? (λp=>decide (vD R p<t))=none/\∃s3,τ=[.d (tbQ M),.d (.int t),.d (.box (bxW kTT kE P w (fdM R (kys m n (min m n))))),s3]) b nd (em▸rQ (aa 2)) (cN (f:=kTT.toD) (xs:=ks) ([],[])) ⟨rfl,.un,rfl⟩ (λi hi τ h=>?_) λτ h=>?_
 . obtain⟨h0,s3,rfl⟩:=h;have hi:i<ks.length:=by simpa using hi
   have mi:ks.getD i ([],[])∈ks:=de hi;have g:=hall _ mi;have es:ks.take (i+1)=ks.take i++[ks.getD i ([],[])]:=take_snoc _ hi;generalize hp:ks.getD i ([],[])=p at g es;refine fT (bF (u0 (a:=kTT) (hd:=kE) (key:=p) hu (aa 2) (aa 3) g (rK _) eJ) (aa 1) rY) (λh=>?_) λh=>?_
   . have e:ks.find? (λp=>decide (vD R p<t))=some p:=by
       have e1:ks=ks.take i++p::ks.drop (i+1):=by have:=List.take_append_drop (i+1) ks;rw[es,List.append_assoc]at this;exact this.symm
       rw[e1,List.find?_append,h0,List.find?_cons,h];rfl
     rw[e];exact aY (b6 (ab (bG (n8 b (ab (aK (aa 3) ae (aL rfl)) af) rD)) (ab (bG (n8 b (ab (aK (aa 3) ae (aL rfl)) af) rD)) af))) rfl
   . refine aR ⟨?_,_,rfl⟩;rw[es,List.find?_append,h0,List.find?_cons,h];rfl
 . obtain⟨h0,s3,rfl⟩:=h;rw[List.length_map,List.take_of_length_le (Nat.le_refl _)]at h0;rw[h0];exact aY yC rfl
theorem p7 (F:Fun K "is_good" qual (top 27) f fd)(hb:∀x∈ar,mg x=none)(c_look_table:Cal P w K mg base k "look_table" cS)(c_first_under:Cal P w K mg base k "first_under" dD):a4 P w K mg base CX0 (k+1) f fd ["table"] (spD K ig):=by refine fnD F pP hb (by rintro _ _ ⟨_,_,_,_,_,rfl,_⟩; rfl) ?_;rintro _ _ ⟨m,n,d,v,M,rfl,t,hq,hz,rfl⟩ cdv A outer s H E b;refine tN (x_call b c_look_table (ab (aa 0) af) ⟨m,n,M,rfl,t,rfl⟩) ?_;exact aY (gX (x_call b c_first_under (ab (aa 0) (ab ae af)) ⟨m,n,d,v,M,0,rfl,t,hq,hz,rfl⟩) yC yX) rfl
end
end K49
namespace Ev
open PySem PySem.Spec PyProof.Rows L2 PySem.W
section
variable {prog:Program}{w:World}{d:Addr}{o:Obj}{es:Array DictEntry}{ep:Nat}
theorem A2 (h0:(d==sysModules)=false)(hx:o.ExactDict)(hdat:o.data=.dict es ep):KdlSrc prog w "dict" d d es.size (λi v=>∃h:i<es.size,v=es[i].key) (λh=>h.get? d=some o) where
 type:=λs h=>⟨o,h,hx.1⟩
 there:=λh e=>⟨Heap.lt_size e,Heap.lt_size e⟩
 keep:=λh h' e k=>k d (.inl rfl) o e
 notList:=by decide
 notTuple:=by decide
 hint:=λA E s Q e q=>kdl_hint_dict ⟨o,e,hx.1⟩ q
 iter:=λA s hh e=>by
   have ne:d≠s.heap.objs.size:=Nat.ne_of_lt (Heap.lt_size e);refine⟨_,λi h=>h.get? d=some o/\h.IsKeyIter s.heap.objs.size d i es.size ep,λE Q q=>qC h0 e hx hdat q,?_,Heap.get?_push_of_some _ e,⟨_,Heap.get?_push_size _ rfl,rfl,rfl⟩⟩
   exact {
     sub:=λb hb=>by rw[List.mem_singleton.mp hb]; exact List.mem_cons_self ..
     frame:=λi h h' st k=>⟨k d (by simp) o st.1,st.2.at λo e=>k _ (List.mem_cons_self ..) o e⟩
     item:=λi s' Q E hi st hQ=>qT st.2 st.1 hdat hi λh' st' sb=>hQ _ h' s'.toks ⟨hi,rfl⟩ ⟨(sb.2 d ne).trans st.1,st'⟩ λb o' hb e'=>(sb.2 b λz=>hb (by rw[z]; exact List.mem_singleton.mpr rfl)).trans e'
     done:=λs' Q E st hQ=>vB hh st.2 st.1 hdat (Nat.le_refl _) λh' eb=>hQ h' s'.toks λb o' hb e'=>eb b o' (λz=>hb (by rw[z]; exact List.mem_singleton.mpr rfl)) e'
     self:=λi s' Q E st h=>wpAny_pyIter_keyiter st.2 h }
end
section
variable {K:Type}[DecidableEq K]{a:KD K}{hd:a.dep<=7}{X:Cx}
theorem kL:∀xs:NEs K,Vals (xs.map λx=>V.ref x.2.1) (xs.map λx=>Value.ref x.2.1)
 | []=>.nil
 | _::xs=>.cons rfl (kL xs)
theorem jO (hc:X.calm=true):eQ X (.type "list") (λvs H Q=>∃d xs,vs=[.ref d]/\H d=some (dNk a hd X.prog X.w d xs)/\xs.length<=sizeLine/\∀l,H l=none->Q (.ref l) (upd H l (.lst (xs.map λx=>.ref x.2.1)))):=by
 intro pins s σ H vs us Q I r h;obtain⟨d,xs,rfl,ha,hz,q⟩:=h;obtain⟨u,rfl,rx⟩:=vals1 r;cases rx;obtain⟨⟨h0,o,es,ep,h1,h2,h3,h4,h5⟩,_⟩:=(show bA X.prog X.w H s.heap d (dNk a hd X.prog X.w d xs) from I.hok d _ ha);have hl:es.size=xs.length:=by rw[<- Array.length_toList,h4,List.length_map]
 refine kdl_call (A2 h0 h2 h3) (I.ok.hd hc) h1 (by omega) λh' tk acc' c' kp e it=>?_
 have ea:acc'.toList=xs.map λx=>Value.ref x.2.1:=by
   refine List.ext_getElem (by rw[Array.length_toList,it.1,List.length_map,hl]) λi z1 z2=>?_;rw[Array.length_toList]at z1;obtain⟨g,e⟩:=it.2 i acc'[i] (Array.getElem?_eq_getElem z1);rw[Array.getElem_toList,e];have hi:i<xs.length:=by omega
   have e:es.toList[i]?=some (entryOfKey (kd a hd X.prog X.w) xs[i]):=by rw[h4,List.getElem?_map,List.getElem?_eq_getElem hi]; rfl
   rw[Array.getElem?_toList,Array.getElem?_eq_getElem g]at e;rw[Option.some.inj e,List.getElem_map];rfl
 have e':h'.get? s.heap.objs.size=some { cls:=.type "list",dict:=none,data:=.seq (xs.map λx=>Value.ref x.2.1).toArray c',slots:=#[] }:=by rw[<- ea,Array.toArray_toList]; exact e
 exact⟨.ref s.heap.objs.size,_,I.laid (t':=tk) kp (Nat.le_refl _) (show bA X.prog X.w _ h' _ (.lst (xs.map λx=>.ref x.2.1)) from⟨by rw[List.length_map]; exact hz,_,c',kL xs,e'⟩),rfl,q _ (I.hok.fresh (Nat.le_refl _))⟩
end
end Ev
namespace Hy
open PySem PySem.Spec PyProof.Rows L2
open Ev (D Den aq KD NEs dNk fO Bx ai jO)
section
variable {K:Type}[DecidableEq K]{a:KD K}{hd:a.dep<=7}{X:Cx}{τ:List Sl}{pos p q:Pos}{k:Nat}{m:List (K×D)}
theorem EnK.refs {F:PySem.W.Frag}{G:Hp}:∀{xs:NEs K} {m:List (K×D)},EnK a F G xs m->aq F G (xs.map λx=>V.ref x.2.1) (m.map λp=>a.toD p.1)
 | _,_,.nil=>.nil
 | _,_,.cons h _ _ r=>.cons h r.refs
theorem wo (i:Nat){n:Str}(B:Bk X k)(hi:τ[i]?=some (.x (exK a hd X.prog X.w m)))(hl:m.length<=sizeLine)(hN:X.N[i]?=some n:=by rfl)
   (hv:Vis X.env.scope n:=by first | exact Or.inl rfl | exact Or.inr (Or.inl rfl) | exact Or.inr (Or.inr rfl)) (hd1:(n==("__debug__" : Str))=false:=by decide) (hcd:(n==("__classdict__" : Str))=false:=by decide)
   (hg:Gl X "list":=by rfl) (he:starEach [.Name n q] X.env=(false,eval (.Name n q) X.env)::starEach [] X.env:=by rfl) (hpl:(backTo pos (starEach [] X.env)).any (·.1)=false:=by rfl):PE X (.Call (.Name "list" p) [.Name n q] [] pos) (dE X.K true τ (.o (m.map λp=>a.toD p.1))):=
 peW (lj (jO (a:=a) (hd:=hd) B.calm) hg (B.blt _ (by decide)) (by decide +kernel) (b7 (bI (i:=i) hN hv hd1 hcd) eO he) (by decide) (by decide) he hpl) λσ H Q ⟨A,H₀,B,S,kk⟩=>by obtain⟨d,xs,e1,e2,e3,e4⟩:=S.dct hi;refine⟨_,slot_of e1,d,xs,rfl,e3,by rw[e4.length]; exact hl,λp hp=>?_⟩;obtain⟨z1,z2,z3⟩:=jy (K:=X.K) (M:=own A B) hp e4.refs;exact kk _ _ [p] z1 z2 z3
end
end Hy
namespace Ev
open PySem PySem.Spec PyProof.Rows L2
noncomputable def As (a:Addr)(o:Obj)(kv:List (Int×Int)):L2.It:=⟨λi H=>i<kv.length/\H a=some (.frz o (.dK (bL kv))),λi H x H'=>H'=H/\∃p,kv[i]?=some p/\x=.int p.2,λi H=>kv.length<=i/\H a=some (.frz o (.dK (bL kv)))⟩
theorem yq:∀{kv:List (Int×Int)} {vs:List (Key×Value)},KV (bL kv) vs->∀i (hi:i<kv.length),∃k v,vs[i]?=some (k,v)/\RelV (.int kv[i].2) v
 | [],_,_,i,hi=>absurd hi (by simp)
 | p::kv,vs,r,i,hi=>by
   unfold KV bL at r;rw[List.map_cons]at r;cases r with
   | cons h r=>
     cases i with
     | zero=>exact⟨_,_,rfl,h.2⟩
     | succ i=>obtain⟨k,v,h1,h2⟩:=yq (kv:=kv) (show KV (bL kv) _ from r) i (by simpa using hi);exact⟨k,v,by simpa using h1,by simpa using h2⟩
theorem sW {P:Program}{w:World}{K:PySem.W.Frag}{tg:Expr}(a it:Addr)(o:Obj)(kv:List (Int×Int))(es:Array DictEntry)(ep:Nat)(hd:o.data=.dict es ep):
   Turn P w K false tg (As a o kv) [it] it (λi h=>i<=kv.length/\h.IsValIter it a i kv.length ep) where
 mem:=by simp
 obj:=λi h st b hb=>by
   have e:b=it:=by simpa using hb
   subst e;obtain⟨o,e,c,d⟩:=st.2;exact⟨o,e,λv z=>by rw[d]at z; cases z⟩
 keep:=λi h h' st k=>⟨st.1,st.2.at λo e=>k it (by simp) o e⟩
 item:=by
   intro X hP hw hK hc i pins s σ H E I hf st hg;subst hP hw hK;obtain⟨hi,ha⟩:=hg;obtain⟨f0,f1,f2,f3,f4,f5⟩:=hf it (by simp);obtain⟨vs,rel,dd⟩:=mN I ha hd;have hl:kv.length=vs.length:=by rw[<- rel.length,bL,List.length_map]
   have st2:=st.2;rw[hl]at st2;obtain⟨k,v,hx,rv⟩:=yq rel i hi;refine wpAny_pyNext_values_item st2 dd hx λh' st' sb=>?_;have I1:Inv X pins σ H { s with heap:=h' }:=I.turned (t':=s.toks) (λb o hb e=>(sb.2 b hb).trans e) f0 f1 f3 f4 f5;obtain⟨o',e,c,d⟩:=id st';refine⟨_,rfl,jM (s:={ s with heap:=h' }) e c d (by decide) ⟨.int kv[i].2,H,I1,rv,⟨rfl,_,List.getElem?_eq_getElem hi,rfl⟩,⟨hi,by rw[hl]; exact st'⟩,λb hb=>(hf b hb).1⟩⟩
 done:=by
   intro X hP hw hK hc i pins s σ H E I hf st hg;subst hP hw hK;obtain⟨hi,ha⟩:=hg;obtain⟨f0,f1,f2,f3,f4,f5⟩:=hf it (by simp);obtain⟨vs,rel,dd⟩:=mN I ha hd;have hl:kv.length=vs.length:=by rw[<- rel.length,bL,List.length_map]
   have st2:=st.2;rw[hl]at st2;exact wpAny_pyNext_values_end (I.ok.hd hc.calm) st2 dd (List.getElem?_eq_none (by omega)) λh' eb=>⟨rfl,I.turned (t':=s.toks) (λb o hb e=>eb b o hb e) f0 f1 f3 f4 f5⟩
 self:=λ_ _ _ _ _ st h=>wpAny_pyIter_valiter st.2 h
structure M0 (X:Cx)(o:Expr)(m:Str)(apos:Pos)(cpos:Pos):Prop where
 base:attributeBase o m X.env (eval o X.env)=eval o X.env
 few:((backTo cpos (starEach [] X.env)).all (λx=>!x.1)&&(backToKw cpos (keywordEach [] X.env)).all (λx=>x.1.isSome)
   && decide (([]:List Expr).length+([]:List Keyword).length+(if ([]:List Keyword).isEmpty then 0 else 1)<30))=true
 line:(apos.endLine==cpos.line)=true
 trees:backTo cpos (starEach [] X.env)=[]
section
variable {X:Cx}{tg:Expr}
def tJ (tl:TE):TI:=λσ H R=>tl σ H λx H1=>∃a o kv,x=.ref a/\H1 a=some (.frz o (.dK (bL kv)))/\R (As a o kv) H1
theorem oG {l:Expr}{tl:TE}{apos cpos:Pos}(hc:X.calm=true)(hl:PE X l tl)(m:M0 X l "values" apos cpos):PI X tg (.Call (.Attribute l "values" apos) [] [] cpos) (tJ tl):=by
 intro pins s σ H R I h;refine wpAny_Call_method m.base m.few m.line PySem.F.plainAttrs_dict PySem.F.slot_dict_values PySem.F.type_dict_values (thn (hl pins s σ H _ I h) λu s1 ⟨x,H1,I1,r1,a,o,kv,ex,ha,q⟩=>?_);subst ex;obtain rfl:u=Value.ref a:=r1;obtain⟨e,ok⟩:=(show bA X.prog X.w H1 s1.heap a (.frz o (.dK (bL kv))) from I1.hok a _ ha);obtain⟨z,hd,vs,rel,o',es,ep,e',r⟩:=ok;rw[e]at e';cases e';have dd:s1.heap.DictAt (bq X.prog X.w) a vs ep:=⟨o,es,e,r⟩;refine⟨dd.dictOf.typeIs,λc ec=>(by cases ec; exact⟨o,e,r.1.2.1⟩),?_⟩;rw[m.trees];refine Calls.callWith_builtin rfl (PySem.evalArgs_none ?_);refine call_meetsIn PySem.F.slot_dict_values dd.dictOf.typeIs PySem.F.entry_dict_values (PySem.F.args_dict_values_1 _) (meets_dict_values (bq X.prog X.w) a hd) ⟨⟨vs,dd.dictOf⟩,?_⟩;have I2:Inv X pins σ H1 { s1 with heap:=s1.heap.push { cls:=.type "dict_values",data:=.fields #[.ref a] } }:=I1.kept (t':=s1.toks) λb o e=>Heap.get?_push_of_some _ e;have hv:vs.length=kv.length:=by rw[<- rel.length,bL,List.length_map]
 refine wpAny_pyIter_values (knd:=bq X.prog X.w) (kvs:=vs) (ep:=ep) ⟨_,Heap.get?_push_size _ rfl,rfl,rfl⟩ (dd.push _) ?_;refine⟨false,_,[(s1.heap.push { cls:=.type "dict_values",data:=.fields #[.ref a] }).objs.size],_,_,H1,rfl,I2.kept (t':=s1.toks) λb o e=>Heap.get?_push_of_some _ e,.inl hc,sW a _ o kv es ep r.2.1,⟨Nat.zero_le _,?_⟩,λb hb=>?_,q⟩
 . rw[<- hv];exact⟨_,Heap.get?_push_size _ rfl,rfl,rfl⟩
 . have e:b=(s1.heap.push { cls:=.type "dict_values",data:=.fields #[.ref a] }).objs.size:=by simpa using hb
   subst e;exact I2.jX (Nat.le_refl _) (I2.hok.fresh (Nat.le_refl _))
end
end Ev
namespace Hy
open PySem PySem.Spec PyProof.Rows L2
open Ev (D Den aq Bx ai bL As tJ oG M0)
section
variable {X:Cx}{C:Bool}{τ:List Sl}{e tg:Expr}{p apos cpos:Pos}{m:List (Int×Int)}
theorem xW (h:PE X e (dE X.K true τ (.d (.box (bxZ m)))))(hc:X.calm=true:=by first | rfl | assumption)(m0:M0 X e "values" apos cpos:=by exact⟨rfl,rfl,rfl,rfl⟩):PI X tg (.Call (.Attribute e "values" apos) [] [] cpos) (dI X.K τ (m.map λp=>.int p.2)):=piW (oG hc h m0) λσ H R ⟨A,H₀,B,S,k⟩=>aT S λv H1 e1 d1=>by
 cases d1 with
 | box h=>
   obtain⟨o,g⟩:=h;refine⟨_,o,m,rfl,aN _ _ g,k _ H1 e1 λH2 sg=>⟨λi hi=>⟨by simpa using hi,sg _ _ g⟩,λi hi=>⟨⟨by simpa using hi,sg _ _ g⟩,λx H' ⟨eH,p,hp,ex⟩=>?_⟩⟩⟩;subst eH ex;refine⟨ah.refl _,λM _ _=>?_⟩;have hi':i<m.length:=by simpa using hi
   rw[List.getElem?_eq_getElem hi']at hp;cases hp;rw[List.getElem_map];exact .int
theorem B7 (h:PE X e (dE X.K C τ (.x (exZ m)))):PE X e (dE X.K C τ (.d (.box (bxZ m)))):=by
 intro pins s σ H Q I q;obtain⟨A,H₀,B,S,kk⟩:=c9 q;have vd:=S.vd (C:=C);refine thn (h pins s σ H (λv H'=>∃d,v=.ref d/\ah H H'/\H d=none/\H' d=some (.dK (bL m))) I ⟨A,H₀,B,S,λv H' bs e hf ⟨d,o,h1,h2,h3,h4⟩=>?_⟩) λu s1 ⟨x,H1,I1,rx,d,ex,e,hn,h3⟩=>?_
 . cases h2;cases (show o=_ from h4);subst h1;exact⟨d,rfl,e,(hf d (List.mem_singleton.mpr rfl)).1,h3⟩
 . subst ex;obtain⟨z,hd0,vs,rel,dd⟩:=qY I1.hok h3;obtain⟨o,es,ep,e0,r⟩:=id dd;have I2:Inv X pins σ (upd H1 d (.frz o (.dK (bL m)))) s1:=eN (t':=s1.toks) (h':=s1.heap) I1 (by rw[h3]; exact True.intro) (.refl _ _) ⟨o,e0⟩ ⟨e0,mv z hd0 rel dd⟩;have un:¬vw C A B d:=λz=>by obtain⟨_,q⟩:=vd d z;rw[hn]at q;cases q
   refine⟨.ref d,_,I2,rx,kk _ _ (λb o' hb=>?_) (.box ⟨o,ag.mpr ⟨un,aB⟩⟩)⟩;rw[au (λz=>by rw[z,hn]at hb; cases hb)];exact e b o' hb
end
end Hy
namespace K49
open PySem PySem.Spec PyProof.Rows L2 Hy
open Ev (D Den aq aD aH)
noncomputable def bQ (n:Nat)(rs:List (List Int)):List (Int×Int):=rs.foldl (λkv r=>bw n r kv kv.length) [(0,1)]
theorem eA (n:Nat)(rs:List (List Int))(r:List Int):bQ n (rs++[r])=bw n r (bQ n rs) (bQ n rs).length:=by unfold bQ; rw[List.foldl_append]; rfl
theorem oB (n:Nat)(rs:List (List Int)):∀i,i<=rs.length->RI n i (dtM rs) (bQ n (rs.take i))
 | 0,_=>RI.zero n _
 | i+1,h=>by have e:rs.take (i+1)=rs.take i++[rs.getD i []]:=take_snoc _ (by omega);rw[e,eA];exact(oB n rs i (by omega)).step λj _=>rfl
theorem iw (n:Nat)(rs:List (List Int)):RI n rs.length (dtM rs) (bQ n rs):=by
 have:=oB n rs rs.length (Nat.le_refl _)
 rwa [List.take_of_length_le (Nat.le_refl _)]at this
theorem hE (n:Nat)(rs:List (List Int)):∀i,i<=rs.length->(bQ n (rs.take i)).length<=n^i
 | 0,_=>Nat.le_refl 1
 | i+1,h=>by have e:rs.take (i+1)=rs.take i++[rs.getD i []]:=take_snoc _ (by omega);rw[e,eA,Nat.pow_succ];exact Nat.le_trans (hR _ _ _ _) (Nat.mul_le_mul_right _ (hE n rs i (by omega)))
theorem uZ {kv:List (Int×Int)}{k v:Int}{q:Int×Int}(h:q∈eY kv k v):q.2=v\/q∈kv:=by
 unfold eY at h;split at h
 . obtain⟨p,hp,e⟩:=List.mem_map.mp h;by_cases z:p.1=k
   . rw[if_pos z]at e; exact .inl (by rw[<- e])
   . rw[if_neg z]at e; exact .inr (e▸hp)
 . rcases List.mem_append.mp h with h | h
   . exact .inr h
   . exact .inl (by rw[List.mem_singleton.mp h])
theorem xO {kv:List (Int×Int)}{k:Int}{N:Nat}(h:∀q∈kv,q.2.natAbs<=N):((bP kv k).getD 0).natAbs<=N:=by
 cases e:bP kv k with
 | none=>simp
 | some v=>unfold bP at e;obtain⟨p,h1,h2⟩:=Option.map_eq_some_iff.mp e;rw[<- h2];exact h p (List.mem_of_find?_eq_some h1)
theorem qF {n:Nat}{row:List Int}{k v:Int}{kv:List (Int×Int)}{N W:Nat}(hW:∀j,(row.getD j 0*v).natAbs<=W)(h:∀q∈kv,q.2.natAbs<=N):∀c,∀q∈(cv n row k v kv c).2,q.2.natAbs<=N+c*W
 | 0,q,hq=>by have:=h q hq; omega
 | c+1,q,hq=>by
   have ih:=qF (n:=n) (k:=k) hW h c;rw[cv,kb]at hq;rw[Nat.succ_mul];split at hq
   . have:=ih q hq; omega
   . rcases uZ hq with e | hq
     . have h1:=xO (k:=jz k (n-1-c)) ih;have h2:(sgZ (cv n row k v kv c).1*row.getD (n-1-c) 0*v).natAbs<=W:=by rw[Int.mul_assoc,Int.natAbs_mul];have:=hW (n-1-c);rcases nG (cv n row k v kv c).1 with z | z <;> rw[z] <;> simpa using this
       rw[e];omega
     . have:=ih q hq; omega
theorem nr {n:Nat}{row:List Int}{kv:List (Int×Int)}{W:Nat}(hW:∀j q,q∈kv->(row.getD j 0*q.2).natAbs<=W):∀t,∀q∈bw n row kv t,q.2.natAbs<=t*n*W
 | 0,q,hq=>nomatch hq
 | t+1,q,hq=>by
   rw[bw]at hq;have ih:=nr (n:=n) hW t
   have:=qF (N:=t*n*W) (W:=W) (λj=>by
     cases e:bP kv (kv.getD t (0,0)).1 with
     | none=>simp
     | some v=>
       unfold bP at e;obtain⟨p,h1,h2⟩:=Option.map_eq_some_iff.mp e;rw[Option.getD_some,<- h2];exact hW j p (List.mem_of_find?_eq_some h1)) ih n q hq
   rw[Nat.succ_mul,Nat.add_mul];exact this
theorem nM {n b:Nat}{rs:List (List Int)}(hn:n<=7)(hl:rs.length<=7)(hr:∀r∈rs,∀x∈r,Bd b x):∀i,i<=rs.length->∀q∈bQ n (rs.take i),Bd (1+i*(b+24)) q.2
 | 0,_,q,hq=>by cases List.mem_singleton.mp hq;unfold Bd;rw[Nat.zero_mul];decide
 | i+1,h,q,hq=>by
   have e:rs.take (i+1)=rs.take i++[rs.getD i []]:=take_snoc _ (by omega);rw[e,eA]at hq;have ih:=nM hn hl hr i (by omega);have hl1:=hE n rs i (by omega);have hl2:n^i<=7^7:=Nat.le_trans (Nat.pow_le_pow_left hn i) (Nat.pow_le_pow_right (by decide) (by omega))
   have:=nr (n:=n) (row:=rs.getD i []) (W:=2^(b+(1+i*(b+24)))) (λj q hq=>by
     have h1:Bd b ((rs.getD i []).getD j 0):=by
       by_cases hj:j<(rs.getD i []).length
       . exact hr _ (bO (by omega)) _ (bO hj)
       . rw[getD_none (by omega)]; exact Nat.two_pow_pos b
     exact Nat.le_of_lt (h1.mul (ih q hq))) _ q hq
   unfold Bd;have e2:1+(i+1)*(b+24)=(b+(1+i*(b+24)))+24:=by rw[Nat.succ_mul]; omega
   rw[e2,Nat.pow_add];have p0:=Nat.two_pow_pos (b+(1+i*(b+24)));have h7:(7:Nat)^7=823543:=by decide
   have:(bQ n (rs.take i)).length*n<=823543*7:=Nat.mul_le_mul (by omega) hn;have l2:(bQ n (rs.take i)).length*n*2^(b+(1+i*(b+24)))<=823543*7*2^(b+(1+i*(b+24))):=Nat.mul_le_mul_right _ this;have l3:823543*7*2^(b+(1+i*(b+24)))<2^(b+(1+i*(b+24)))*2^24:=by rw[Nat.mul_comm];exact Nat.mul_lt_mul_of_pos_left (by decide) p0
   omega
noncomputable def lnR (R:List (List Int))(ls:List Int):List (List Int):=ls.map λi=>R.getD i.toNat []
noncomputable def vMn (R:List (List Int))(n:Nat)(ls:List Int):D:=.box (bxZ (bQ n (lnR R ls)))
noncomputable def nxK (n i:Nat)(ks:List (List Int)):List (List Int):=(ks.filter λls=>decide (ls.length<n)).map λls=>ls++[(i:Int)]
noncomputable def lks (R:List (List Int))(n:Nat):Nat->List (List Int)
 | 0=>[[]]
 | i+1=>lks R n i++nxK n i ((mkM (vMn R n) (lks R n i)).map (·.1))
theorem qx (n i:Nat)(ks:List (List Int)):(nxK n i ks).length<=ks.length:=by unfold nxK;rw[List.length_map];exact List.length_filter_le ..
theorem qV (R:List (List Int))(n:Nat):∀i,(lks R n i).length<=2^i
 | 0=>Nat.le_refl 1
 | i+1=>by have h1:=qV R n i;have h2:=qx n i ((mkM (vMn R n) (lks R n i)).map (·.1));have h3:=fH (vMn R n) (lks R n i);rw[List.length_map]at h2;rw[lks,List.length_append,Nat.pow_succ];omega
structure Ls (n i:Nat)(ls:List Int):Prop where
 len:ls.length<=n
 at_:∀x∈ls,0<=x/\x<i
theorem zH {n i:Nat}{ks:List (List Int)}(h:∀ls∈ks,Ls n i ls):∀ls∈nxK n i ks,Ls n (i+1) ls:=λls hs=>by
 unfold nxK at hs;obtain⟨l,hl,rfl⟩:=List.mem_map.mp hs;rw[List.mem_filter]at hl;have h1:=h l hl.1;have h2:=of_decide_eq_true hl.2;refine⟨by rw[List.length_append,List.length_singleton]; omega,λx hx=>?_⟩;rcases List.mem_append.mp hx with hx | hx
 . have:=h1.at_ x hx; omega
 . rw[List.mem_singleton.mp hx]; omega
theorem lks_ok (R:List (List Int))(n:Nat):∀i,∀ls∈lks R n i,Ls n i ls
 | 0,ls,h=>by rw[List.mem_singleton.mp h];exact⟨Nat.zero_le _,λ_ z=>nomatch z⟩
 | i+1,ls,h=>by
   have ih:=lks_ok R n i;rcases List.mem_append.mp h with h | h
   . have:=ih ls h;exact⟨this.len,λx hx=>by have:=this.at_ x hx; omega⟩
   . refine zH (λl hl=>?_) ls h;obtain⟨q,hq,rfl⟩:=List.mem_map.mp hl;exact ih _ (fI hq).1
def fW (P:Program)(w:World)(ds:List D)(r:Sl):Prop:=∃(R:List (List Int)) (m n b:Nat),ds=[.lst (R.map dtR)]/\Rw m n b R/\r=.d (.box (bxW kT hdT P w (mkM (vMn R n) (lks R n m))))
theorem mn0 (R:List (List Int))(n:Nat):mkM (vMn R n) (lks R n 0)=[([],D.box (bxZ [(0,1)]))]:=rfl
theorem vm (R:List (List Int))(n i:Nat)(ls:List Int):vMn R n (ls++[(i:Int)])=.box (bxZ (bw n (R.getD i []) (bQ n (lnR R ls)) (bQ n (lnR R ls)).length)):=by
 unfold vMn;have e:lnR R (ls++[(i:Int)])=lnR R ls++[R.getD i []]:=by unfold lnR; rw[List.map_append]; rfl
 rw[e,eA]
theorem vR (n i:Nat)(ks:List (List Int))(ls:List Int):nxK n i (ks++[ls])=nxK n i ks++if ls.length<n then [ls++[(i:Int)]] else []:=by
 unfold nxK;rw[List.filter_append,List.map_append];congr 1;by_cases h:ls.length<n
 . rw[if_pos h,List.filter_cons,if_pos (by simpa using h)]; rfl
 . rw[if_neg h,List.filter_cons,if_neg (by simpa using h)]; rfl
section
variable {P:Program}{w:World}{K:PySem.W.Frag}{mg:Str->Option Value}{base:Heap}{k:Nat}{f:Addr}{fd:FuncData}{qual:Str}
set_option maxHeartbeats 1000000 in
theorem mY (F:Fun K "_law_minors" qual (top 39) f fd)(hb:∀x∈ar,mg x=none):a4 P w K mg base CX0 (k+1) f fd ["_law_rows_here"] (spD K (fW P w)):=by
 refine fnD F iW hb (by rintro _ _ ⟨_,_,_,_,rfl,_⟩; rfl) ?_;rintro _ _ ⟨R,m,n,b0,rfl,ok,rfl⟩ cdv A outer s H E b;have nd:=iW.nd;have hu:(Xc P w K mg base ["_law_rows_here","_law_wide","_law_made_here","_law_i","_law_lines","_law_longer","_law_mask","_law_behind_it","_law_j","_law_key","_law_part"] qual (top 39) f cdv A outer s H E).A.units+16<cLine:=Nat.lt_of_le_of_lt (Nat.add_le_add_left (by decide:16<=64) _) b.room.units;have hu1:(Xc P w K mg base ["_law_rows_here","_law_wide","_law_made_here","_law_i","_law_lines","_law_longer","_law_mask","_law_behind_it","_law_j","_law_key","_law_part"] qual (top 39) f cdv A outer s H E).A.units+1<cLine:=Nat.lt_of_le_of_lt (Nat.add_le_add_left (by decide:1<=64) _) b.room.units;obtain⟨⟨m1,m7⟩,n1,n7⟩:=And.intro ok.m1 ok.n1;have lR:(R.map dtR).length=m:=by rw[List.length_map,ok.len]
 have r0:(R.getD 0 []).length=n:=(ok.row _ (bO (by rw[ok.len]; omega))).1;have lr0:((R.getD 0 []).map D.int).length=n:=by rw[List.length_map,r0]
 have a0:atI (R.map dtR) 0=some (dtR (R.getD 0 [])):=mE (i:=0) (by decide) (by rw[ok.len]; show 0<m; omega);refine aI 1 nd (bM b (ab (aK (aa 0) ae (a7 a0)) af) (Aa lr0)) ?_;generalize e:Expr.Dict [some (Expr.Tuple [] 0 _)] _ _=ex;refine aI 2 nd (s:=.x (exK kT hdT P w [([],D.box (bxZ [(0,1)]))])) ?_ ?_ (hs:=by subst e; rfl)
 . subst e;generalize e:Expr.Dict [some (Expr.Constant _ _ _)] _ _=ex;refine pF (a:=kT) (hd:=hdT) (key:=[]) (x:=D.box (bxZ [(0,1)])) hu ?_ ?_ (cG [])
   . show PE _ _ (dE _ _ _ (.d (.tup [])));exact b6 af
   . subst e;exact B7 yO
 refine bz 3 (λi τ=>i<=m/\∃s3 s4 s5 s6 s7 s8 s9 s10,τ=[.d (.lst (R.map dtR)),.d (.int n),.x (exK kT hdT P w (mkM (vMn R n) (lks R n i))),s3,s4,s5,s6,s7,s8,s9,s10]) b nd (cC b (bM b (ab (aa 0) af) (Aa lR)) (by omega) (by omega)) cB ⟨Nat.zero_le _,.un,.un,.un,.un,.un,.un,.un,.un,by rw[mn0]; rfl⟩ (λi hi τ h=>?_) λτ h=>?_
 . obtain⟨_,s3,s4,s5,s6,s7,s8,s9,s10,rfl⟩:=h;have hi:i<m:=by rw[aw]at hi; omega
   have hiR:i<R.length:=by rw[ok.len]; exact hi
   have hrow:=ok.row _ (bO (d:=[]) hiR);have aRi:atI (R.map dtR) (i:Int)=some (dtR (R.getD i [])):=mE (i:=(i:Int)) (by omega) (by omega);have kl:=fH (vMn R n) (lks R n i);have ll:=qV R n i;have p2:2^i<=2^7:=Nat.pow_le_pow_right (by decide) (by omega);have hks:∀ls∈(mkM (vMn R n) (lks R n i)).map (·.1),ls∈lks R n i:=λls h=>by obtain⟨q,hq,rfl⟩:=List.mem_map.mp h;exact(fI hq).1
   have lkl:((mkM (vMn R n) (lks R n i)).map (·.1)).length<=128:=by rw[List.length_map]; omega
   have eL:lks R n (i+1)=lks R n i++nxK n i ((mkM (vMn R n) (lks R n i)).map (·.1)):=rfl;have em:(mkM (vMn R n) (lks R n i)).map (λp=>kT.toD p.1)=((mkM (vMn R n) (lks R n i)).map (·.1)).map kT.toD:=by rw[List.map_map]; rfl
   refine bz 4 (g:=λl=>kT.toD (((mkM (vMn R n) (lks R n i)).map (·.1)).getD l [])) (λl τ=>∃s4 s5 s6 s7 s8 s9 s10,τ=[.d (.lst (R.map dtR)),.d (.int n),.x (exK kT hdT P w (mkM (vMn R n) (lks R n i++nxK n i (((mkM (vMn R n) (lks R n i)).map (·.1)).take l)))),.d (.int (i:Nat)),s4,s5,s6,s7,s8,s9,s10]) b nd (em▸a6 (bG (wo 2 (a:=kT) (hd:=hdT) b rfl (Nat.le_trans kl (Nat.le_trans ll (Nat.le_trans p2 (by decide))))))) (cN (f:=kT.toD) []) ⟨s4,s5,s6,s7,s8,s9,s10,by rw[List.take_zero]; show _=[_,_,Sl.x (exK kT hdT P w (mkM (vMn R n) (lks R n i++[]))),_,_,_,_,_,_,_,_]; rw[List.append_nil]; rfl⟩ (λl hl τ h=>?_) λτ h=>?_
   . obtain⟨s4,s5,s6,s7,s8,s9,s10,rfl⟩:=h;generalize (mkM (vMn R n) (lks R n i)).map (·.1)=ks at hl hks lkl;have hl:l<ks.length:=by simpa using hl
     have hs:=hks _ (bO (d:=[]) hl);have es:ks.take (l+1)=ks.take l++[ks.getD l []]:=take_snoc _ hl;rw[es,vR];generalize ks.getD l []=ls at hs;have okl:=lks_ok R n i ls hs;have nl:=qx n i (ks.take l);rw[List.length_take]at nl;generalize nxK n i (ks.take l)=nx at nl;have gK:getM (mkM (vMn R n) (lks R n i++nx)) ls=some (.box (bxZ (bQ n (lnR R ls)))):=dh (v:=vMn R n) (List.mem_append_left _ hs);have ml:=fH (vMn R n) (lks R n i++nx);rw[List.length_append]at ml;have lnl:(lnR R ls).length=ls.length:=by unfold lnR; rw[List.length_map]
     have RIk:=iw n (lnR R ls);have kvl:=hE n (lnR R ls) _ (Nat.le_refl _)
     have kvb:=nM (n:=n) (b:=b0) (rs:=lnR R ls) n7 (by have:=okl.len; omega) (λr hr x hx=>by
       unfold lnR at hr;obtain⟨y,hy,rfl⟩:=List.mem_map.mp hr;have:=okl.at_ y hy;exact(ok.row _ (bO (by rw[ok.len]; omega))).2 x hx) _ (Nat.le_refl _)
     rw[List.take_of_length_le (Nat.le_refl _)]at kvl kvb;have kv7:n^(lnR R ls).length<=7^7:=Nat.le_trans (Nat.pow_le_pow_left n7 _) (Nat.pow_le_pow_right (by decide) (by have:=okl.len; omega));have h77:(7:Nat)^7=823543:=by decide
     have vS:=vm R n i ls;generalize bQ n (lnR R ls)=kv at gK RIk kvl kvb vS;generalize hRow:R.getD i []=row at hrow aRi vS;refine aI 5 nd yV ?_;refine bz 6 (g:=λt=>.int (kv.getD t (0,0)).1) (λt τ=>∃s6 s7 s8 s9 s10,τ=[.d (.lst (R.map dtR)),.d (.int n),.x (exK kT hdT P w (mkM (vMn R n) (lks R n i++nx))),.d (.int (i:Nat)),.d (kT.toD ls),.x (exZ (bw n row kv t)),s6,s7,s8,s9,s10]) b nd (xA (pV 2 (a:=kT) (hd:=hdT) (key:=ls) hu rfl (aa 4) gK (cG _) eJ)) wy ⟨s6,s7,s8,s9,s10,rfl⟩ (λt ht τ z=>?_) λτ z=>?_
     . obtain⟨s6,s7,s8,s9,s10,rfl⟩:=z;have ht:t<kv.length:=by simpa using ht
       have hq:kv.getD t (0,0)∈kv:=bO ht;have hg:bP kv (kv.getD t (0,0)).1=some (kv.getD t (0,0)).2:=pZ RIk.nd hq;have hv:=kvb _ hq;have hml:=hR n row kv t;have hml2:t*n<=823543*7:=Nat.mul_le_mul (by omega) n7;have eM:bw n row kv (t+1)=(cv n row (kv.getD t (0,0)).1 (kv.getD t (0,0)).2 (bw n row kv t) n).2:=by rw[bw,hg]; rfl
       rw[eM];generalize bw n row kv t=lk at hml;generalize (kv.getD t (0,0)).1=mk at hg;generalize (kv.getD t (0,0)).2=v at hg hv;refine aI 7 nd ae ?_;refine bz 8 (g:=λc=>.int ((n-1-c:Nat):Int)) (λc τ=>∃s8 s9 s10,τ=[.d (.lst (R.map dtR)),.d (.int n),.x (exK kT hdT P w (mkM (vMn R n) (lks R n i++nx))),.d (.int (i:Nat)),.d (kT.toD ls),.x (exZ (cv n row mk v lk c).2),.d (.int mk),.d (.int (cv n row mk v lk c).1),s8,s9,s10]) b nd (De (n:=n) b (aa 1) (by omega)) Dh ⟨s8,s9,s10,rfl⟩ (λc hc τ z=>?_) λτ z=>?_
       . obtain⟨s8,s9,s10,rfl⟩:=z;have hc:c<n:=by rw[gG]at hc; exact hc
         have hcl:=jD n row mk v lk c;have hj:n-1-c<row.length:=by rw[hrow.1]; omega
         have eC:cv n row mk v lk (c+1)=kb row mk v (n-1-c) (cv n row mk v lk c):=rfl;rw[eC];generalize cv n row mk v lk c=st at hcl;generalize n-1-c=j at hj;have j7:j<7:=by have:=hrow.1; omega
         refine i5 (M:=λτ=>∃s8 s9 s10,τ=[.d (.lst (R.map dtR)),.d (.int n),.x (exK kT hdT P w (mkM (vMn R n) (lks R n i++nx))),.d (.int (i:Nat)),.d (kT.toD ls),.x (exZ (kb row mk v j st).2),.d (.int mk),.d (.int (kb row mk v j st).1),s8,s9,s10]) (bF (aJ (aJ (aa 6) (aa 8) (BC (by omega))) ae BL) ae ie) (λz=>?_) (λz=>?_) λτ z=>by obtain⟨s8,s9,s10,rfl⟩:=z;exact aR ⟨s8,s9,s10,rfl⟩
         . have z:qg mk j=true:=by unfold qg;rw[Int.toNat_natCast]at z;exact z
           have e:kb row mk v j st=(st.1+1,st.2):=by unfold kb; rw[if_pos z]
           rw[e];exact aI 7 nd (aJ (aa 7) ae bE) (aR ⟨_,_,_,rfl⟩)
         . have z:qg mk j=false:=by unfold qg;rw[Int.toNat_natCast]at z;exact z
           have e:kb row mk v j st=(st.1,eY st.2 (jz mk j) ((bP st.2 (jz mk j)).getD 0+sgZ st.1*row.getD j 0*v)):=by unfold kb; rw[if_neg (by rw[z]; decide)]
           have hx:Bd b0 (row.getD j 0):=hrow.2 _ (bO hj)
           have s2:aD (row.getD j 0) v:=hx.aD hv (by have:=ok.b1; omega) (by
             have:=ok.b1;have:(lnR R ls).length*(b0+24)<=7*(b0+24):=Nat.mul_le_mul_right _ (by have:=okl.len; omega);omega)
           rw[e];refine aI 9 nd (aJ (aa 6) (aJ ae (aa 8) (Cb ⟨by omega,by omega,by decide⟩)) Dc) ?_;rw[Int.toNat_natCast];show PSs _ _ (dS K [.d (.lst (R.map dtR)),.d (.int n),.x (exK kT hdT P w (mkM (vMn R n) (lks R n i++nx))),.d (.int (i:Nat)),.d (kT.toD ls),.x (exZ st.2),.d (.int mk),.d (.int st.1),.d (.int (j:Nat)),.d (.int (jz mk j)),_] _);refine aI 10 nd (aJ (aK (aK (aa 0) (aa 3) (a7 aRi)) (aa 8) (a7 (atR hj))) (AJ hu1 (pV 2 (a:=kT) (hd:=hdT) (key:=ls) hu rfl (aa 4) gK (cG _) eJ) (aa 6) hg eJ) (aX s2)) ?_;refine i5 (M:=λτ=>τ=[.d (.lst (R.map dtR)),.d (.int n),.x (exK kT hdT P w (mkM (vMn R n) (lks R n i++nx))),.d (.int (i:Nat)),.d (kT.toD ls),.x (exZ st.2),.d (.int mk),.d (.int st.1),.d (.int (j:Nat)),.d (.int (jz mk j)),.d (.int (sgZ st.1*row.getD j 0*v))]) (bF (aJ (aa 7) ae (eU (by decide))) ae ie) (λz=>?_) (λz=>?_) λτ z=>?_
           . have z:=of_decide_eq_true z;have e2:sgZ st.1=-1:=by unfold sgZ; rw[z]; rfl
             rw[e2,Int.mul_assoc,Int.neg_mul,Int.one_mul];exact aI 10 nd (kX (aa 10)) (aR rfl)
           . have z:=of_decide_eq_false z
             have e2:sgZ st.1=1:=by
               rcases nG st.1 with h | h
               . exact h
               . unfold sgZ at h; omega
             rw[e2,Int.one_mul];exact aR rfl
           . rw[z];refine zx 5 hu1 rfl (aa 9) (aJ (xr 5 hu1 rfl (aa 9) ae) (aa 10) bE) ?_ (aR ⟨_,_,_,rfl⟩);have:sizeLine>10000000:=by decide
             omega
       . obtain⟨s8,s9,s10,rfl⟩:=z;rw[gG];exact aR ⟨_,_,_,_,_,rfl⟩
     . obtain⟨s6,s7,s8,s9,s10,rfl⟩:=z;rw[List.length_map];refine Cv 5 ?_;refine i5 (M:=λτ=>∃s4 s5 s6 s7 s8 s9 s10,τ=[.d (.lst (R.map dtR)),.d (.int n),.x (exK kT hdT P w (mkM (vMn R n) (lks R n i++(nx++if ls.length<n then [ls++[(i:Int)]] else [])))),.d (.int (i:Nat)),s4,s5,s6,s7,s8,s9,s10]) (bF (bM b (ab (aa 4) af) mq) (aa 1) rY) (λz=>?_) (λz=>?_) λτ z=>aR z
       . have z:=of_decide_eq_true z;rw[List.length_map]at z;rw[if_pos (by omega),<- List.append_assoc,gW,vS];refine my 2 (a:=kT) (hd:=hdT) (key:=ls++[(i:Int)]) hu rfl ?_ (aa 5) (Nat.le_trans ml ?_) (cG _) (aR ⟨_,_,_,_,_,_,_,rfl⟩)
         . have e:kT.toD (ls++[(i:Int)])=.tup (ls.map D.int++[.int (i:Nat)]):=by show D.tup ((ls++[(i:Int)]).map D.int)=_; rw[List.map_append]; rfl
           rw[e];exact aJ (aa 4) (b6 (ab (aa 3) af)) (pU (by rw[List.length_map]; have:=okl.len; show _+1<_; omega))
         . have:sizeLine>10000000:=by decide
           omega
       . have z:=of_decide_eq_false z;rw[List.length_map]at z;rw[if_neg (by omega),List.append_nil];exact aR ⟨_,_,_,_,_,_,_,rfl⟩
   . obtain⟨s4,s5,s6,s7,s8,s9,s10,rfl⟩:=h;refine aR ⟨hi,.d (.int (i:Nat)),s4,s5,s6,s7,s8,s9,s10,?_⟩;rw[eL,List.length_map,List.take_of_length_le (Nat.le_refl _)]
 . obtain⟨_,s3,s4,s5,s6,s7,s8,s9,s10,rfl⟩:=h;refine yh 2 (a:=kT) (hd:=hdT) (aY (aa 2) ?_);rw[aw,Int.toNat_natCast];rfl
end
noncomputable def sg1 (x:Int):Int:=if 0<x then 1 else if x<0 then -1 else 0
noncomputable def lsV (a:Int)(kv:List (Int×Int)):Int:=kv.foldl (λa p=>min a (sg1 p.2)) a
noncomputable def lsA (R:List (List Int))(n:Nat)(a:Int)(ks:List (List Int)):Int:=ks.foldl (λa ls=>lsV a (bQ n (lnR R ls))) a
theorem uj (a:Int)(kv:List (Int×Int))(p:Int×Int):lsV a (kv++[p])=min (lsV a kv) (sg1 p.2):=by unfold lsV; rw[List.foldl_append]; rfl
theorem wb (R:List (List Int))(n:Nat)(a:Int)(ks:List (List Int))(ls:List Int):lsA R n a (ks++[ls])=lsV (lsA R n a ks) (bQ n (lnR R ls)):=by unfold lsA; rw[List.foldl_append]; rfl
def c8 (ds:List D)(r:Sl):Prop:=∃(R:List (List Int)) (m n b:Nat),ds=[.lst (R.map dtR)]/\Rw m n b R/\r=.d (.int (lsA R n 1 ((mkM (vMn R n) (lks R n m)).map (·.1))))
theorem xI {m:List (Int×Int)}:∀i (h:i<(m.map λp=>D.int p.2).length),(m.map λp=>D.int p.2)[i]=.int (m.getD i (0,0)).2:=λi h=>by
 have:i<m.length:=by simpa using h
 simp[this]
section
variable {P:Program}{w:World}{K:PySem.W.Frag}{mg:Str->Option Value}{base:Heap}{k:Nat}{f:Addr}{fd:FuncData}{qual:Str}
set_option maxHeartbeats 1000000 in
theorem iY (F:Fun K "_law_least_sign" qual (top 40) f fd)(hb:∀x∈ar,mg x=none)(c_l_minors:Cal P w K mg base k "_law_minors" (fW P w)):a4 P w K mg base CX0 (k+1) f fd ["_law_rows_here"] (spD K c8):=by
 refine fnD F eT hb (by rintro _ _ ⟨_,_,_,_,rfl,_⟩; rfl) ?_;rintro _ _ ⟨R,m,n,b0,rfl,ok,rfl⟩ cdv A outer s H E b;have nd:=eT.nd;have hu:(Xc P w K mg base ["_law_rows_here","_law_least","_law_made_here","_law_lines","_law_worth"] qual (top 40) f cdv A outer s H E).A.units+16<cLine:=Nat.lt_of_le_of_lt (Nat.add_le_add_left (by decide:16<=64) _) b.room.units;refine aI 1 nd ae ?_;refine aI 2 nd (x_call b c_l_minors (ab (aa 0) af) ⟨R,m,n,b0,rfl,ok,rfl⟩) ?_;have hall:∀ls∈(mkM (vMn R n) (lks R n m)).map (·.1),getM (mkM (vMn R n) (lks R n m)) ls=some (.box (bxZ (bQ n (lnR R ls)))):=λls h=>by obtain⟨q,hq,rfl⟩:=List.mem_map.mp h;exact dh (v:=vMn R n) (fI hq).1
 generalize hks:(mkM (vMn R n) (lks R n m)).map (·.1)=ks at hall;have em:(mkM (vMn R n) (lks R n m)).map (λp=>kT.toD p.1)=ks.map kT.toD:=by rw[<- hks,List.map_map]; rfl
 refine bz 3 (g:=λi=>kT.toD (ks.getD i [])) (λi τ=>∃s3 s4,τ=[.d (.lst (R.map dtR)),.d (.int (lsA R n 1 (ks.take i))),.d (.box (bxW kT hdT P w (mkM (vMn R n) (lks R n m)))),s3,s4]) b nd (em▸rQ (aa 2)) (cN (f:=kT.toD) (xs:=ks) []) ⟨.un,.un,rfl⟩ (λi hi τ h=>?_) λτ h=>?_
 . obtain⟨s3,s4,rfl⟩:=h;have hi:i<ks.length:=by simpa using hi
   have gK:=hall _ (bO (d:=[]) hi);have es:ks.take (i+1)=ks.take i++[ks.getD i []]:=take_snoc _ hi;rw[es,wb];generalize ks.getD i []=ls at gK;generalize lsA R n 1 (ks.take i)=a0;generalize bQ n (lnR R ls)=kv at gK;refine bz 4 (g:=λt=>.int (kv.getD t (0,0)).2) (λt τ=>∃s4,τ=[.d (.lst (R.map dtR)),.d (.int (lsV a0 (kv.take t))),.d (.box (bxW kT hdT P w (mkM (vMn R n) (lks R n m)))),.d (kT.toD ls),s4]) b nd (xW (u0 (a:=kT) (hd:=hdT) (key:=ls) hu (aa 2) (aa 3) gK (cG _) eJ)) xI ⟨s4,rfl⟩ (λt ht τ z=>?_) λτ z=>?_
   . obtain⟨s4,rfl⟩:=z;have ht:t<kv.length:=by simpa using ht
     have es:kv.take (t+1)=kv.take t++[kv.getD t (0,0)]:=take_snoc _ ht;rw[es,uj];generalize (kv.getD t (0,0)).2=x;refine aI 1 nd (bM b (ab (aa 1) (ab (aJ (n8 b (ab (gX (aa 4) ae pL) af) yF) (n8 b (ab (gX (aa 4) ae rY) af) yF) iX) af)) (ya b.calm)) (aR ⟨.d (.int x),?_⟩)
     have e:(if ((if decide (x>0)=true then (1:Int) else 0)-(if decide (x<0)=true then (1:Int) else 0))<lsV a0 (kv.take t) then ((if decide (x>0)=true then (1:Int) else 0)-(if decide (x<0)=true then (1:Int) else 0)) else lsV a0 (kv.take t))=min (lsV a0 (kv.take t)) (sg1 x):=by
       have e1:((if decide (x>0)=true then (1:Int) else 0)-(if decide (x<0)=true then (1:Int) else 0))=sg1 x:=by unfold sg1;simp only[decide_eq_true_eq];split <;> split <;> (try split) <;> omega
       rw[e1];split <;> omega
     exact congrArg (λy=>[Sl.d (.lst (R.map dtR)),Sl.d (.int y),Sl.d (.box (bxW kT hdT P w (mkM (vMn R n) (lks R n m)))),Sl.d (kT.toD ls),Sl.d (.int x)]) e
   . obtain⟨s4,rfl⟩:=z;refine aR ⟨.d (kT.toD ls),s4,?_⟩;rw[List.length_map,List.take_of_length_le (Nat.le_refl _)]
 . obtain⟨s3,s4,rfl⟩:=h;refine aY (aa 1) ?_;rw[List.length_map,List.take_of_length_le (Nat.le_refl _)]
end
theorem qw {f:List Int->Int}{row c:List Int}{g:Nat->Rat}{m:Nat}(hl:c.length=m+1)(hg:∀k,k<m+1->((alP f row c k:Int):Rat)=g k):∀k,k<=m+1->((alS f row c k:Int):Rat)=aG (λk=>sgn (m-k)*g k) k
 | 0,_=>rfl
 | k+1,h=>by
   have ih:=qw hl hg k (by omega);rw[alS,aG,<- ih,<- hg k (by omega),hl];unfold sgn;rw[Int.fmod_eq_emod_of_nonneg _ (by decide)];by_cases z:(m-k)%2=0
   . rw[if_pos z,if_neg (by omega),Rat.intCast_add,Rat.one_mul]
   . rw[if_neg z,if_pos (by omega),Rat.intCast_sub,Rat.sub_eq_add_neg,Rat.neg_mul,Rat.one_mul]
theorem oR {M M':Nat->Nat->Rat}{L:List Nat}(h:∀r,r<L.length->∀j,M r j=M' r j):du M L=du M' L:=by unfold du;exact aj λr hr q _=>h r hr _
theorem vi (R:List (List Int))(ls:List Int)(t r j:Nat)(h:r<t):dtM (lnR R (ls.take t)) r j=dtM (lnR R ls) r j:=by
 have e:(lnR R (ls.take t)).getD r []=(lnR R ls).getD r []:=by unfold lnR;rw[List.map_take,List.getD_eq_getElem?_getD,List.getD_eq_getElem?_getD,List.getElem?_take_of_lt h]
 unfold dtM;rw[e]
theorem q0 (c:List Int)(k:Nat):(ers c k).map Int.toNat=(c.map Int.toNat).eraseIdx k:=by unfold ers;rw[List.eraseIdx_eq_take_drop_succ,List.map_append,List.map_take,List.map_drop]
theorem ja (R:List (List Int)):∀(t:Nat) (ls c:List Int),ls.length=t->c.length=t->((dtm R t ls c:Int):Rat)=du (dtM (lnR R ls)) (c.map Int.toNat)
 | 0,ls,c,_,hc=>by cases List.length_eq_zero_iff.mp hc;rfl
 | t+1,ls,c,hl,hc=>by
   have hL:(c.map Int.toNat).length=t+1:=by rw[List.length_map,hc]
   rw[ju hL,dtm];unfold alR;rw[hc]
   have:=qw (f:=dtm R t (ls.take t)) (row:=R.getD (fD ls).toNat []) (c:=c) (g:=λk=>dtM (lnR R ls) t ((c.map Int.toNat).getD k 0)*du (dtM (lnR R ls)) ((c.map Int.toNat).eraseIdx k)) hc (λk hk=>by
     unfold alP;have e1:(c.map Int.toNat).getD k 0=(c.getD k 0).toNat:=by simp[show k<c.length by omega]
     have e2:(lnR R ls).getD t []=R.getD (fD ls).toNat []:=by unfold lnR fD;rw[hl];simp[show t<ls.length by omega]
     have l2:(ers c k).length=t:=by have:=congrArg List.length (q0 c k);rw[List.length_map,List.length_eraseIdx_of_lt (by omega),hL]at this;exact this
     rw[Rat.intCast_mul,ja R t (ls.take t) (ers c k) (by rw[List.length_take,hl]; omega) l2,q0];rw[e1];have e3:dtM (lnR R ls) t (c.getD k 0).toNat=(((R.getD (fD ls).toNat []).getD (c.getD k 0).toNat 0:Int):Rat):=by unfold dtM; rw[e2]
     rw[e3];refine congrArg _ (oR λr hr j=>vi R ls t r j ?_);rw[List.length_eraseIdx_of_lt (by omega),hL]at hr;omega) (t+1) (Nat.le_refl _)
   rw[this];refine aA λk hk=>?_;rw[Rat.mul_assoc]
noncomputable def lkP (n:Nat):Nat->List (List Int)
 | 0=>[[]]
 | i+1=>lkP n i++nxK n i (lkP n i)
theorem ke {κ:Type}[DecidableEq κ]{v:κ->D}{ks:List κ}{k:κ}:k∈(mkM v ks).map (·.1)↔k∈ks:=by
 constructor
 . intro h;obtain⟨q,hq,rfl⟩:=List.mem_map.mp h;exact(fI hq).1
 . intro h;exact List.mem_map.mpr ⟨_,nV (dh (v:=v) h),rfl⟩
theorem rh {n i:Nat}{ks:List (List Int)}{ls:List Int}:ls∈nxK n i ks↔∃l,l∈ks/\l.length<n/\l++[(i:Int)]=ls:=by
 unfold nxK;rw[List.mem_map];constructor
 . rintro⟨l,h,e⟩;rw[List.mem_filter]at h;exact⟨l,h.1,of_decide_eq_true h.2,e⟩
 . rintro⟨l,h,z,e⟩;exact⟨l,List.mem_filter.mpr ⟨h,decide_eq_true z⟩,e⟩
theorem lJ (R:List (List Int))(n:Nat):∀i (ls:List Int),ls∈lks R n i↔ls∈lkP n i
 | 0,_=>Iff.rfl
 | i+1,ls=>by have ih:=lJ R n i;rw[lks,lkP,List.mem_append,List.mem_append,rh,rh,ih];refine or_congr Iff.rfl (exists_congr λl=>?_);rw[ke,ih]
theorem Ag:∀n,n<8->∀m,m<8->(((lkP n m).all λls=>(chs m ls.length).contains ls&&decide (ls.length<=min m n))&&(List.range (min m n+1)).all λt=>(chs m t).all λls=>(lkP n m).contains ls)=true:=by decide +kernel
theorem zP:∀n,n<8->(((List.range (2^n)).all λS=>(chs n (cols n S).length).contains ((cols n S).map Int.ofNat))&&(List.range 8).all λt=>(chs n t).all λc=>(List.range (2^n)).any λS=>decide (cols n S=c.map Int.toNat))=true:=by decide +kernel
theorem i9 {m n k:Nat}{ls c:List Int}:(ls,c)∈kys m n k↔∃s,s<k/\ls∈chs m (s+1)/\c∈chs n (s+1):=by
 unfold kys ky1;constructor
 . intro h;obtain⟨s,hs,h⟩:=List.mem_flatMap.mp h;obtain⟨l,hl,h⟩:=List.mem_flatMap.mp h;obtain⟨d,hd,e⟩:=List.mem_map.mp h;cases e;exact⟨s,List.mem_range.mp hs,hl,hd⟩
 . rintro⟨s,hs,h1,h2⟩;exact List.mem_flatMap.mpr ⟨s,List.mem_range.mpr hs,List.mem_flatMap.mpr ⟨ls,h1,List.mem_map.mpr ⟨c,h2,rfl⟩⟩⟩
theorem tV {x y:Int}(h:(x:Rat)=(y:Rat)):x=y:=by exact_mod_cast h
theorem oJ {R:List (List Int)}{m n b:Nat}(ok:Rw m n b R){t:Int}(ht:t<=1):(∀p∈kys m n (min m n),t<=vD R p)↔∀ls∈lks R n m,∀q∈bQ n (lnR R ls),t<=q.2:=by
 have m7:=ok.m1.2;have n7:=ok.n1.2;have f1:=Bool.and_eq_true_iff.mp (Ag n (by omega) m (by omega));have f2:=Bool.and_eq_true_iff.mp (zP n (by omega));constructor
 . intro h ls hls q hq;have hP:=List.all_eq_true.mp f1.1 ls ((lJ R n m ls).mp hls);rw[Bool.and_eq_true]at hP;have hc:ls∈chs m ls.length:=by simpa using hP.1
   have hl:=of_decide_eq_true hP.2;have RIk:=iw n (lnR R ls);have lnl:(lnR R ls).length=ls.length:=by unfold lnR; rw[List.length_map]
   rw[lnl]at RIk;obtain⟨S,e1,e2,e3⟩:=RIk.key q.1 (List.mem_map.mpr ⟨q,hq,rfl⟩);have hg:=pZ RIk.nd hq;have hv:=(RIk.all S e2 e3).2;unfold gv at hv;rw[<- e1,hg,Option.getD_some]at hv;have hcc:(cols n S).map Int.ofNat∈chs n ls.length:=by have:=List.all_eq_true.mp f2.1 S (List.mem_range.mpr e2);rw[e3]at this;simpa using this
   have et:((cols n S).map Int.ofNat).map Int.toNat=cols n S:=by rw[List.map_map];exact(List.map_congr_left λx _=>rfl).trans (List.map_id _)
   have hd:=ja R ls.length ls ((cols n S).map Int.ofNat) rfl (by rw[List.length_map,e3]);rw[et,<- hv]at hd;have e:=tV hd;rw[<- e];cases hl0:ls.length with
   | zero=>exact ht
   | succ s=>have:=h (ls,(cols n S).map Int.ofNat) (i9.mpr ⟨s,by omega,by rw[<- hl0]; exact hc,by rw[<- hl0]; exact hcc⟩);unfold vD at this;rw[hl0]at this;exact this
 . rintro h ⟨ls,c⟩ hp;obtain⟨s,hs,h1,h2⟩:=i9.mp hp;have l1:=(cK m _ ls h1).len;have l2:=(cK n _ c h2).len
   have hls:ls∈lks R n m:=(lJ R n m ls).mpr (by
     have:=List.all_eq_true.mp (List.all_eq_true.mp f1.2 (s+1) (List.mem_range.mpr (by omega))) ls h1;simpa using this)
   obtain⟨S,hS,eS⟩:=List.any_eq_true.mp (List.all_eq_true.mp (List.all_eq_true.mp f2.2 (s+1) (List.mem_range.mpr (by omega))) c h2);have eS:=of_decide_eq_true eS;have RIk:=iw n (lnR R ls);have lnl:(lnR R ls).length=ls.length:=by unfold lnR; rw[List.length_map]
   rw[lnl,l1]at RIk;obtain⟨a1,a2⟩:=RIk.all S (List.mem_range.mp hS) (by rw[eS,List.length_map,l2]);have hd:=ja R (s+1) ls c l1 l2;rw[<- eS,<- a2]at hd;unfold gv at hd;have e:=tV hd;show t<=dtm R ls.length ls c;rw[l1,e];cases hg:bP (bQ n (lnR R ls)) (S:Int) with
   | none=>exact absurd hg a1
   | some v=>rw[Option.getD_some];unfold bP at hg;obtain⟨p,h3,h4⟩:=Option.map_eq_some_iff.mp hg;rw[<- h4];exact h ls hls p (List.mem_of_find?_eq_some h3)
noncomputable def qM (M:List (List Rat))(i j:Nat):Rat:=(M.getD i []).getD j 0
theorem Bw:∀n,n<8->∀t,t<8->((chs n t).all λc=>(List.range (t-1)).all λi=>decide (c.getD i 0<c.getD (i+1) 0))=true:=by decide +kernel
theorem Cz {R:List (List Int)}{ls c:List Int}{t:Nat}(hl:ls.length=t)(hc:c.length=t):((vD R (ls,c):Int):Rat)=mi (dtM R) t (λr=>(ls.getD r 0).toNat) (λj=>(c.getD j 0).toNat):=by
 unfold vD;show ((dtm R ls.length ls c:Int):Rat)=_;rw[ja R ls.length ls c rfl (by omega)];unfold du mi;rw[List.length_map,hc];refine aj λi hi j hj=>?_;unfold dtM lnR;have e1:(ls.map λi=>R.getD i.toNat []).getD i []=R.getD (ls.getD i 0).toNat []:=by simp[show i<ls.length by omega]
 have e2:(c.map Int.toNat).getD j 0=(c.getD j 0).toNat:=by simp[show j<c.length by omega]
 rw[e1,e2]
theorem qI {n t:Nat}(hn:n<=7)(ht:t<=7){c:List Int}(h:c∈chs n t):Inc t λi=>(c.getD i 0).toNat:=λi hi=>by have u:=List.all_eq_true.mp (List.all_eq_true.mp (Bw n (by omega) t (by omega)) c h) i (List.mem_range.mpr (by omega));have u:=of_decide_eq_true u;have:=((cK n t c h).at_ i (by omega)).1;show (c.getD i 0).toNat<(c.getD (i+1) 0).toNat;omega
theorem AW {M:List (List Rat)}{ss:List Int}{i j:Nat}(hi:i<M.length)(hj:j<(M.getD i []).length):((whM M ss).getD i []).getD j 0=((M.getD i []).getD j 0).num*(ss.getD i 0/(((M.getD i []).getD j 0).den:Nat)):=by
 have e:(whM M ss).getD i []=whR (M.getD i []) (ss.getD i 0):=by unfold whM; simp[hi]
 rw[e];unfold whR;rw[List.getD_eq_getElem?_getD,List.getElem?_map,List.getElem?_eq_getElem hj,List.getD_eq_getElem?_getD (l:=M.getD i []),List.getElem?_eq_getElem hj];rfl
structure Rs (T m:Nat)(p:List Int):Prop where
 len:p.length=m
 up:∀a,a+1<m->p.getD a 0<p.getD (a+1) 0
 bd:∀a,a<m->0<=p.getD a 0/\p.getD a 0<T
theorem xq {c:List Int}{x:Int}{i:Nat}(h:i<c.length):(c++[x]).getD i 0=c.getD i 0:=by simp[List.getD,List.getElem?_append_left h]
theorem qU (T:Nat):∀(m:Nat) (p:List Int),Rs T m p->p∈chs T m
 | 0,p,h=>by rw[chs,List.mem_singleton];exact List.length_eq_zero_iff.mp h.len
 | m+1,p,h=>by
   have hp:p=p.dropLast++[p.getD m 0]:=by
     have hne:p≠[]:=λz=>by rw[z]at h; exact absurd h.len (by simp)
     have:p.getLast hne=p.getD m 0:=by rw[List.getLast_eq_getElem,List.getD_eq_getElem?_getD];simp[h.len]
     rw[<- this,List.dropLast_concat_getLast]
   have hl:p.dropLast.length=m:=by rw[List.length_dropLast,h.len]; rfl
   have hg:∀a,a<m->p.dropLast.getD a 0=p.getD a 0:=λa ha=>by
     conv=>rhs; rw[hp]
     rw[xq (by omega)]
   have hd:Rs T m p.dropLast:=⟨hl,λa ha=>by rw[hg a (by omega),hg (a+1) ha]; exact h.up a (by omega),λa ha=>by rw[hg a ha]; exact h.bd a (by omega)⟩;rw[chs,List.mem_flatMap];refine⟨_,qU T m _ hd,?_⟩;unfold onC;have hb:=h.bd m (by omega)
   have hle:lea m p.dropLast<=p.getD m 0:=by
     unfold lea;by_cases z:0<m
     . rw[if_pos z,fD,hl,hg (m-1) (by omega)];have:=h.up (m-1) (by omega);rw[show m-1+1=m by omega]at this;omega
     . rw[if_neg z]; exact hb.1
   refine List.mem_map.mpr ⟨(p.getD m 0-lea m p.dropLast).toNat,List.mem_range.mpr (by omega),?_⟩;rw[Int.toNat_of_nonneg (by omega)];conv=>rhs; rw[hp]
   congr 2;omega
theorem mK {s:Nat->Rat}(h:∀i,0<s i):∀k,0<iP s k
 | 0=>by show (0:Rat)<1; decide
 | k+1=>by rw[iP];exact Rat.mul_pos (mK h k) (h k)
theorem By {M:List (List Rat)}{k:Nat}(h:k<M.length):(M.map scL).getD k 0=scL (M.getD k []):=by simp[h]
theorem Bj {m n s:Nat}{M:List (List Rat)}{ls cc:List Int}(t:Tq m n M)(l1:ls.length=s)(l2:cc.length=s)(b1:∀i,i<s->(ls.getD i 0).toNat<m)(b2:∀i,i<s->(cc.getD i 0).toNat<n):
   ((vD (whM M (M.map scL)) (ls,cc):Int):Rat)=iP (λr=>((scL (M.getD (ls.getD r 0).toNat []):Int):Rat)) s*mi (qM M) s (λr=>(ls.getD r 0).toNat) λj=>(cc.getD j 0).toNat:=by
 rw[Cz (R:=whM M (M.map scL)) l1 l2];unfold mi;rw[<- kW (n:=s) _ (λr c=>qM M (ls.getD r 0).toNat (cc.getD c 0).toNat) s (Nat.le_refl _)];refine aj λi hi j hj=>?_;rw[if_pos hi];have hi':(ls.getD i 0).toNat<M.length:=by rw[t.len]; exact b1 i hi
 have hj':(cc.getD j 0).toNat<(M.getD (ls.getD i 0).toNat []).length:=by rw[t.at_ (b1 i hi)]; exact b2 j hj
 have sc:(M.map scL).getD (ls.getD i 0).toNat 0=scL (M.getD (ls.getD i 0).toNat []):=By hi';unfold dtM;rw[AW hi' hj',sc,C0 ((jQ _).2 _ (de hj')),Rat.mul_comm];rfl
theorem yv {M:List (List Rat)}{f:Nat->Nat}:∀i,(0:Rat)<((scL (M.getD (f i) []):Int):Rat):=λi=>Rat.intCast_pos.mpr (jQ _).1
theorem zT {m n:Nat}{M:List (List Rat)}(t:Tq m n M)(h:Tnn m n (qM M)):fuO (whM M (M.map scL)) m n 0=none:=by
 refine ly.mpr λp hp=>?_;obtain⟨ls,cc⟩:=p;obtain⟨s,hs,h1,h2⟩:=i9.mp hp;have m7:=t.r7;have n7:=t.c7;have o1:=cK m (s+1) ls h1;have o2:=cK n (s+1) cc h2;have b1:∀i,i<s+1->(ls.getD i 0).toNat<m:=λi hi=>by have:=o1.at_ i hi; omega
 have b2:∀i,i<s+1->(cc.getD i 0).toNat<n:=λi hi=>by have:=o2.at_ i hi; omega
 refine Rat.intCast_nonneg.mp ?_;rw[Bj t o1.len o2.len b1 b2];exact Rat.mul_nonneg (Rat.le_of_lt (mK yv _)) (h (s+1) _ _ (qI m7 (by omega) h1) b1 (qI n7 (by omega) h2) b2)
theorem inc_le {k:Nat}{ρ:Nat->Nat}(h:Inc k ρ):∀i,i<k->i<=ρ i
 | 0,_=>Nat.zero_le _
 | i+1,hi=>by have:=inc_le h i (by omega);have:=h i hi;omega
theorem qH {m k:Nat}{ρ:Nat->Nat}(h:Inc k ρ)(b:∀i,i<k->ρ i<m):((List.range k).map λi=>((ρ i:Nat):Int))∈chs m k:=by
 have at_:∀i,i<k->((List.range k).map λi=>((ρ i:Nat):Int)).getD i 0=(ρ i:Nat):=λi hi=>by simp[hi]
 refine qU m k _ ⟨by simp,λa ha=>?_,λa ha=>?_⟩
 . rw[at_ a (by omega),at_ (a+1) ha];have:=h a ha;omega
 . rw[at_ a ha];have:=b a ha;omega
theorem zw {m n:Nat}{M:List (List Rat)}(t:Tq m n M)(h:fuO (whM M (M.map scL)) m n 0=none):Tnn m n (qM M):=by
 intro k ρ γ h1 b1 h2 b2;cases k with
 | zero=>show (0:Rat)<=1; decide
 | succ s=>
   have hm:=inc_le h1 s (by omega);have hn:=inc_le h2 s (by omega);have hm':=b1 s (by omega);have hn':=b2 s (by omega);have key:=ly.mp h (_,_) (i9.mpr ⟨s,by omega,qH h1 b1,qH h2 b2⟩);have a1:∀i,i<s+1->(((List.range (s+1)).map λi=>((ρ i:Nat):Int)).getD i 0).toNat=ρ i:=λi hi=>by simp[hi]
   have a2:∀i,i<s+1->(((List.range (s+1)).map λi=>((γ i:Nat):Int)).getD i 0).toNat=γ i:=λi hi=>by simp[hi]
   have e:=Bj (s:=s+1) (ls:=(List.range (s+1)).map λi=>((ρ i:Nat):Int)) (cc:=(List.range (s+1)).map λi=>((γ i:Nat):Int)) t (by simp) (by simp) (λi hi=>by rw[a1 i hi]; exact b1 i hi) (λi hi=>by rw[a2 i hi]; exact b2 i hi);have key:=Rat.intCast_nonneg.mpr key;rw[e]at key;have em:mi (qM M) (s+1) (λr=>(((List.range (s+1)).map λi=>((ρ i:Nat):Int)).getD r 0).toNat) (λj=>(((List.range (s+1)).map λi=>((γ i:Nat):Int)).getD j 0).toNat)=mi (qM M) (s+1) ρ γ:=aj λi hi j hj=>(congrArg (λx=>qM M x _) (a1 i hi)).trans (congrArg (qM M (ρ i)) (a2 j hj));rw[em]at key;refine Rat.not_lt.mp λneg=>?_;have p:=mK (yv (M:=M) (f:=λr=>(((List.range (s+1)).map λi=>((ρ i:Nat):Int)).getD r 0).toNat)) (s+1);have:=Rat.mul_pos p (show (0:Rat) < - mi (qM M) (s+1) ρ γ by grind);grind
section
variable {A:Nat->Nat->Rat}{k:Nat}
theorem vt (A:Nat->Nat->Rat)(c:Nat)(b:Nat->Rat):det k (aE A c b)=det k (ao (λr j=>A j r) c b):=by rw[<- b5];exact aj λi _ j _=>rfl
theorem xh {b:Nat->Rat}:∃a:Nat->Rat,∀p,p<k->aG (λc=>a c*A p c) k=det k A*b p:=by
 refine⟨λi=>-bc (λr c=>if r<k then A c r else b c) k k i,λp hp=>?_⟩;have e:=AG (Y:=λr c=>if r<k then A c r else b c) (k:=k) (p:=k) (q:=p);rw[wJ hp]at e;have e1:det k (λr c=>if r<k then A c r else b c)=det k A:=by rw[<- b5 k A];exact aj λi hi j hj=>if_pos hi
 rw[e1]at e;have e2:aG (λc=>-bc (λr c=>if r<k then A c r else b c) k k c*A p c) k=-1*aG (λi=>bc (λr c=>if r<k then A c r else b c) k k i*(if i<k then A p i else b p)) k:=by rw[bS];refine aA λc hc=>?_;rw[if_pos hc];grind
 rw[e2];have e3:(if k<k then A p k else b p)=b p:=if_neg (Nat.lt_irrefl k);rw[e3]at e;grind
theorem C1 {b:Nat->Rat}(h0:det k A≠0){p:Nat}(hp:p<k):aG (λc=>A p c*det k (aE A c b)) k=det k A*b p:=by
 obtain⟨a,ha⟩:=xh (A:=A) (k:=k) (b:=b)
 have key:∀c,c<k->det k (aE A c b)=a c:=λc hc=>by
   have e1:=(cL k).sum (λr j=>A j r) hc a (λc' j=>A j c') k
   have e2:det k (ao (λr j=>A j r) c λj=>aG (λc'=>a c'*A j c') k)=det k A*det k (ao (λr j=>A j r) c b):=by
     have:=l7 (n:=k) (λr j=>A j r) hc (det k A) 0 b b;rw[Rat.zero_mul,Rat.add_zero]at this;rw[<- this];refine aj λi hi j hj=>?_;unfold ao;split
     . show aG (λc'=>a c'*A j c') k=_;rw[ha j hj];grind
     . rfl
   have e3:aG (λc'=>a c'*det k (ao (λr j=>A j r) c λj=>A j c')) k=aG (λc'=>(a c'*det k A)*dq c' c) k:=aA λc' hc'=>by
     unfold dq;by_cases z:c'=c
     . subst z;rw[if_pos rfl,Rat.mul_one,show (λj=>A j c')=(λr j=>A j r) c' from rfl,bH,b5]
     . rw[if_neg z,Rat.mul_zero,(cL k).same (M:=ao (λr j=>A j r) c λj=>A j c') (p:=c) (q:=c') hc hc' (Ne.symm z) (by rw[bZ,bX z]),Rat.mul_zero]
   rw[e2,e3,cu _ c k hc]at e1;rw[vt];have:(det k (ao (λr j=>A j r) c b)-a c)*det k A=0:=by grind
   rcases Rat.mul_eq_zero.mp this with z | z
   . grind
   . exact absurd z h0
 rw[<- ha p hp];refine aA λc hc=>?_;rw[key c hc,Rat.mul_comm]
end
theorem jU {f:Nat->Rat}:∀k,0<k->(∀j,j<k->j≠0->f j=0)->aG f k=f 0
 | 1,_,_=>by rw[aG,aG,Rat.zero_add]
 | k+2,_,h=>by rw[aG,jU (k+1) (by omega) λj hj=>h j (by omega),h (k+1) (by omega) (by omega),Rat.add_zero]
theorem mG {f:Nat->Rat}{p:Nat}(hp:0<p):∀k,p<k->(∀j,j<k->j≠0->j≠p->f j=0)->aG f k=f 0+f p
 | 0,h,_=>absurd h (Nat.not_lt_zero _)
 | k+1,h,g=>by
   by_cases e:p=k
   . subst e;rw[aG,jU p hp λj hj h0=>g j (by omega) h0 (by omega)]
   . rw[aG,mG hp k (by omega) λj hj=>g j (by omega),g k (by omega) (by omega) (by omega),Rat.add_zero]
theorem k8 (M:Nat->Nat->Rat)(q:Nat)(v:Nat->Rat):(λi j=>aE M q v j i)=ao (λi j=>M j i) q v:=rfl
theorem uN {k q:Nat}(N:Nat->Nat->Rat)(hq:q<k)(v:Nat->Rat)(e:Nat->Nat->Rat)(m:Nat):det k (aE N q λr=>aG (λc=>v c*e c r) m)=aG (λc=>v c*det k (aE N q (e c))) m:=by rw[<- b5,k8,(cL k).sum _ hq];refine aA λc _=>?_;rw[<- b5 k (aE N q (e c)),k8]
section
variable {k p:Nat}{M:Nat->Nat->Rat}
noncomputable def dPP (k p:Nat)(M:Nat->Nat->Rat)(u w:Nat->Rat):Rat:=det k (aE (aE M 0 u) p w)
theorem bC {M:Nat->Nat->Rat}{q:Nat}{v:Nat->Rat}{r:Nat}:aE M q v r q=v r:=if_pos rfl
theorem aZ {M:Nat->Nat->Rat}{q c:Nat}{v:Nat->Rat}{r:Nat}(h:c≠q):aE M q v r c=M r c:=if_neg h
theorem kI {u u' w w':Nat->Rat}(hu:∀r<k,u r=u' r)(hw:∀r<k,w r=w' r):dPP k p M u w=dPP k p M u' w':=aj λr hr c _=>by
 unfold aE;by_cases h:c=p
 . rw[if_pos h,if_pos h,hw r hr]
 . rw[if_neg h,if_neg h];by_cases h2:c=0
   . rw[if_pos h2,if_pos h2,hu r hr]
   . rw[if_neg h2,if_neg h2]
theorem m6 (hp:0<p)(hk:p<k)(u:Nat->Rat):dPP k p M u u=0:=dU (p:=0) (q:=p) (by omega) hk (by omega) λr=>by rw[bC,aZ (by omega),bC]
theorem gr (hp:0<p)(hk:p<k)(u w:Nat->Rat):dPP k p M u w=-dPP k p M w u:=by unfold dPP;have h:=(cL k).swap (M:=λi j=>M j i) (p:=0) (q:=p) (by omega) hk (by omega) u w;rw[<- b5 k (aE (aE M 0 u) p w),<- b5 k (aE (aE M 0 w) p u)];exact h
theorem rO (hp:0<p)(hk:p<k)(w c:Nat->Rat)(A:Nat->Nat->Rat)(hA:∀j,j≠0->j≠p->∀r,A r j=M r j):dPP k p M (λr=>aG (λj=>c j*A r j) k) w=c 0*dPP k p M (λr=>A r 0) w+c p*dPP k p M (λr=>A r p) w:=by
 have com:∀v,aE (aE M 0 v) p w=aE (aE M p w) 0 v:=λv=>by
   funext r j;unfold aE;by_cases h:j=p
   . rw[if_pos h,if_neg (show ¬j=0 by omega),if_pos h]
   . rw[if_neg h,if_neg h]
 unfold dPP;rw[com,uN _ (by omega) c (λj r=>A r j) k,mG hp k hk λj hj h0 hjp=>?_]
 . rw[com,com]
 . rw[dU (p:=0) (q:=j) (by omega) hj (by omega) λr=>by rw[bC,aZ h0,aZ hjp,hA j h0 hjp],Rat.mul_zero]
theorem xD (hp:0<p)(hk:p<k)(u c:Nat->Rat)(A:Nat->Nat->Rat)(hA:∀j,j≠0->j≠p->∀r,A r j=M r j):dPP k p M u (λr=>aG (λj=>c j*A r j) k)=c 0*dPP k p M u (λr=>A r 0)+c p*dPP k p M u (λr=>A r p):=by rw[gr hp hk,rO hp hk u c A hA,gr hp hk u,gr hp hk u];grind
theorem gp (hp:0<p)(hk:p<k){g e x y:Nat->Rat}(h0:dPP k p M g x≠0):dPP k p M g y*dPP k p M e x-dPP k p M g x*dPP k p M e y=dPP k p M e g*dPP k p M x y:=by
 let A:Nat->Nat->Rat:=aE (aE M 0 g) p x
 have hA:∀j,j≠0->j≠p->∀r,A r j=M r j:=λj h1 h2 r=>by show aE (aE M 0 g) p x r j=M r j;rw[aZ h2,aZ h1]
 have A0:(λr=>A r 0)=g:=by funext r;show aE (aE M 0 g) p x r 0=g r;rw[aZ (by omega),bC]
 have Ap:(λr=>A r p)=x:=by funext r;exact bC
 have ex:∀v:Nat->Rat,∃c:Nat->Rat,∀r,r<k->v r=aG (λj=>c j*A r j) k:=λv=>by refine⟨λj=>det k (aE A j v)/det k A,λr hr=>?_⟩;have hD:det k A≠0:=h0;have e:=C1 (b:=v) hD hr;refine wC hD ?_;rw[<- e,bS];refine aA λj _=>?_;show A r j*det k (aE A j v)=det k A*(det k (aE A j v)/det k A*A r j);generalize det k A=D at hD ⊢;generalize det k (aE A j v)=z;generalize A r j=y;rw[<- Rat.mul_assoc,Rat.mul_comm D,Rat.div_mul_cancel hD,Rat.mul_comm]
 obtain⟨a,ha⟩:=ex e;obtain⟨b,hb⟩:=ex y;have sw:=gr (M:=M) hp hk x g;have gg:=m6 (M:=M) hp hk g;have xx:=m6 (M:=M) hp hk x;have e1:∀w,dPP k p M e w=a 0*dPP k p M g w+a p*dPP k p M x w:=λw=>by rw[kI (w':=w) ha λ_ _=>rfl,rO hp hk w a A hA,A0,Ap]
 have e2:∀u,dPP k p M u y=b 0*dPP k p M u g+b p*dPP k p M u x:=λu=>by rw[kI (u':=u) (λ_ _=>rfl) hb,xD hp hk u b A hA,A0,Ap]
 rw[e2 g,e1 x,e1 y,e2 g,e2 x,e1 g,gg,xx,sw];grind
end
noncomputable def a9 (γ:Nat->Nat)(p q:Nat):Nat->Nat:=λc=>if c=p then q else γ c
section
variable {A:Nat->Nat->Rat}{m n z q:Nat}
theorem zL {k:Nat}{ρ γ:Nat->Nat}(hk:0<k)(h0:∀c,0<c->c<k->A z (γ c)=0):mi A (k+1) (λr=>if r=0 then z else ρ (r-1)) (λc=>if c=0 then q else γ (c-1))=A z q*mi A k ρ γ-A z (γ 0)*mi A k ρ (a9 γ 0 q):=by
 rw[<- B0];unfold mi;rw[det,mG (p:=1) (by decide) (k+1) (by omega) λi hi h1 h2=>?_]
 . have e1:det k (minor (λr c=>A (if c=0 then z else ρ (c-1)) (if r=0 then q else γ (r-1))) 0)=det k λr c=>A (ρ r) (γ c):=by rw[<- b5 k λr c=>A (ρ r) (γ c)];refine aj λr hr c hc=>?_;show A (if c+1=0 then z else ρ (c+1-1)) (if skp 0 r=0 then q else γ (skp 0 r-1))=A (ρ c) (γ r);have:skp 0 r=r+1:=if_neg (by omega);rw[this,if_neg (by omega),if_neg (by omega)];rfl
   have e2:det k (minor (λr c=>A (if c=0 then z else ρ (c-1)) (if r=0 then q else γ (r-1))) 1)=det k λr c=>A (ρ r) (a9 γ 0 q c):=by
     rw[<- b5 k λr c=>A (ρ r) (a9 γ 0 q c)];refine aj λr hr c hc=>?_;show A (if c+1=0 then z else ρ (c+1-1)) (if skp 1 r=0 then q else γ (skp 1 r-1))=A (ρ c) (a9 γ 0 q r);rw[if_neg (by omega)];unfold a9;by_cases r0:r=0
     . subst r0; rfl
     . have:skp 1 r=r+1:=if_neg (by omega);rw[this,if_neg (by omega),if_neg r0];rfl
   rw[e1,e2];show 1*A (if 0=0 then z else ρ (0-1)) (if 0=0 then q else γ (0-1))*_ + -1*A (if 0=0 then z else ρ (0-1)) (if 1=0 then q else γ (1-1))*_=_;rw[if_pos rfl,if_pos rfl,if_neg (by decide)];generalize (det k λr c=>A (ρ r) (γ c))=x;generalize (det k λr c=>A (ρ r) (a9 γ 0 q c))=y;show 1*A z q*x + -1*A z (γ 0)*y=_;grind
 . show sgn i*A (if 0=0 then z else ρ (0-1)) (if i=0 then q else γ (i-1))*_=0;rw[if_pos rfl,if_neg h1,h0 (i-1) (by omega) (by omega),Rat.mul_zero,Rat.zero_mul]
theorem yD {p:Nat}:rho 0 p 0=p:=by unfold rho; rw[if_neg (by omega),if_pos rfl,Nat.zero_add]
theorem vP {p c:Nat}(h0:c≠0)(h1:c<=p):rho 0 p c=c-1:=by unfold rho; rw[if_neg (by omega),if_neg h0,if_pos (by omega)]
theorem uw {p c:Nat}(h:p<c):rho 0 p c=c:=by unfold rho; rw[if_neg (by omega),if_neg (by omega),if_neg (by omega)]
theorem qE {k b:Nat}{ρ:Nat->Nat}(h:Inc (k+1) ρ):Inc k λr=>ρ (skp b r):=λi hi=>by
 show ρ (skp b i)<ρ (skp b (i+1));refine h.mono ?_ ?_
 . unfold skp; split <;> split <;> omega
 . unfold skp; split <;> omega
theorem uu (H:Tnn m n A)(hz:z<m)(hq:q+1<n)(h0:∀j,q+1<j->j<n->A z j=0):∀(p k:Nat) (ρ γ:Nat->Nat),p<k->Inc k ρ->(∀i,i<k->ρ i<m)->(∀i,i<k->z<=ρ i)->Inc k γ->(∀i,i<k->γ i<n)->γ p=q+1->(∀c,c<p->γ c<q)->A z (q+1)*mi A k ρ (a9 γ p q)<=A z q*mi A k ρ γ
 | 0,k,ρ,γ,hp,h1,h2,h3,h4,h5,h6,_=>by
   have e:=zL (A:=A) (z:=z) (q:=q) (ρ:=ρ) (γ:=γ) hp λc c0 hc=>h0 _ (by have:=h4.mono c0 hc; omega) (h5 c hc);rw[h6]at e
   have nn:0<=mi A (k+1) (λr=>if r=0 then z else ρ (r-1)) (λc=>if c=0 then q else γ (c-1)):=by
     by_cases ez:z=ρ 0
     . have:mi A (k+1) (λr=>if r=0 then z else ρ (r-1)) (λc=>if c=0 then q else γ (c-1))=0:=by refine(cL (k+1)).same (p:=0) (q:=1) (by omega) (by omega) (by decide) ?_;funext c;show A (if 0=0 then z else ρ (0-1)) _=A (if 1=0 then z else ρ (1-1)) _;rw[if_pos rfl,if_neg (by decide),ez]
       rw[this];exact Rat.le_refl
     . have z0:z<ρ 0:=by have:=h3 0 hp; omega
       refine H (k+1) _ _ (λi hi=>?_) (λi hi=>?_) (λi hi=>?_) λi hi=>?_
       . show (if i=0 then z else ρ (i-1))<(if i+1=0 then z else ρ (i+1-1));by_cases i0:i=0
         . subst i0; exact z0
         . rw[if_neg i0,if_neg (by omega)];exact h1.mono (by omega) (by omega)
       . show (if i=0 then z else ρ (i-1))<m;split
         . exact hz
         . exact h2 _ (by omega)
       . show (if i=0 then q else γ (i-1))<(if i+1=0 then q else γ (i+1-1));by_cases i0:i=0
         . subst i0;show q<γ 0;omega
         . rw[if_neg i0,if_neg (by omega)];exact h4.mono (by omega) (by omega)
       . show (if i=0 then q else γ (i-1))<n;split
         . omega
         . exact h5 _ (by omega)
   rw[e]at nn;generalize A z q*mi A k ρ γ=x at nn ⊢;generalize A z (q+1)*mi A k ρ (a9 γ 0 q)=y at nn ⊢;grind
 | p+1,0,_,_,hp,_,_,_,_,_,_,_=>absurd hp (Nat.not_lt_zero _)
 | p+1,k+1,ρ,γ,hp,h1,h2,h3,h4,h5,h6,h7=>by
   have az:0<=A z q:=by have:=H 1 (λ_=>z) (λ_=>q) (λi hi=>by omega) (λ_ _=>hz) (λi hi=>by omega) (λ_ _=>by omega);rw[show mi A 1 (λ_=>z) (λ_=>q)=A z q from fG _]at this;exact this
   have dy:0<=mi A (k+1) ρ γ:=H _ _ _ h1 h2 h4 h5
   have iu:Inc (k+1) (a9 γ (p+1) q):=λi hi=>by
     have:=h4 i hi;unfold a9;by_cases c1:i=p+1
     . rw[if_pos c1,if_neg (by omega)];subst c1;omega
     . by_cases c2:i+1=p+1
       . rw[if_neg c1,if_pos c2];exact h7 i (by omega)
       . rw[if_neg c1,if_neg c2];exact this
   have bu:∀i,i<k+1->a9 γ (p+1) q i<n:=λi hi=>by
     unfold a9;split
     . omega
     . exact h5 i hi
   have dx:0<=mi A (k+1) ρ (a9 γ (p+1) q):=H _ _ _ h1 h2 iu bu;by_cases dz:mi A (k+1) ρ (a9 γ (p+1) q)=0
   . rw[dz,Rat.mul_zero];exact Rat.mul_nonneg az dy
   obtain⟨b,hb,db⟩:∃b,b<k+1/\mi A k (λr=>ρ (skp b r)) (λc=>a9 γ (p+1) q (c+1))≠0:=by refine Classical.byContradiction λno=>dz ?_;unfold mi;rw[det];refine ck λi hi=>?_;have:mi A k (λr=>ρ (skp i r)) (λc=>a9 γ (p+1) q (c+1))=0:=Classical.byContradiction λne=>no ⟨i,hi,ne⟩;have e:det k (minor (λr c=>A (ρ r) (a9 γ (p+1) q c)) i)=mi A k (λr=>ρ (skp i r)) (λc=>a9 γ (p+1) q (c+1)):=rfl;rw[e,this,Rat.mul_zero]
   have sub:∀c,a9 γ (p+1) q (c+1)=a9 (λc=>γ (c+1)) p q c:=λc=>by
     unfold a9;by_cases e:c=p
     . rw[if_pos e,if_pos (by omega)]
     . rw[if_neg e,if_neg (by omega)]
   have pk:p<k:=by omega
   have r1:=qE (b:=b) h1;have r2:∀i,i<k->ρ (skp b i)<m:=λi hi=>h2 _ (il hi);have r3:∀i,i<k->z<=ρ (skp b i):=λi hi=>h3 _ (il hi);have ih:=uu H hz hq h0 p k (λr=>ρ (skp b r)) (λc=>γ (c+1)) pk r1 r2 r3 h4.up (λi hi=>h5 _ (by omega)) h6 λc hc=>h7 _ (by omega);have dxe:mi A k (λr=>ρ (skp b r)) (λc=>a9 γ (p+1) q (c+1))=mi A k (λr=>ρ (skp b r)) (a9 (λc=>γ (c+1)) p q):=nR (λ_ _=>rfl) λc _=>sub c;rw[dxe]at db;have dxs:0<=mi A k (λr=>ρ (skp b r)) (a9 (λc=>γ (c+1)) p q):=by rw[<- dxe];exact H _ _ _ r1 r2 iu.up λi hi=>bu _ (by omega)
   have pb:∀w:Nat->Rat,dPP (k+1) (p+1) (λr c=>A (ρ r) (γ c)) (λr=>if r=b then 1 else 0) w=sgn b*det k (λr c=>if c=p then w (skp b r) else A (ρ (skp b r)) (γ (c+1))):=λw=>by
     unfold dPP;rw[det]
     have e:∀i,i<k+1->sgn i*aE (aE (λr c=>A (ρ r) (γ c)) 0 λr=>if r=b then (1:Rat) else 0) (p+1) w i 0*det k (minor (aE (aE (λr c=>A (ρ r) (γ c)) 0 λr=>if r=b then (1:Rat) else 0) (p+1) w) i)=(sgn i*det k (minor (aE (aE (λr c=>A (ρ r) (γ c)) 0 λr=>if r=b then (1:Rat) else 0) (p+1) w) i))*dq i b:=λi _=>by
       rw[aZ (by omega),bC];unfold dq;by_cases e:i=b
       . rw[if_pos e]; grind
       . rw[if_neg e]; grind
     rw[aA e,cu _ _ _ hb];congr 1;refine aj λr hr c hc=>?_;show aE (aE (λr c=>A (ρ r) (γ c)) 0 λr=>if r=b then (1:Rat) else 0) (p+1) w (skp b r) (c+1)=_;by_cases e:c=p
     . rw[if_pos e,e,bC]
     . rw[if_neg e,aZ (by omega),aZ (by omega)]
   have Pg:∀v:Nat,dPP (k+1) (p+1) (λr c=>A (ρ r) (γ c)) (λr=>A (ρ r) (γ 0)) (λr=>A (ρ r) v)=mi A (k+1) ρ (a9 γ (p+1) v):=λv=>aj λr hr c hc=>by
     unfold a9;by_cases e:c=p+1
     . rw[if_pos e,e,bC]
     . rw[if_neg e,aZ e];by_cases e0:c=0
       . rw[e0,bC]
       . rw[aZ e0]
   have Pe:∀v:Nat,dPP (k+1) (p+1) (λr c=>A (ρ r) (γ c)) (λr=>if r=b then 1 else 0) (λr=>A (ρ r) v)=sgn b*mi A k (λr=>ρ (skp b r)) (a9 (λc=>γ (c+1)) p v):=λv=>by
     rw[pb];congr 1;refine aj λr hr c hc=>?_;unfold a9;by_cases e:c=p
     . rw[if_pos e,if_pos e]
     . rw[if_neg e,if_neg e]
   have uy:a9 γ (p+1) (q+1)=γ:=by
     funext c;unfold a9;by_cases e:c=p+1
     . rw[if_pos e,e,h6]
     . rw[if_neg e]
   have uy':a9 (λc=>γ (c+1)) p (q+1)=λc=>γ (c+1):=by
     funext c;unfold a9;by_cases e:c=p
     . rw[if_pos e,e,h6]
     . rw[if_neg e]
   have G:=gp (M:=λr c=>A (ρ r) (γ c)) (p:=p+1) (k:=k+1) (g:=λr=>A (ρ r) (γ 0)) (e:=λr=>if r=b then 1 else 0) (x:=λr=>A (ρ r) q) (y:=λr=>A (ρ r) (q+1)) (by omega) hp (by rw[Pg]; exact dz);rw[Pg,Pg,Pe,Pe,Pe,uy,uy']at G
   have s1:mi A k (λr=>ρ (skp b r)) (a9 (λc=>γ (c+1)) p (γ 0))=sgn p*mi A k (λr=>ρ (skp b r)) (λc=>γ (skp (p+1) c)):=by
     refine zI ?_;unfold mi;rw[<- mT (k:=0) p (λr c=>A (ρ (skp b r)) (a9 (λc=>γ (c+1)) p (γ 0) c)) (by omega)];refine aj λr hr c hc=>?_;show A (ρ (skp b r)) (γ (skp (p+1) c))=A (ρ (skp b r)) (a9 (λc=>γ (c+1)) p (γ 0) (rho 0 p c));congr 1;unfold a9;by_cases c0:c=0
     . subst c0;rw[show skp (p+1) 0=0 from if_pos (by omega),yD,if_pos rfl]
     . by_cases c1:c<=p
       . rw[show skp (p+1) c=c from if_pos (by omega),vP c0 c1,if_neg (by omega)];show γ c=γ (c-1+1);rw[show c-1+1=c by omega]
       . rw[show skp (p+1) c=c+1 from if_neg (by omega),uw (by omega),if_neg (by omega)]
   have s2:dPP (k+1) (p+1) (λr c=>A (ρ r) (γ c)) (λr=>A (ρ r) q) (λr=>A (ρ r) (q+1))=sgn p*mi A (k+1) ρ (λc=>if c<p then γ (c+1) else if c=p then q else γ c):=by
     unfold mi;rw[<- mT (k:=0) p (λr c=>A (ρ r) (if c<p then γ (c+1) else if c=p then q else γ c)) (by omega)];refine aj λr hr c hc=>?_;show aE (aE (λr c=>A (ρ r) (γ c)) 0 λr=>A (ρ r) q) (p+1) (λr=>A (ρ r) (q+1)) r c=A (ρ r) (if rho 0 p c<p then γ (rho 0 p c+1) else if rho 0 p c=p then q else γ (rho 0 p c));by_cases c0:c=0
     . subst c0;rw[aZ (by omega),bC,yD,if_neg (by omega),if_pos rfl]
     . by_cases c1:c<=p
       . rw[aZ (by omega),aZ c0,vP c0 c1,if_pos (by omega),show c-1+1=c by omega]
       . rw[uw (by omega),if_neg (by omega),if_neg (by omega)];by_cases c2:c=p+1
         . rw[c2,bC,h6]
         . rw[aZ c2,aZ c0]
   have n1:0<=mi A k (λr=>ρ (skp b r)) (λc=>γ (skp (p+1) c)):=H _ _ _ r1 r2 (qE h4) λi hi=>h5 _ (il hi)
   have n2:0<=mi A (k+1) ρ (λc=>if c<p then γ (c+1) else if c=p then q else γ c):=H _ _ _ h1 h2 (λi hi=>by
     show (if i<p then γ (i+1) else if i=p then q else γ i)<(if i+1<p then γ (i+1+1) else if i+1=p then q else γ (i+1));have q1:=h4 i hi;by_cases a1:i+1<p
     . rw[if_pos (by omega),if_pos a1];exact h4 (i+1) (by omega)
     . by_cases a2:i+1=p
       . rw[if_pos (by omega),if_neg a1,if_pos a2];exact h7 _ (by omega)
       . by_cases a3:i=p
         . rw[if_neg (by omega),if_pos a3,if_neg (by omega),if_neg (by omega),a3,h6];omega
         . rw[if_neg (by omega),if_neg a3,if_neg (by omega),if_neg (by omega)];exact q1) λi hi=>by
     split
     . exact h5 _ (by omega)
     . split
       . omega
       . exact h5 _ hi
   rw[s1,s2]at G;have ss:=lU p;have sb:=lU b;have pr:=Rat.mul_nonneg n1 n2;generalize mi A k (λr=>ρ (skp b r)) (λc=>γ (skp (p+1) c))=w1 at G pr;generalize mi A (k+1) ρ (λc=>if c<p then γ (c+1) else if c=p then q else γ c)=w2 at G pr;generalize mi A (k+1) ρ γ=Dy at G dy ⊢;generalize mi A (k+1) ρ (a9 γ (p+1) q)=Dx at G dx dz ⊢;generalize mi A k (λr=>ρ (skp b r)) (a9 (λc=>γ (c+1)) p q)=ex at G ih db dxs;generalize mi A k (λr=>ρ (skp b r)) (λc=>γ (c+1))=ey at G ih;generalize A z q=ax at az ih ⊢;generalize A z (q+1)=ay at ih ⊢;generalize sgn b=σ at G sb;generalize sgn p=τ at G ss
   have key:Dy*ex-Dx*ey=w1*w2:=by
     have:σ*(Dy*(σ*ex)-Dx*(σ*ey))=σ*(σ*(τ*w1)*(τ*w2)):=by rw[G]
     grind
   have e1:Dx*ey<=Dy*ex:=by grind
   have e2:Dx*(ay*ex)<=Dx*(ax*ey):=Rat.mul_le_mul_of_nonneg_left ih dx;have e3:ax*(Dx*ey)<=ax*(Dy*ex):=Rat.mul_le_mul_of_nonneg_left e1 az;have e4:ex*(ay*Dx)<=ex*(ax*Dy):=by grind
   have ep:0<ex:=by
     rcases Rat.le_iff_lt_or_eq.mp dxs with h | h
     . exact h
     . exact absurd h.symm db
   exact Rat.le_of_mul_le_mul_left e4 ep
end
section
variable {A:Nat->Nat->Rat}{m n:Nat}
theorem Tnn.nn (H:Tnn m n A){i j:Nat}(hi:i<m)(hj:j<n):0<=A i j:=by have:=H 1 (λ_=>i) (λ_=>j) (λ_ _=>by omega) (λ_ _=>hi) (λ_ _=>by omega) (λ_ _=>hj);rw[show mi A 1 (λ_=>i) (λ_=>j)=A i j from fG _]at this;exact this
end
theorem zj {m c:Nat}(h:c<=m):sgn (m+c)=sgn (m-c):=by
 unfold sgn;by_cases z:(m-c)%2=0
 . rw[if_pos z,if_pos (by omega)]
 . rw[if_neg z,if_neg (by omega)]
theorem wz (m:Nat)(M:Nat->Nat->Rat):det (m+1) M=aG (λc=>sgn c*M 0 c*det m λi j=>M (i+1) (skp c j)) (m+1):=by rw[<- b5];show aG _ _=_;refine aA λc _=>?_;congr 1;rw[<- b5];rfl
theorem qB:∀(n:Nat) (M:Nat->Nat->Rat),det n (λi j=>M (n-1-i) (n-1-j))=det n M
 | 0,_=>rfl
 | m+1,M=>by
   rw[m8,wz];refine Eq.trans (aA λc hc=>?_) (j0 (λc=>sgn c*M 0 c*det m λi j=>M (i+1) (skp c j)) (m+1));have e1:m+1-1-c=m-c:=by omega
   have e2:m+1-1-m=0:=by omega
   rw[e1,e2,zj (by omega),<- qB m λi j=>M (i+1) (skp (m-c) j)];refine congrArg _ (aj λr hr q hq=>?_);show M (m+1-1-r) (m+1-1-skp c q)=M (m-1-r+1) (skp (m-c) (m-1-q));have e3:m+1-1-r=m-1-r+1:=by omega
   have e4:m+1-1-skp c q=skp (m-c) (m-1-q):=by
     unfold skp;by_cases z:q<c
     . rw[if_pos z,if_neg (by omega)]; omega
     . rw[if_neg z,if_pos (by omega)]; omega
   rw[e3,e4]
theorem Ai {A:Nat->Nat->Rat}{m C b n p k:Nat}{ρ γ:Nat->Nat}(H:Tnn (m+1) C A)(bn:b<n)(nC:n<C)(z1:∀a,a<b->A m a=0)(hp:p<k)(h1:Inc k ρ)(h2:∀i,i<k->ρ i<m+1)(h3:Inc k γ)(h4:∀i,i<k->γ i<C)(ep:γ p=b)(gt:∀c,p<c->c<k->n<γ c):A m b*mi A k ρ (a9 γ p n)<=A m n*mi A k ρ γ:=by
 obtain⟨D,hD⟩:∃D,D=C-(n-b-1):=⟨_,rfl⟩;obtain⟨κ,hκ⟩:∃κ:Nat->Nat,κ=λa=>if a<=b then a else a+(n-b-1):=⟨_,rfl⟩
 obtain⟨g,hg⟩:∃g:Nat->Nat,g=λc=>if γ c<=b then γ c else γ c-(n-b-1):=⟨_,rfl⟩
 have lo:∀c,c<p->γ c<b:=λc hc=>by rw[<- ep]; exact h3.mono hc hp
 have κ1:∀a,a<=b->κ a=a:=λa h=>by rw[hκ]; exact if_pos h
 have κ2:∀a,b<a->κ a=a+(n-b-1):=λa h=>by rw[hκ]; exact if_neg (by omega)
 have g1:∀c,γ c<=b->g c=γ c:=λc h=>by rw[hg]; exact if_pos h
 have g2:∀c,b<γ c->g c=γ c-(n-b-1):=λc h=>by rw[hg]; exact if_neg (by omega)
 have up:∀c,c<k->b<γ c->n<γ c:=λc hc z=>by
   rcases Nat.lt_trichotomy c p with y | y | y
   . have:=lo c y; omega
   . rw[y,ep]at z; omega
   . exact gt c y hc
 have kg:∀c,c<k->κ (g c)=γ c:=λc hc=>by
   rcases Nat.lt_or_ge b (γ c) with z | z
   . have:=up c hc z;rw[g2 c z,κ2 _ (by omega)];omega
   . rw[g1 c z,κ1 _ z]
 have κlt:∀a,a<D->κ a<C:=λa ha=>by
   rcases Nat.lt_or_ge b a with z | z
   . rw[κ2 _ z]; omega
   . rw[κ1 _ z]; omega
 have κi:∀a c,a<c->κ a<κ c:=λa c h=>by
   rcases Nat.lt_or_ge b a with z | z
   . rw[κ2 _ z,κ2 _ (by omega)]; omega
   . rw[κ1 _ z];rcases Nat.lt_or_ge b c with y | y
     . rw[κ2 _ y]; omega
     . rw[κ1 _ y]; exact h
 have glt:∀c,c<k->g c<D:=λc hc=>by
   have h:=h4 c hc;rcases Nat.lt_or_ge b (γ c) with z | z
   . have:=up c hc z;rw[g2 c z]; omega
   . rw[g1 c z]; omega
 have gi:Inc k g:=λi hi=>by
   have a:=kg i (by omega);have c:=kg (i+1) hi;have:=h3 i hi;rw[<- a,<- c]at this;rcases Nat.lt_trichotomy (g i) (g (i+1)) with y | y | y
   . exact y
   . rw[y]at this; omega
   . have:=κi _ _ y; omega
 have gp:g p=b:=by rw[g1 p (by omega),ep]
 have ggt:∀c,p<c->c<k->b+1<g c:=λc hc hk=>by have:=gt c hc hk;rw[g2 c (by omega)];omega
 have κb:κ b=b:=κ1 b (Nat.le_refl _);have κn:κ (b+1)=n:=by rw[κ2 _ (by omega)]; omega
 have bD:b+1<D:=by omega
 have HB:Tnn (m+1) D λi a=>A i (κ a):=λk ρ γ h1 h2 h3 h4=>H k ρ (λc=>κ (γ c)) h1 h2 (λi hi=>κi _ _ (h3 i hi)) λi hi=>κlt _ (h4 i hi);have rv:∀(B:Nat->Nat->Rat) (k:Nat) (ρ γ:Nat->Nat),(∀i,i<k->ρ i<m+1)->(∀i,i<k->γ i<D)->mi (λi a=>B (m-i) (D-1-a)) k (λi=>m-ρ (k-1-i)) (λc=>D-1-γ (k-1-c))=mi B k ρ γ:=λB k ρ γ h2 h4=>by have e:=qB k λr c=>B (ρ r) (γ c);refine Eq.trans (aj λi hi j hj=>?_) e;show B (m-(m-ρ (k-1-i))) (D-1-(D-1-γ (k-1-j)))=B (ρ (k-1-i)) (γ (k-1-j));have a:=h2 (k-1-i) (by omega);have b:=h4 (k-1-j) (by omega);rw[show m-(m-ρ (k-1-i))=ρ (k-1-i) by omega,show D-1-(D-1-γ (k-1-j))=γ (k-1-j) by omega]
 have HR:Tnn (m+1) D λi a=>A (m-i) (κ (D-1-a)):=λk ρ γ h1 h2 h3 h4=>by
   have e:=rv (λi a=>A i (κ a)) k (λi=>m-ρ (k-1-i)) (λc=>D-1-γ (k-1-c)) (λi hi=>by omega) λi hi=>by have:=h4 (k-1-i) (by omega); omega
   have e2:mi (λi a=>A (m-i) (κ (D-1-a))) k ρ γ=mi (λi a=>A i (κ a)) k (λi=>m-ρ (k-1-i)) (λc=>D-1-γ (k-1-c)):=by rw[<- e];refine aj λi hi j hj=>?_;show A (m-ρ i) (κ (D-1-γ j))=A (m-(m-(m-ρ (k-1-(k-1-i))))) (κ (D-1-(D-1-(D-1-γ (k-1-(k-1-j))))));have a:=h2 i hi;have b:=h4 j hj;rw[show k-1-(k-1-i)=i by omega,show k-1-(k-1-j)=j by omega,show m-(m-(m-ρ i))=m-ρ i by omega,show D-1-(D-1-(D-1-γ j))=D-1-γ j by omega]
   rw[e2];refine HB k _ _ (λi hi=>?_) (λi hi=>?_) (λi hi=>?_) λi hi=>?_
   . show m-ρ (k-1-i)<m-ρ (k-1-(i+1));have:=h1.mono (show k-1-(i+1)<k-1-i by omega) (by omega);have:=h2 (k-1-i) (by omega);omega
   . show m-ρ (k-1-i)<m+1;omega
   . show D-1-γ (k-1-i)<D-1-γ (k-1-(i+1));have:=h3.mono (show k-1-(i+1)<k-1-i by omega) (by omega);have:=h4 (k-1-i) (by omega);omega
   . show D-1-γ (k-1-i)<D;omega
 have w:=uu HR (z:=0) (q:=D-1-(b+1)) (by omega) (by omega) (λj hj hj2=>by
   show A (m-0) (κ (D-1-j))=0;have:D-1-j<b:=by omega
   rw[Nat.sub_zero,κ1 _ (by omega)]
   exact z1 _ this) (k-1-p) k (λi=>m-ρ (k-1-i)) (λc=>D-1-g (k-1-c)) (by omega) (λi hi=>by
     show m-ρ (k-1-i)<m-ρ (k-1-(i+1));have:=h1.mono (show k-1-(i+1)<k-1-i by omega) (by omega);have:=h2 (k-1-i) (by omega);omega) (λi hi=>by show m-ρ (k-1-i)<m+1; omega) (λ_ _=>Nat.zero_le _) (λi hi=>by
     show D-1-g (k-1-i)<D-1-g (k-1-(i+1));have:=gi.mono (show k-1-(i+1)<k-1-i by omega) (by omega);have:=glt (k-1-i) (by omega);omega) (λi hi=>by show D-1-g (k-1-i)<D; omega) (by
     show D-1-g (k-1-(k-1-p))=D-1-(b+1)+1;rw[show k-1-(k-1-p)=p by omega,gp];omega) λc hc=>by
     show D-1-g (k-1-c)<D-1-(b+1);have:=ggt (k-1-c) (by omega) (by omega);have:=glt (k-1-c) (by omega);omega
 have e1:=rv (λi a=>A i (κ a)) k ρ g h2 glt
 have e2:=rv (λi a=>A i (κ a)) k ρ (a9 g p (b+1)) h2 λi hi=>by
   unfold a9;split
   . exact bD
   . exact glt i hi
 have f1:mi (λi a=>A (m-i) (κ (D-1-a))) k (λi=>m-ρ (k-1-i)) (λc=>D-1-g (k-1-c))=mi A k ρ γ:=by refine e1.trans (aj λi hi j hj=>?_);show A (ρ i) (κ (g j))=_;rw[kg j hj]
 have f2:mi (λi a=>A (m-i) (κ (D-1-a))) k (λi=>m-ρ (k-1-i)) (a9 (λc=>D-1-g (k-1-c)) (k-1-p) (D-1-(b+1)))=mi A k ρ (a9 γ p n):=by
   refine Eq.trans (nR (λ_ _=>rfl) λj hj=>?_) (e2.trans (aj λi hi j hj=>?_))
   . show (if j=k-1-p then D-1-(b+1) else D-1-g (k-1-j))=D-1-(if k-1-j=p then b+1 else g (k-1-j));by_cases z:j=k-1-p
     . rw[if_pos z,if_pos (by omega)]
     . rw[if_neg z,if_neg (by omega)]
   . show A (ρ i) (κ (if j=p then b+1 else g j))=A (ρ i) (if j=p then n else γ j);by_cases z:j=p
     . rw[if_pos z,if_pos z,κn]
     . rw[if_neg z,if_neg z,kg j hj]
 rw[f1,f2]at w;have q1:A (m-0) (κ (D-1-(D-1-(b+1)+1)))=A m b:=by rw[Nat.sub_zero,show D-1-(D-1-(b+1)+1)=b by omega,κb]
 have q2:A (m-0) (κ (D-1-(D-1-(b+1))))=A m n:=by rw[Nat.sub_zero,show D-1-(D-1-(b+1))=b+1 by omega,κn]
 rwa [q1,q2]at w
theorem zU {w:Rat}{h t:Nat}(ht:h≠t)(A:Nat->Nat->Rat):cs (-w) h t (cs w h t A)=A:=by
 funext i j;unfold cs;by_cases z:j=h
 . rw[if_pos z,if_pos rfl,if_neg (Ne.symm ht),z];grind
 . rw[if_neg z,if_neg z]
theorem BW {A:Nat->Nat->Rat}{w:Rat}{h t k c0:Nat}{ρ γ:Nat->Nat}(h3:Inc k γ)(hc:c0<k)(ec:γ c0=h):mi (cs w h t A) k ρ γ=mi A k ρ γ+w*mi A k ρ (a9 γ c0 t):=by
 have e1:mi (cs w h t A) k ρ γ=det k (aE (λr c=>A (ρ r) (γ c)) c0 λr=>1*A (ρ r) h+w*A (ρ r) t):=aj λi hi j hj=>by
   show (if γ j=h then A (ρ i) h+w*A (ρ i) t else A (ρ i) (γ j))=if j=c0 then 1*A (ρ i) h+w*A (ρ i) t else A (ρ i) (γ j);by_cases z:j=c0
   . rw[if_pos z,if_pos (by rw[z]; exact ec),Rat.one_mul]
   . rw[if_neg z,if_neg (by rw[<- ec]; exact h3.ne hj hc z)]
 rw[e1,fq _ hc 1 w,Rat.one_mul]
 have e2:det k (aE (λr c=>A (ρ r) (γ c)) c0 λr=>A (ρ r) h)=mi A k ρ γ:=aj λi hi j hj=>by
   show (if j=c0 then A (ρ i) h else A (ρ i) (γ j))=A (ρ i) (γ j);split
   . rename_i z; rw[z,ec]
   . rfl
 have e3:det k (aE (λr c=>A (ρ r) (γ c)) c0 λr=>A (ρ r) t)=mi A k ρ (a9 γ c0 t):=aj λi hi j hj=>by
   show (if j=c0 then A (ρ i) t else A (ρ i) (γ j))=A (ρ i) (if j=c0 then t else γ j);by_cases z:j=c0
   . rw[if_pos z,if_pos z]
   . rw[if_neg z,if_neg z]
 rw[e2,e3]
theorem Tnn.wl {A:Nat->Nat->Rat}{m C b n:Nat}(H:Tnn (m+1) C A)(bn:b<n)(nC:n<C)(z1:∀a,a<b->A m a=0)(hn:A m n≠0)(zb:∀i,i<m+1->∀c,b<c->c<n->A i c=0):Tnn (m+1) C (cs (-(A m b/A m n)) b n A):=λk ρ γ h1 h2 h3 h4=>by
 have pos:0<A m n:=pA (H.nn (by omega) nC) hn;by_cases ex:∃c,c<k/\γ c=b
 . obtain⟨p,hp,ep⟩:=ex;rw[BW h3 hp ep];have a0:=H k ρ γ h1 h2 h3 h4;by_cases ex2:∃c,c<k/\b<γ c/\γ c<=n
   . obtain⟨c,hc,l1,l2⟩:=ex2;have ne:c≠p:=λz=>by rw[z,ep]at l1; omega
     have:mi A k ρ (a9 γ p n)=0:=by
       by_cases z:γ c=n
       . refine dU hp hc (Ne.symm ne) λr=>?_;show A (ρ r) (if p=p then n else γ p)=A (ρ r) (if c=p then n else γ c);rw[if_pos rfl,if_neg ne,z]
       . refine jw hc λr hr=>?_;show A (ρ r) (if c=p then n else γ c)=0;rw[if_neg ne];exact zb _ (h2 r hr) _ l1 (by omega)
     rw[this,Rat.mul_zero,Rat.add_zero];exact a0
   . have w:=Ai H bn nC z1 hp h1 h2 h3 h4 ep λc hc hk=>by
       have:=h3.mono hc hk;rcases Nat.lt_or_ge n (γ c) with y | y
       . exact y
       . exact absurd ⟨c,hk,by omega,y⟩ ex2
     generalize mi A k ρ γ=x at w ⊢;generalize mi A k ρ (a9 γ p n)=y at w ⊢;generalize A m b=d at w ⊢;generalize A m n=e at w pos ⊢
     have q:e*(x + -(d/e)*y)=e*x-d*y:=by
       have he:e≠0:=λz=>by rw[z]at pos; exact absurd pos (by decide)
       grind
     have w2:e*0<=e*(x + -(d/e)*y):=by rw[q]; grind
     exact Rat.le_of_mul_le_mul_left w2 pos
 . have e:mi (cs (-(A m b/A m n)) b n A) k ρ γ=mi A k ρ γ:=aj λi hi j hj=>if_neg λz=>ex ⟨j,hj,z⟩;rw[e];exact H k ρ γ h1 h2 h3 h4
theorem Tnn.zc {A:Nat->Nat->Rat}{m C b c:Nat}(H:Tnn (m+1) C A)(hb:A m b≠0)(bc:b<c)(hc:c<C)(h0:A m c=0):∀i,i<m->A i c=0:=λi hi=>by
 have pos:0<A m b:=pA (H.nn (by omega) (by omega)) hb;have nn:=H.nn (i:=i) (j:=c) (by omega) hc
 have d:=H 2 (λr=>if r=0 then i else m) (λq=>if q=0 then b else c) (λr hr=>by
   have:r=0:=by omega
   subst this;exact hi) (λr hr=>by show (if r=0 then i else m)<m+1; split <;> omega) (λr hr=>by
   have:r=0:=by omega
   subst this;exact bc) λr hr=>by show (if r=0 then b else c)<C; split <;> omega
 unfold mi at d;rw[wc]at d;have d:0<=A i b*A m c-A i c*A m b:=d;rw[h0,Rat.mul_zero,Rat.sub_eq_add_neg,Rat.zero_add]at d;have e:A m b*A i c<=A m b*0:=by rw[Rat.mul_zero]; grind
 exact Rat.le_antisymm (Rat.le_of_mul_le_mul_left e pos) nn
theorem Bz {j C b:Nat}{d:Nat->Rat}{H:Nat->Nat->Rat}(T:Tnn (j+1) C (bB j C d H b))(hb:b<C):Tnn (j+1) C (bB j C d H (b+1))/\0<=d b/\(d b≠0->∀c,b<c->c<C->d c=0->∀i,i<j->H i c=0):=by
 have row:∀a,bB j C d H b j a=if b<=a then d a else 0:=λa=>by unfold bB; rw[if_pos rfl]
 have r1:∀a,b<=a->bB j C d H b j a=d a:=λa h=>by rw[row,if_pos h]
 have up:∀i,i<j->∀c,b<=c->d c=0->bB j C d H b i c=H i c:=λi hi c h h0=>by unfold bB;rw[if_neg (by omega),if_pos h,h0,Rat.zero_mul,Rat.add_zero]
 have nb:0<=d b:=by rw[<- r1 b (Nat.le_refl _)]; exact T.nn (by omega) hb
 have zz:d b≠0->∀c,b<c->c<C->d c=0->∀i,i<j->H i c=0:=λh c h1 h2 h3 i hi=>by rw[<- up i hi c (by omega) h3];exact T.zc (b:=b) (by rw[r1 b (Nat.le_refl _)]; exact h) h1 h2 (by rw[r1 c (by omega)]; exact h3) i hi
 refine⟨?_,nb,zz⟩;by_cases h:d b=0
 . rw[vz h]; exact T
 . by_cases ex:∃n,b<n/\n<C/\d n≠0
   . obtain⟨n0,q⟩:=ex;obtain⟨n,_,⟨bn,nC,hn⟩,mn⟩:=least (p:=λn=>b<n/\n<C/\d n≠0) n0 q;have hz:∀c,b<c->c<n->d c=0:=λc h1 h2=>Decidable.byContradiction λz=>mn c h2 ⟨h1,by omega,z⟩;have e:=tM (j:=j) (H:=H) bn nC hn hz
     have:=T.wl bn nC (λa ha=>by rw[row,if_neg (by omega)]) (by rw[r1 n (by omega)]; exact hn) λi hi c h1 h2=>by
       by_cases y:i=j
       . rw[y,r1 c (by omega)]; exact hz c h1 h2
       . rw[up i (by omega) c (by omega) (hz c h1 h2)];exact zz h c h1 (by omega) (hz c h1 h2) i (by omega)
     rw[r1 b (Nat.le_refl _),r1 n (by omega),<- e,zU (by omega)]at this;exact this
   . have no:∀n,b<n->n<C->d n=0:=λn h1 h2=>Decidable.byContradiction λz=>ex ⟨n,h1,h2,z⟩;have su:∀i a,b<=a->suB d (H i) a C=0:=λi a h=>ck λc hc=>if_neg (by rintro⟨z,w⟩; exact w (no c (by omega) hc));refine(T.Dm (h:=j)).congr λi hi a ha=>?_;show (if i=j then 0 else bB j C d H b i a)=bB j C d H (b+1) i a;by_cases y:i=j
     . rw[if_pos y,y];unfold bB;rw[if_pos rfl];by_cases z:b+1<=a
       . rw[if_pos z,no a (by omega) ha]
       . rw[if_neg z]
     . rw[if_neg y];unfold bB;rw[if_neg y,if_neg y];by_cases z:b<=a
       . rw[if_pos z,su i a z,Rat.mul_zero,Rat.add_zero];by_cases q:b+1<=a
         . rw[if_pos q]
         . rw[if_neg q]
       . rw[if_neg z,if_neg (by omega)]
theorem ye {j C:Nat}{d:Nat->Rat}{H:Nat->Nat->Rat}(T:Tnn (j+1) C (bB j C d H 0)):∀b,b<=C->Tnn (j+1) C (bB j C d H b)/\∀a,a<b->0<=d a/\(d a≠0->∀c,a<c->c<C->d c=0->∀i,i<j->H i c=0)
 | 0,_=>⟨T,λ_ h=>absurd h (Nat.not_lt_zero _)⟩
 | b+1,hb=>by
   obtain⟨i1,i2⟩:=ye T b (by omega);obtain⟨t1,t2,t3⟩:=Bz i1 (by omega);refine⟨t1,λa ha=>?_⟩;rcases Nat.lt_or_ge a b with z | z
   . exact i2 a z
   . rw[show a=b by omega];exact⟨t2,t3⟩
theorem uf {j C:Nat}{G:Nat->Nat->Rat}(T:Tnn (j+1) C (thK C G ((j+1)*C))):Tnn j C (thK C G (j*C))/\(∀a,a<C->0<=G j a)/\Zc j C (G j) (thK C G (j*C)):=by
 have e:∀i,i<j+1->∀a,a<C->thK C G ((j+1)*C) i a=bB j C (G j) (thK C G (j*C)) 0 i a:=λi hi a _=>by
   rw[Nat.add_mul,Nat.one_mul,mQ C (Nat.le_refl _)];unfold bB;by_cases y:i=j
   . rw[if_pos y,if_pos (Nat.zero_le _),if_neg (by omega),y]
   . rw[if_neg y,if_pos (Nat.zero_le _),if_pos (by omega)]
 obtain⟨t,z⟩:=ye (T.congr e) C (Nat.le_refl _);refine⟨(t.le (Nat.le_succ j) (Nat.le_refl _)).congr λi hi a ha=>?_,λa ha=>(z a ha).1,λb c h1 h2 h3 h4=>(z b (by omega)).2 h3 c h1 h2 h4⟩;unfold bB;rw[if_neg (by omega),if_neg (by omega)]
theorem oK {C c:Nat}{G:Nat->Nat->Rat}:∀j,(∀i,i<j->thK C G (j*C) i c=0)->∀i,i<j->G i c=0
 | 0,_,_,hi=>absurd hi (Nat.not_lt_zero _)
 | j+1,h,i,hi=>by
   have e:∀i,thK C G ((j+1)*C) i c=if i<j then thK C G (j*C) i c+G j c*suB (G j) (thK C G (j*C) i) c C else G i c:=λi=>by rw[Nat.add_mul,Nat.one_mul,mQ C (Nat.le_refl _)]
   have hj:G j c=0:=by
     have:=h j (by omega)
     rwa [e,if_neg (by omega)]at this
   rcases Nat.lt_or_ge i j with z | z
   . refine oK (C:=C) j (λi hi=>?_) i z;have:=h i (by omega)
     rwa [e,if_pos hi,hj,Rat.zero_mul,Rat.add_zero]at this
   . rw[show i=j by omega]; exact hj
theorem oI {R C:Nat}{G:Nat->Nat->Rat}:Tnn R C (thK C G (R*C))↔(∀i,i<R->∀a,a<C->0<=G i a)/\∀j,j<R->Zc j C (G j) G:=by
 constructor
 . intro T
   have all:∀t j,j+t=R->Tnn j C (thK C G (j*C)):=λt=>by
     induction t with
     | zero=>intro j e; rw[show j=R by omega]; exact T
     | succ t ih=>intro j e; exact(uf (ih (j+1) (by omega))).1
   refine⟨λi hi=>(uf (all (R-(i+1)) (i+1) (by omega))).2.1,λj hj b c h1 h2 h3 h4=>?_⟩;exact oK j ((uf (all (R-(j+1)) (j+1) (by omega))).2.2 b c h1 h2 h3 h4)
 . rintro⟨h1,h2⟩;have s:StG R C G G:=⟨λi hi a ha=>⟨h1 i hi a ha,h1 i hi a ha,Iff.rfl⟩,h2⟩;exact λk ρ γ g1 g2 g3 g4=>(s.sp R (Nat.le_refl _) k ρ γ g1 g2 g3 g4).1
theorem rm {xs:List Int}(nn:∀x∈xs,0<=x):0<xs.sum↔∃x∈xs,0<x:=by
 induction xs with
 | nil=>exact⟨λh=>absurd h (by decide),λ⟨_,h,_⟩=>absurd h List.not_mem_nil⟩
 | cons x xs ih=>
   have h0:=nn x (List.mem_cons_self ..);have ih:=ih λy hy=>nn y (List.mem_cons_of_mem _ hy)
   have s0:0<=xs.sum:=by
     rcases Int.lt_or_le xs.sum 0 with z | z
     . exfalso;clear ih
       have:∀ys:List Int,(∀y∈ys,0<=y)->0<=ys.sum:=λys=>by
         induction ys with
         | nil=>intro _; exact Int.le_refl _
         | cons y ys ih2=>intro h; rw[List.sum_cons]; have:=h y (List.mem_cons_self ..); have:=ih2 λz hz=>h z (List.mem_cons_of_mem _ hz); omega
       have:=this xs λy hy=>nn y (List.mem_cons_of_mem _ hy);omega
     . exact z
   rw[List.sum_cons];constructor
   . intro h;by_cases e:0<x
     . exact⟨x,List.mem_cons_self ..,e⟩
     . obtain⟨y,h1,h2⟩:=ih.mp (by omega);exact⟨y,List.mem_cons_of_mem _ h1,h2⟩
   . rintro⟨y,h1,h2⟩;rcases List.mem_cons.mp h1 with rfl | h1
     . omega
     . have:=ih.mpr ⟨y,h1,h2⟩; omega
def Stc (R C:Nat)(m:Nat->Nat->Int):Prop:=∀j,j<R->∀b c,b<c->c<C->m j b≠0->m j c=0->∀i,i<j->m i c=0
theorem nU {R C i j:Nat}{m:Nat->Nat->Int}(t:Bit R C m)(hi:i<R)(hj:j<C):pz (mkI R C m) i j=true↔m i j=0/\(∃b,b<j/\m i b=1)/\∃l,l<i/\m l j=1:=by
 have nn:∀i,i<R->∀j,j<C->0<=m i j:=λi hi j hj=>by rcases t i hi j hj with z | z <;> omega
 unfold pz;rw[Bool.and_eq_true,Bool.and_eq_true,decide_eq_true_eq,decide_eq_true_eq,decide_eq_true_eq,ij hi hj];have e1:((mkI R C m).getD i []).take j=(List.range j).map (m i):=by rw[eG hi,<- List.map_take,List.take_range,Nat.min_eq_left (by omega)]
 have e2:((List.range ((mkI R C m).take i).length).map λl=>(((mkI R C m).take i).getD l []).getD j 0)=(List.range i).map λl=>m l j:=by
   rw[List.length_take,b9,Nat.min_eq_left (by omega)];refine List.map_congr_left λl hl=>?_;have hl:=List.mem_range.mp hl;have:((mkI R C m).take i).getD l []=(mkI R C m).getD l []:=by simp[List.getD,List.getElem?_take,hl]
   rw[this,ij (by omega) hj]
 rw[e1,e2,rm (λx hx=>by
   obtain⟨b,hb,rfl⟩:=List.mem_map.mp hx;exact nn i hi b (by have:=List.mem_range.mp hb; omega)),rm (λx hx=>by
   obtain⟨l,hl,rfl⟩:=List.mem_map.mp hx;exact nn l (by have:=List.mem_range.mp hl; omega) j hj)]
 refine and_congr Iff.rfl (and_congr ⟨?_,?_⟩ ⟨?_,?_⟩)
 . rintro⟨x,hx,h⟩;obtain⟨b,hb,rfl⟩:=List.mem_map.mp hx;have hb:=List.mem_range.mp hb;exact⟨b,hb,by rcases t i hi b (by omega) with z | z <;> omega⟩
 . rintro⟨b,hb,h⟩;exact⟨m i b,List.mem_map.mpr ⟨b,List.mem_range.mpr hb,rfl⟩,by omega⟩
 . rintro⟨x,hx,h⟩;obtain⟨l,hl,rfl⟩:=List.mem_map.mp hx;have hl:=List.mem_range.mp hl;exact⟨l,hl,by rcases t l (by omega) j hj with z | z <;> omega⟩
 . rintro⟨l,hl,h⟩;exact⟨m l j,List.mem_map.mpr ⟨l,List.mem_range.mpr hl,rfl⟩,by omega⟩
theorem pQ {R C:Nat}{m:Nat->Nat->Int}(t:Bit R C m):dH C (mkI R C m)=true↔Stc R C m:=by
 unfold dH;rw[List.all_eq_true,b9];constructor
 . intro h j hj b c h1 h2 h3 h4 i hi;have q:=List.all_eq_true.mp (h j (List.mem_range.mpr hj)) c (List.mem_range.mpr h2);have hb:m j b=1:=(t j hj b (by omega)).resolve_right h3;refine(t i (by omega) c h2).resolve_left λz=>?_;have:=(nU t hj h2).mpr ⟨h4,⟨b,h1,hb⟩,i,hi,z⟩;rw[this]at q;exact absurd q (by decide)
 . intro h j hj;rw[List.all_eq_true];intro c hc;rw[List.mem_range]at hj hc;cases e:pz (mkI R C m) j c with
   | false=>rfl
   | true=>exfalso;obtain⟨h1,⟨b,hb,h2⟩,l,hl,h3⟩:=(nU t hj hc).mp e;have:=h j hj b c hb hc (by omega) h1 l hl;omega
theorem xE {big:Bool}{R C:Nat}{m:Nat->Nat->Int}{ps:List Int}(t:Bit R C m)(hp:∀i,0<=ps.getD i 0):Tnn R C (thK C (nmG big m ps C) (R*C))↔dH C (mkI R C m)=true:=by
 rw[oI,pQ t];have z:∀i,i<R->∀a,a<C->(nmG big m ps C i a=0↔m i a=0):=λi hi a ha=>(uC t hp hi ha).2;constructor
 . rintro⟨_,h⟩ j hj b c h1 h2 h3 h4 i hi;exact(z i (by omega) c h2).mp (h j hj b c h1 h2 (λy=>h3 ((z j hj b (by omega)).mp y)) ((z j hj c h2).mpr h4) i hi)
 . intro h;exact⟨λi hi a ha=>(uC t hp hi ha).1,λj hj b c h1 h2 h3 h4 i hi=>(z i (by omega) c h2).mpr (h j hj b c h1 h2 (λy=>h3 ((z j hj b (by omega)).mpr y)) ((z j hj c h2).mp h4) i hi)⟩
theorem AO {R C i j:Nat}{G:Nat->Nat->Rat}(hi:i<R)(hj:j<C)(h:0<G i j):¬Tnn R C (thK C (ngG G i j) (R*C)):=λT=>by have:=(oI.mp T).1 i hi j hj;unfold ngG at this;rw[if_pos ⟨rfl,rfl⟩]at this;generalize G i j=x at h this;have:0+x<=-x+x:=(Rat.add_le_add_right).mpr this;rw[Rat.zero_add,Rat.neg_add_cancel]at this;exact Rat.not_lt.mpr this h
theorem zf (q:Rat):D.tup [.int (0-q.num),.int (q.den:Nat)]=frD (-q):=by unfold frD;rw[Rat.neg_num,Rat.neg_den,Int.zero_sub]
theorem zo {R C:Nat}{V:Nat->Nat->Rat}{due:Bool}(t:Tq R C (mkT R C V))(h:Tnn R C V↔due=true):(fuO (whM (mkT R C V) ((mkT R C V).map scL)) R C 0).isNone=due:=by
 have e:∀i,i<R->∀j,j<C->qM (mkT R C V) i j=V i j:=λi hi j hj=>uU hi hj;cases due with
 | true=>rw[zT t ((h.mpr rfl).congr λi hi j hj=>(e i hi j hj).symm)];rfl
 | false=>
   cases q:fuO (whM (mkT R C V) ((mkT R C V).map scL)) R C 0 with
   | some p=>rfl
   | none=>exact absurd (h.mp ((zw t q).congr e)) (by decide)
end K49
namespace Hy
open PySem PySem.Spec PyProof.Rows L2
open Ev (D Den aq ai aU aO)
def spT (K:PySem.W.Frag)(Φ:Nd->List D->Nd->Prop):Sp:=λvs H Q _=>∃(A:Addr->Prop) (u:V) (bs:List Addr) (us:List V) (t:Nd) (ds:List D) (t':Nd),vs=u::us/\(∀b,A b->∃o,H b=some o)/\bs.Nodup/\(∀b∈bs,¬A b)/\bN K (hd H λb=>A b\/b∈bs) H u bs t/\aq K (hd H λb=>A b\/b∈bs) us ds/\Φ t ds t' /\
 ∀H' bs',ah (hd H (·∈bs)) H'->Fr (hd H (·∈bs)) H' bs'->bY K (hd H' λb=>A b\/b∈bs') H' (some u) bs' (.n t')->Q .non H'
def dSN (K:PySem.W.Frag)(τ:List Sl)(t':Nd):TS:=λD σ H=>∃A H₀ B u,Sta K A H₀ τ B σ H/\(σ[0]?).join=some u/\∀σ2 H2 bs',ah H₀ H2->Fr H₀ H2 bs'->bY K (hd H2 λb=>A b\/b∈bs') H2 (some u) bs' (.n t')->D.nx σ2 H2/\D.rt .non H2
def dSQ (K:PySem.W.Frag)(τ:List Sl)(i:Nat)(M:List Sl->Prop):TS:=λD σ H=>∃A H₀ B,Sta K A H₀ τ B σ H/\∀τ' B' σ' H',M τ'->Sta K A H₀ τ' B' σ' H'->σ'[i]?=σ[i]?->D.nx σ' H'
section
variable {X:Cx}{τ τ1:List Sl}{x:D}{c e o:Expr}{es:List Expr}{pos p q pr:Pos}{k:Nat}{N:Po}{st:Stmt}{rest:List Stmt}{t t':Nd}{ds ys:List D}{body:List Stmt}{l i:Nat}{M M1:List Sl->Prop}{s:Sl}
theorem ym (h:M τ):PSs X [] (dSQ X.K τ i M):=gM i7 λ_ σ H ⟨_,_,B,S,fn⟩=>fn τ B σ H h S rfl
theorem o8 (h1:PS X st (dSQ X.K τ i M1))(h2:∀τ1,M1 τ1->PSs X rest (dSQ X.K τ1 i M)):PSs X (st::rest) (dSQ X.K τ i M):=by have h2':PSs X rest λD σ H=>∃τ1,M1 τ1/\dSQ X.K τ1 i M D σ H:=λpins s σ H D I ⟨τ1,h,q⟩=>h2 τ1 h pins s σ H D I q;exact gM (cV h1 h2') λ_ _ _ ⟨A,H₀,B,S,fn⟩=>⟨A,H₀,B,S,λτ1 B' _ _ h S' e=>⟨τ1,h,A,H₀,B',S',λτ2 B2 σ2 H2 hm S2 e2=>fn τ2 B2 σ2 H2 hm S2 (e2.trans e)⟩⟩
theorem yG (r:Nat){n:Str}(hN:X.N.Nodup)(he:PE X e (dE X.K true τ s))(hr:PSs X rest (dSQ X.K (τ.set r s) i M))(hri:r≠i:=by decide)(hi:X.N[r]?=some n:=by rfl)(hx:Loc X.env.scope n:=by first | exact .inl rfl | exact .inr rfl)(hs:swapsWith e (some (.Name n p)) pos.line X.env=pure false:=by rfl)
   (hf:X.fn n=true\/X.env.scope.names.lookup n=some .local:=by first | exact .inl rfl | exact .inr rfl | assumption):PSs X (.Assign [.Name n p] e pos::rest) (dSQ X.K τ i M):=
 o8 (M1:=(·=τ.set r s)) (psW (js hN hi hx he hs hf) λD σ H ⟨A,H₀,B,S,fn⟩=>⟨A,H₀,B,S,λw H' bs e hf h=>fn _ _ _ _ rfl (S.set e hf h) (List.getElem?_set_ne hri)⟩) λ_ e=>e▸hr
theorem yL (r:Nat){n:Str}{it:Expr}{g:Nat->D}{tp:Pos}(inv:Nat->List Sl->Prop)(Bq:Bk X l)(hN:X.N.Nodup)(hi:PI X (.Name n tp) it (dI X.K τ ys))(hx:∀a (h:a<ys.length),ys[a]=g a)
   (h0:inv 0 τ) (hb:∀a τ',a<ys.length->inv a τ'->PSs X body (dSQ X.K (τ'.set r (.d (g a))) i (inv (a+1)))) (hri:r≠i:=by decide)
   (hs:∀x,foldedSetIterable it X.env x=pure x:=by intro _; rfl) (hi':X.N[r]?=some n:=by rfl) (hl:Loc X.env.scope n:=by first | exact .inl rfl | exact .inr rfl)
   (hf:X.fn n=true\/X.env.scope.names.lookup n=some .local:=by first | exact .inl rfl | exact .inr rfl | assumption):PS X (.For (.Name n tp) it body [] pos) (dSQ X.K τ i (inv ys.length)):=by
 have hb':PSs X body λD σ H=>∃a τ',a<ys.length/\inv a τ'/\dSQ X.K (τ'.set r (.d (g a))) i (inv (a+1)) D σ H:=λpins s σ H D I ⟨a,τ',h,h',q⟩=>hb a τ' h h' pins s σ H D I q;refine psW (vJ Bq.po hi (dg (i:=r) hN hi' hl hf) hb' hs) λD σ H ⟨A,H₀,B,S,fin⟩=>⟨A,H₀,B,S,λJ H1 e1 yl=>?_⟩;obtain⟨s0,S1⟩:=(S.mono e1).base;have sub:∀{H'},ah (hd H1 λb=>∃i,b∈B i) H'->ah (hd H1 (own A B)) H':=λe=>(av (ah.refl _) λ_ z=>.inr z).trans e;refine⟨λa m σ' H'=>m=ys.length-a/\a<=ys.length/\∃τ' B',inv a τ'/\Sta X.K A (hd H1 λb=>∃i,b∈B i) τ' B' σ' H'/\σ'[i]?=σ[i]?,⟨ys.length,rfl,Nat.zero_le _,τ,B,h0,S1,rfl⟩,?_⟩;rintro a m σ' H' ⟨rfl,ha,τ',B',hT,S',q'⟩;obtain⟨y1,y2⟩:=yl H' (sub S'.same);by_cases hlt:a<ys.length
 . obtain⟨gg,y⟩:=y2 a hlt;refine .inr ⟨gg,λσ2 H2=>∃τ2 B2,inv (a+1) τ2/\Sta X.K A (hd H1 λb=>∃i,b∈B i) τ2 B2 σ2 H2/\σ2[i]?=σ[i]?,λσ2 H2 q=>⟨ys.length-(a+1),by omega,rfl,hlt,q⟩,λx H2 hy=>?_⟩;obtain⟨e2,dx⟩:=y x H2 hy;have S2:=S'.mono e2
   have dd:=dx (own A B') S'.dm (by
     intro b o z;obtain⟨z1,z2⟩:=ag.mp z;have z3:hd H1 (λb=>∃i,b∈B i) b=some o:=ag.mpr ⟨λy=>z1 (.inr y),z2⟩;refine ag.mpr ⟨λy=>?_,S'.same _ _ z3⟩;rcases y with y | ⟨l,y⟩
     . exact z1 (.inl y)
     . rw[S'.fr l b y]at z3; cases z3)
   rw[hx a hlt]at dd;have S3:=S2.set (i:=r) (ah.refl _) (bs:=[]) (λ_ z=>nomatch z) (iH dd);have ei:(σ'.set r (some x))[i]?=σ'[i]?:=List.getElem?_set_ne hri;exact⟨a,τ',hlt,hT,A,_,_,S3,λτ3 B3 σ3 H3 h3 S4 q4=>⟨τ3,B3,h3,S4,by rw[q4,ei,q']⟩⟩
 . have e:a=ys.length:=by omega
   subst e;exact .inl ⟨y1 _ (Nat.le_refl _),fin τ' B' σ' H' hT (S'.back s0 S.ad) q'⟩
theorem vb {K:PySem.W.Frag}{A:Addr->Prop}{H₀ H:Hp}{B:Nat->List Addr}{σ:L2.St}{u:V}{D:Ends}(S:Sta K A H₀ τ B σ H)(eu:(σ[0]?).join=some u)(h0:τ[0]?=some (.n t'))(fin:∀σ2 H2 bs',ah H₀ H2->Fr H₀ H2 bs'->bY K (hd H2 λb=>A b\/b∈bs') H2 (some u) bs' (.n t')->D.nx σ2 H2/\D.rt .non H2)(σ2:L2.St):D.nx σ2 H/\D.rt .non H:=by obtain⟨nd,u',g,h⟩:=S.sl 0 _ h0;rw[eu]at g;cases g;exact fin σ2 H (B 0) S.same (λb hb=>⟨S.fr 0 b hb,S.bd 0 b hb⟩) ⟨nd,u,rfl,h.frame (av (ah.refl _) λb z=>z.elim .inl λz=>.inr ⟨0,z⟩) λ_ _=>rfl⟩
theorem zu (h0:τ[0]?=some (.n t'):=by rfl):PSs X [] (dSN X.K τ t'):=gM i7 λ_ σ _ ⟨_,_,_,_,S,eu,fin⟩=>(vb S eu h0 fin σ).1
theorem xu (h1:PS X st (dSQ X.K τ 0 M))(h2:∀τ1,M τ1->PSs X rest (dSN X.K τ1 t')):PSs X (st::rest) (dSN X.K τ t'):=by have h2':PSs X rest λD σ H=>∃τ1,M τ1/\dSN X.K τ1 t' D σ H:=λpins s σ H D I ⟨τ1,h,q⟩=>h2 τ1 h pins s σ H D I q;exact gM (cV h1 h2') λ_ _ _ ⟨A,H₀,B,u,S,eu,fin⟩=>⟨A,H₀,B,S,λτ1 B' _ _ h S' e=>⟨τ1,h,A,H₀,B',u,S',by rw[e]; exact eu,fin⟩⟩
theorem zY {p1:Pos}{b:Bool}(hc:PT X c (dT X.K τ b))(ht:b=true->τ[0]?=some (.n t'))(hf:b=false->PSs X rest (dSN X.K τ t')):PSs X (.If c [.Return none p1] [] pos::rest) (dSN X.K τ t'):=by
 cases b with
 | true=>exact gM (cV (qy hc (wj xS) dQ) dQ) λ_ σ _ ⟨A,H₀,B,u,S,eu,fin⟩=>⟨A,H₀,B,S,λH' e=>oj (vb (S.mono e) eu (ht rfl) fin σ).2⟩
 | false=>exact gM (cV (qy hc dQ i7) (hf rfl)) λ_ σ _ ⟨A,H₀,B,u,S,eu,fin⟩=>⟨A,H₀,B,S,λH' e=>pY ⟨A,H₀,B,u,S.mono e,eu,fin⟩⟩
theorem Ah {pt:List Nat}{m:Int}{j:Nat}{ix:Expr}{sp:Pos}(ho:PE X o (dP X.K τ i pt))(hx:PE X ix (dE X.K false τ (.d (.int m))))(he:PE X e (dE X.K true τ (.d x)))(hi:τ[i]?=some (.n t))(hp:cE pt t=some (.l (ds.map .d)))(hj:ixN ds.length m=some j)(hr:PSs X rest (dSQ X.K (τ.set i (.n (cw pt t (.l ((ds.set j x).map .d))))) i M))
   (hs:swapsWithSole [.Subscript o ix sp] e pos.line X.env=pure false:=by rfl) (hw:swappedStores [.Subscript o ix sp] e X.env=pure none:=by rfl) (h1:(assignEach [.Subscript o ix sp] X.env).map (·.2)=[assign (.Subscript o ix sp) X.env]:=by rfl)
   (ha:∀v,assign (.Subscript o ix sp) X.env v=(do
     let ov <- holding [v] (eval o X.env)
     let iv <- holding [v,ov] (eval ix X.env)
     standAt sp
     holding [v,ov,iv] (setItem ov iv v)
     release [v,ov,iv] []):=by intro _; rfl) :
   PSs X (.Assign [.Subscript o ix sp] e pos::rest) (dSQ X.K τ i M):=
 o8 (M1:=(·=τ.set i (.n (cw pt t (.l ((ds.set j x).map .d)))))) (psW (qi he (uW ho hx set_list ha) hs hw h1) λD σ H ⟨A,H₀,B,S,fn⟩=>aT S λv H1 e1 d1=>by
   refine⟨A,H₀,B,S.mono e1,λu w H2 eu e2 pv=>aT ((S.mono e1).mono e2) λy H3 e3 d3=>?_⟩;have S3:=((S.mono e1).mono e2).mono e3;obtain⟨u',l,vs,bs0,eu',pv',hH,r0,nd0,hal,hown,put⟩:=S3.putN hi hp;rw[eu]at eu';cases eu';obtain rfl:=(pv.mono e3).det pv';cases d3;obtain⟨dl,rfl⟩:=fY r0;refine⟨l,vs,m,j,rfl,rfl,hH,by rw[dl.length]; exact hj,?_⟩;have sm:ah (hd H3 (own A B)) (hd (upd H3 l (.lst (vs.set j v))) λb=>own A B b\/b∈([]:List Addr)):=λb o z=>by obtain⟨z1,z2⟩:=ag.mp z;exact ag.mpr ⟨(λy=>y.elim z1 λy=>(nomatch y)),by rw[au (λy:b=l=>z1 (by rw[y]; exact hal))]; exact z2⟩
   obtain⟨B',S'⟩:=put (H1:=H3) (vs':=vs.set j v) (bs1:=[]) (xs':=(ds.set j x).map .d) (ah.refl _) List.nodup_nil (λ_ z=>nomatch z) (lx ((lM j dl (d1.mono (av (e2.trans e3) λ_ z=>z))).mono sm));exact fn _ B' _ _ rfl S' rfl) λ_ e=>e▸hr
theorem w8 (i:Nat){n nk:Str}{Φ:Nd->List D->Nd->Prop}(Bb:Bk X k)(cl:sR X.prog X.w X.K X.mg X.base k n (spT X.K Φ))(hΦ:Φ t ds t')(hi:τ[i]?=some (.n t))(ha:PA X es (dA X.K true τ ds))(hr:PSs X rest (dS X.K (τ.set i (.n t')) N))(hNi:X.N[i]?=some nk:=by rfl)
   (hv:Vis X.env.scope nk:=by first | exact Or.inl rfl | exact Or.inr (Or.inl rfl) | exact Or.inr (Or.inr rfl)) (hd1:(nk==("__debug__" : Str))=false:=by decide) (hcd:(nk==("__classdict__" : Str))=false:=by decide)
   (hg:Gl X n:=by rfl) (hdb:(n==("__debug__" : Str))=false:=by decide) (he:starEach (.Name nk q::es) X.env=(false,eval (.Name nk q) X.env)::starEach es X.env:=by rfl) (hpl:(backTo pos (starEach es X.env)).any (·.1)=false:=by rfl)
   (hs:swapsWith (.Call (.Name n p) (.Name nk q::es) [] pos) none pr.line X.env=pure false:=by rfl) :
   PSs X (.Expr (.Call (.Name n p) (.Name nk q::es) [] pos) pr::rest) (dS X.K τ N):=by
 obtain⟨f,fd,ps,F,hm,hk,hb⟩:=cl;refine bf (M:=(·=τ.set i (.n t'))) (psW (fK (qJ F Bb.room hg hm hk hb .nil yt (b7 (bI (i:=i) hNi hv hd1 hcd) ha he) hdb he hpl) hs) λD σ H ⟨A,H₀,B,S,Me⟩=>?_) λ_ e=>e▸hr;obtain⟨_,u,h2,_⟩:=S.sl i _ hi;refine⟨_,slot_of h2,eP S λvs H1 e1 d1=>?_⟩;have S1:=S.mono e1;obtain⟨nd,u',g2,g3⟩:=S1.sl i _ hi;rw[h2]at g2;cases g2;show spT X.K Φ (_++[]) _ _ _;rw[List.append_nil];have f0:∀b∈B i,H₀ b=none:=λb hb=>S.fr i b hb;have vwS:ah (Hy.hd H1 (own A B)) (Hy.hd H1 λb=>(own A B b/\b∉B i)\/b∈B i):=av (ah.refl _) λb z=>z.elim (·.1) λz=>.inr ⟨i,z⟩;refine⟨λb=>own A B b/\b∉B i,u,B i,vs,t,ds,t',rfl,λb z=>S1.dm b z.1,nd,λb hb z=>z.2 hb,g3.frame vwS λ_ _=>rfl,d1.mono vwS,hΦ,λH' bs e2 fr z=>?_⟩;have low:∀b,b∉B i->∀o,H1 b=some o->H' b=some o:=λb hb o y=>e2 b o (ag.mpr ⟨hb,y⟩)
 have new:∀b∈bs,b∉B i->H1 b=none:=λb hb h=>by
   cases y:H1 b with
   | none=>rfl
   | some o=>have:=(fr b hb).1;rw[ag.mpr ⟨h,y⟩]at this;cases this
 have off:∀j b,j≠i->b∈B j->b∉B i:=λj b hj hb z=>hj (S.uq j i b hb z)
 have es:σ.set i (some u)=σ:=by
   refine List.ext_getElem? λj=>?_;by_cases ej:i=j
   . subst ej;have hl:=(List.getElem?_eq_some_iff.mp hi).1;rw[List.getElem?_set_self (by rw[S.len]; exact hl)];rw[List.getElem?_eq_getElem (show i<σ.length by rw[S.len]; exact hl)]at h2 ⊢;exact congrArg some (Eq.symm h2)
   . rw[List.getElem?_set_ne ej]
 refine Me.nx _ (upB B i bs) _ _ rfl (es▸(show Sta X.K A H₀ (τ.set i (.n t')) (upB B i bs) (σ.set i (some u)) H' from ?_));refine⟨λb o y=>low b (λz=>by rw[f0 b z]at y; cases y) o (S1.same b o y),by rw[List.length_set,List.length_set,S.len],λj c hj=>?_,λj b hb=>?_,λj k b z1 z2=>?_,S.ad,λj b hb=>?_⟩
 . by_cases ej:j=i
   . subst ej;have hl:=(List.getElem?_eq_some_iff.mp hi).1;rw[List.getElem?_set_self hl]at hj;cases hj;rw[List.getElem?_set_self (by rw[S.len]; exact hl)];unfold upB;rw[if_pos rfl];refine z.mono (av (ah.refl _) λb y=>?_) (ah.refl _);rcases y with y | ⟨k,y⟩
     . exact .inl ⟨.inl y,λw=>by obtain⟨o,g⟩:=S.ad b y; rw[f0 b w]at g; cases g⟩
     . rcases aP (B:=B) (i:=j) (j:=k) y with ⟨_,y⟩ | ⟨y1,y⟩
       . exact .inr y
       . exact .inl ⟨.inr ⟨k,y⟩,off k b y1 y⟩
   . rw[List.getElem?_set_ne (λz=>ej z.symm)]at hj;rw[List.getElem?_set_ne (λz=>ej z.symm)]
     have:=(S1.sl j c hj).frame (G':=Hy.hd H' (own A (upB B i bs))) (H':=H') (λb o y=>by
       obtain⟨y1,y2⟩:=ag.mp y;have nb:b∉B i:=λw=>y1 (.inr ⟨i,w⟩);refine ag.mpr ⟨λw=>?_,low b nb o y2⟩;rcases w with w | ⟨k,w⟩
       . exact y1 (.inl w)
       . rcases aP w with ⟨_,w⟩ | ⟨_,w⟩
         . rw[new b w nb]at y2; cases y2
         . exact y1 (.inr ⟨k,w⟩)) (λb hb=>by
       obtain⟨o,y⟩:=S1.bd j b hb;rw[y,low b (off j b ej hb) o y])
     unfold upB;rw[if_neg ej];exact this
 . rcases aP hb with ⟨_,y⟩ | ⟨_,y⟩
   . by_cases w:b∈B i
     . exact f0 b w
     . exact S1.same.free (new b y w)
   . exact S.fr j b y
 . have kk:∀j,j≠i->b∈B j->b∉bs:=λj hj hb w=>by obtain⟨o,y⟩:=S1.bd j b hb;rw[new b w (off j b hj hb)]at y;cases y
   rcases aP z1 with ⟨y1,y⟩ | ⟨y1,y⟩ <;> rcases aP z2 with ⟨y2,y'⟩ | ⟨y2,y'⟩
   . exact y1.trans y2.symm
   . exact absurd y (kk k y2 y')
   . exact absurd y' (kk j y1 y)
   . exact S.uq j k b y y'
 . rcases aP hb with ⟨_,y⟩ | ⟨y1,y⟩
   . exact(fr b y).2
   . obtain⟨o,w⟩:=S1.bd j b y;exact⟨o,low b (off j b y1 y) o w⟩
end
section
variable {P:Program}{w:World}{K:PySem.W.Frag}{mg:Str->Option Value}{base:Heap}
theorem fnT {x qual:Str}{st:Stmt}{f:Addr}{fd:FuncData}{N ps:List Str}{k:Nat}{Φ:Nd->List D->Nd->Prop}(F:Fun K x qual st f fd)(S:aF N ps (ak st))(hb:∀x∈ar,mg x=none)(len:∀t ds r,Φ t ds r->ds.length+1=ps.length)
   (body:∀t ds r,Φ t ds r->∀cdv A outer s H E0,Bk (Xc P w K mg base N qual st f cdv A outer s H E0) k->PSs (Xc P w K mg base N qual st f cdv A outer s H E0) (cH st) (dSN K (.n t::(ds.map .d++List.replicate (N.length-(ds.length+1)) .un)) r)) :
   a4 P w K mg base CX0 (k+1) f fd ps (spT K Φ):=by
 refine F.ok S (λvs H Q E ⟨A,u,bs,us,t,ds,r,hvs,_,_,_,_,dd,h,_⟩=>by rw[hvs,List.length_cons,dd.length]; exact len _ ds r h) λcdv A outer s H vs Q E hr ⟨A',u,bs,us,t,ds,r,hvs,ha,ndp,nd,hp,dd,h,q⟩=>?_;subst hvs
 have ow:∀b,own A' (λi=>if i=0 then bs else []) b↔(A' b\/b∈bs):=λb=>by
   refine⟨λz=>z.elim .inl λ⟨i,z⟩=>?_,λz=>z.elim .inl λz=>.inr ⟨0,by simp[z]⟩⟩;by_cases e:i=0
   . simp only[if_pos e]at z; exact .inr z
   . simp only[if_neg e]at z; cases z
 have hB:∀i b,b∈(if i=0 then bs else []:List Addr)->i=0/\b∈bs:=λi b z=>by
   by_cases e:i=0
   . rw[if_pos e]at z; exact⟨e,z⟩
   . rw[if_neg e]at z; cases z
 have vw:ah (Hy.hd H λb=>A' b\/b∈bs) (Hy.hd H (own A' λi=>if i=0 then bs else [])):=av (ah.refl _) λb z=>(ow b).mp z;refine⟨_,body t ds r h cdv A outer s H E ⟨hr,rfl,hb,PassesOwn.never⟩,A',Hy.hd H (·∈bs),λi=>if i=0 then bs else [],u,⟨aN,?_,λi s hi=>?_,λi b z=>?_,λi j b z1 z2=>((hB i b z1).1).trans ((hB j b z2).1).symm,λb z=>?_,λi b z=>hp.some_of b (hB i b z).2⟩,rfl,λσ2 H' bs' e fr z=>⟨q H' bs' e fr z,q H' bs' e fr z⟩⟩
 . unfold L2.start;simp[dd.length]
 . have hl:=dd.length;unfold L2.start
   match i,hi with
   | 0,hi=>cases hi;exact⟨ndp,u,rfl,hp.frame vw λ_ _=>rfl⟩
   | i+1,hi=>
     rw[List.getElem?_cons_succ]at hi;show bY K _ H ((((us.map some)++_)[i]?).join) _ s;by_cases hlt:i<ds.length
     . rw[List.getElem?_append_left (by simpa using hlt),List.getElem?_map,List.getElem?_eq_getElem hlt]at hi;cases hi;obtain⟨v,e,dv⟩:=dd.get (List.getElem?_eq_getElem hlt);refine⟨rfl,v,?_,dv.mono vw⟩;rw[List.getElem?_append_left (by simpa[hl]using hlt),List.getElem?_map,e];rfl
     . rw[List.getElem?_append_right (by simpa using hlt),List.getElem?_replicate]at hi;split at hi
       . cases hi; rfl
       . cases hi
 . unfold Hy.hd;rw[if_pos (hB i b z).2]
 . obtain⟨o,y⟩:=ha b z;exact⟨o,ag.mpr ⟨λe=>nd b e z,y⟩⟩
end
end Hy
namespace K49
open PySem PySem.Spec PyProof.Rows L2 Hy
open Ev (D Den aq aD aH)
noncomputable def tuW (s:Int)(j c:Nat)(G:Nat->Nat->Rat)(i a:Nat):Rat:=G i a+(s:Rat)*(G i c/G j c)*G j a
noncomputable def tuS (s:Int)(j c:Nat)(G:Nat->Nat->Rat):Nat->Nat->Rat:=λi a=>if i<j/\a<c/\G j c≠0 then tuW s j c G i a else G i a
noncomputable def tuP (s:Int)(j c i a:Nat)(G:Nat->Nat->Rat):Nat->Nat->Rat:=λx y=>if x<i/\y<c\/x=i/\y<a then tuW s j c G x y else G x y
theorem Bh (s:Int)(j c:Nat)(G:Nat->Nat->Rat):tuP s j c 0 0 G=G:=by funext x y;unfold tuP;rw[if_neg (by omega)]
theorem xj (s:Int)(j c i:Nat)(G:Nat->Nat->Rat):tuP s j c i c G=tuP s j c (i+1) 0 G:=by
 funext x y;unfold tuP;by_cases h:x<i/\y<c\/x=i/\y<c
 . rw[if_pos h,if_pos (by omega)]
 . rw[if_neg h,if_neg (by omega)]
theorem xl {s:Int}{j c:Nat}{G:Nat->Nat->Rat}(h0:G j c≠0):tuP s j c j 0 G=tuS s j c G:=by
 funext x y;unfold tuP tuS;by_cases h:x<j/\y<c
 . rw[if_pos (.inl h),if_pos ⟨h.1,h.2,h0⟩]
 . rw[if_neg (by omega),if_neg λz=>h ⟨z.1,z.2.1⟩]
theorem zM {s:Int}{j c:Nat}{G:Nat->Nat->Rat}(h0:G j c=0):tuS s j c G=G:=by funext x y;unfold tuS;rw[if_neg λz=>z.2.2 h0]
theorem wW {s:Int}{R C j c i a:Nat}{G:Nat->Nat->Rat}(hi:i<R):sa (mkT R C (tuP s j c i a G)) i a (tuW s j c G i a)=mkT R C (tuP s j c i (a+1) G):=by
 rw[me hi];refine k5 λx _ y _=>?_;unfold tuP;by_cases e:x=i/\y=a
 . rw[if_pos e,if_pos (.inr ⟨e.1,by omega⟩),e.1,e.2]
 . rw[if_neg e];by_cases h:x<i/\y<c\/x=i/\y<a
   . rw[if_pos h,if_pos (by omega)]
   . rw[if_neg h,if_neg (by omega)]
theorem y7 {s:Int}{j c i a:Nat}{G:Nat->Nat->Rat}(ha:a<=c):tuP s j c i a G i c=G i c:=by unfold tuP;rw[if_neg (by omega)]
theorem yi {s:Int}{j c i a y:Nat}{G:Nat->Nat->Rat}(hi:i<j):tuP s j c i a G j y=G j y:=by unfold tuP;rw[if_neg (by omega)]
theorem AF {s:Int}{j c i a:Nat}{G:Nat->Nat->Rat}:tuP s j c i a G i a=G i a:=by unfold tuP;rw[if_neg (by omega)]
def fy (t:Nd)(ds:List D)(t':Nd):Prop:=∃(R C j c:Nat) (s:Int) (G:Nat->Nat->Rat),t=cg (mkT R C G)/\ds=[.int (j:Nat),.int (c:Nat),.int s]/\j<R/\c<C/\R<=7/\C<=7/\(∀i,i<R->∀a,a<C->Sq 900 (G i a))/\(s=1\/s=-1)/\t'=cg (mkT R C (tuS s j c G))
noncomputable def chS (R C j c:Nat)(s:Int)(H:Nat->Nat->Rat)(s4 s5 s6 s7:Sl):List Sl:=[.n (cg (mkT R C H)),.d (.int (j:Nat)),.d (.int (c:Nat)),.d (.int s),s4,s5,s6,s7]
theorem sgn_mul {s:Int}(hs:s=1\/s=-1)(q:Rat):D.tup [.int (s*q.num),.int (q.den:Nat)]=frD ((s:Rat)*q):=by
 rcases hs with rfl | rfl
 . rw[Int.one_mul,show ((1:Int):Rat)=1 from rfl,Rat.one_mul]; rfl
 . rw[show ((-1:Int):Rat)=-1 from rfl,Rat.neg_mul,Rat.one_mul];unfold frD;rw[Rat.neg_num,Rat.neg_den,Int.neg_mul,Int.one_mul]
theorem Sq.div {m:Nat}{x y:Rat}(hx:Sq m x)(hy:Sq m y)(h:y≠0):Sq (m+m) (x/y):=by
 have n0:y.num≠0:=λz=>h (Rat.num_eq_zero.mp z);have dx:=den_pos x;have dy:=den_pos y;have e:((x.num*(y.den:Nat):Int):Rat)=x/y*(((x.den:Nat)*y.num:Int):Rat):=by rw[Rat.intCast_mul,Rat.intCast_mul,<- cA x,<- cA y];generalize (((x.den:Nat):Int):Rat)=a;generalize (((y.den:Nat):Int):Rat)=b;have:x/y*y=x:=Rat.div_mul_cancel h;generalize x/y=w at this ⊢;grind
 have b1:Bd (m+m) (x.num*(y.den:Nat)):=hx.num.mul hy.den;have b2:Bd (m+m) ((x.den:Nat)*y.num):=hx.den.mul hy.num;rcases Int.lt_or_gt_of_ne n0 with neg | pos
 . refine Sq.cD (t:=-(x.num*(y.den:Nat))) (b:=-((x.den:Nat)*y.num)) ?_ ?_ ?_ ?_
   . have:=Int.mul_neg_of_pos_of_neg dx neg; omega
   . rw[Rat.intCast_neg,Rat.intCast_neg,e]; grind
   . unfold Bd at b1 ⊢; rw[Int.natAbs_neg]; exact b1
   . unfold Bd at b2 ⊢; rw[Int.natAbs_neg]; exact b2
 . exact Sq.cD (Int.mul_pos dx pos) e b1 b2
theorem Sq.sgn {n:Nat}{s:Int}{q:Rat}(hs:s=1\/s=-1)(h:Sq n q):Sq n ((s:Rat)*q):=by
 rcases hs with rfl | rfl
 . rw[show ((1:Int):Rat)=1 from rfl,Rat.one_mul]; exact h
 . rw[show ((-1:Int):Rat)=-1 from rfl,Rat.neg_mul,Rat.one_mul];exact⟨by rw[Rat.neg_num]; exact h.1.neg,by rw[Rat.neg_den]; exact h.2⟩
section
variable {P:Program}{w:World}{K:PySem.W.Frag}{mg:Str->Option Value}{base:Heap}{k:Nat}{f:Addr}{fd:FuncData}{qual:Str}
set_option maxHeartbeats 4000000 in
theorem lH (F:Fun K "change_by" qual (top 22) f fd)(hb:∀x∈ar,mg x=none)(c_quotient_of:Cal P w K mg base k "quotient_of" dC)(c_sum_of:Cal P w K mg base k "sum_of" ka)(c_product_of:Cal P w K mg base k "product_of" cR):a4 P w K mg base CX0 (k+1) f fd ["grid","j","b","sign"] (spT K fy):=by
 refine fnT F gC hb (by rintro _ _ _ ⟨_,_,_,_,_,_,_,rfl,_⟩; rfl) ?_;rintro _ _ _ ⟨R,C,j,c,s,V,rfl,rfl,hj,hc,r7,c7,sz,hs,rfl⟩ cdv A outer st H E b;have nd:=gC.nd;refine zY (bF (aK (hV (a8 (a8 (ba 0) (aa 1) rfl rfl (cj hj)) (aa 2) rfl (bJ hj) (cI hj hc)) rfl (bK hj hc rfl)) ae (aL (aC (i:=0) rfl))) ae ie) (λh=>?_) λh=>?_
 . have h0:V j c=0:=by
     have:(V j c).num=0:=by simpa using h
     exact Rat.num_eq_zero.mp this
   rw[zM h0];rfl
 . have h0:V j c≠0:=λz=>by rw[z]at h;exact absurd h (by decide)
   refine xu (yL 4 (λi τ=>∃s4 s5 s6 s7,τ=chS R C j c s (tuP s j c i 0 V) s4 s5 s6 s7) b nd (cC b (aa 1) (by omega) (by omega)) cB ⟨_,_,_,_,by rw[Bh]; rfl⟩ λi τ hi h=>?_) λτ h=>?_
   . obtain⟨s4,s5,s6,s7,rfl⟩:=h;have hi:i<j:=by rw[aw]at hi; omega
     have hiR:i<R:=by omega
     have q1:=(sz i hiR c hc).div (sz j hj c hc) h0;refine yG 5 nd (x_call b c_quotient_of (ab (hV (a8 (a8 (ba 0) (aa 4) rfl rfl (cj hiR)) (aa 2) rfl (bJ hiR) (cI hiR hc)) rfl (bK hiR hc (y7 (a:=0) (by omega)))) (ab (hV (a8 (a8 (ba 0) (aa 1) rfl rfl (cj hj)) (aa 2) rfl (bJ hj) (cI hj hc)) rfl (bK hj hc (yi hi))) af)) ⟨900,900,V i c,V j c,rfl,h0,sz i hiR c hc,sz j hj c hc,by decide,rfl⟩) ?_;refine yG 6 nd (b6 (ab (aJ (aa 3) (aK (aa 5) ae (aL (aC (i:=0) rfl))) (aX (by rcases hs with rfl | rfl <;> exact mkL (by decide)))) (ab (aK (aa 5) ae (aL (aC (i:=1) rfl))) af))) ?_;rw[sgn_mul hs];refine o8 (yL 7 (λa τ=>a<=c/\∃s7,τ=chS R C j c s (tuP s j c i a V) (.d (.int (i:Nat))) (.d (frD (V i c/V j c))) (.d (frD ((s:Rat)*(V i c/V j c)))) s7) b nd (cC b (aa 2) (by omega) (by omega)) cB ⟨by omega,s7,rfl⟩ λa τ ha h=>?_) λτ h=>?_
     . obtain⟨_,u7,rfl⟩:=h;have ha:a<c:=by rw[aw]at ha; rw[Int.toNat_natCast]at ha; exact ha
       have haC:a<C:=by omega
       have q2:=(q1.sgn hs).mul (sz j hj a haC);refine Ah (pt:=[]++[i]) (t:=cg (mkT R C (tuP s j c i a V))) (ds:=((mkT R C (tuP s j c i a V)).getD i []).map frD) (j:=a) (x:=frD (tuW s j c V i a)) (a8 (ba 0) (aa 4) rfl rfl (cj hiR)) (aa 7) (x_call b c_sum_of (ab (hV (a8 (a8 (ba 0) (aa 4) rfl rfl (cj hiR)) (aa 7) rfl (bJ hiR) (cI hiR haC)) rfl (bK hiR haC AF)) (ab (x_call b c_product_of (ab (aa 6) (ab (hV (a8 (a8 (ba 0) (aa 1) rfl rfl (cj hj)) (aa 7) rfl (bJ hj) (cI hj haC)) rfl (bK hj haC (yi hi))) af)) ⟨_,_,_,_,rfl,q1.sgn hs,sz j hj a haC,by decide,rfl⟩) af)) ⟨_,_,_,_,rfl,sz i hiR a haC,q2,by decide,rfl⟩) rfl (bJ hiR) (mC hiR haC) (ym ?_);refine⟨by omega,.d (.int (a:Nat)),?_⟩;show (chS R C j c s _ _ _ _ _).set 0 (Sl.n (cw [i] (cg (mkT R C (tuP s j c i a V))) _))=_;rw[lC,wW hiR];rfl
     . obtain⟨_,u7,rfl⟩:=h;rw[aw,Int.toNat_natCast,xj];exact ym ⟨_,_,_,u7,rfl⟩
   . obtain⟨s4,s5,s6,s7,rfl⟩:=h;rw[aw,Int.toNat_natCast,xl h0];exact zu
end
def fo (ds:List D)(r:Sl):Prop:=∃(R C:Nat) (M:List (List Rat)),ds=[tbQ M]/\Tq R C M/\r=.o ((List.range (R*C)).map (plD C))
theorem y9 {C i:Nat}(hc:0<C):(List.range (i*C)).map (plD C)++(List.range C).map (λl=>D.tup [.int (i:Nat),.int (l:Nat)])=(List.range ((i+1)*C)).map (plD C):=by
 refine List.ext_getElem (by simp[Nat.add_mul]) λn h1 h2=>?_;rw[List.length_append,List.length_map,List.length_map,List.length_range,List.length_range]at h1;rw[List.getElem_map,List.getElem_range];by_cases h:n<i*C
 . rw[List.getElem_append_left (by rw[List.length_map,List.length_range]; exact h),List.getElem_map,List.getElem_range]
 . rw[List.getElem_append_right (by rw[List.length_map,List.length_range]; omega),List.getElem_map,List.getElem_range];have e1:n/C=i:=by obtain⟨q,rfl⟩:∃q,n=i*C+q:=⟨n-i*C,by omega⟩;rw[Nat.mul_comm,Nat.mul_add_div hc,Nat.div_eq_of_lt (by omega),Nat.add_zero]
   have e2:n%C=n-i*C:=by have:=Nat.div_add_mod n C;rw[e1,Nat.mul_comm]at this;omega
   unfold plD;rw[e1,e2,List.length_map,List.length_range]
section
variable {P:Program}{w:World}{K:PySem.W.Frag}{mg:Str->Option Value}{base:Heap}{k:Nat}{f:Addr}{fd:FuncData}{qual:Str}
theorem mJ (F:Fun K "places_of" qual (top 21) f fd)(hb:∀x∈ar,mg x=none):a4 P w K mg base CX0 (k+1) f fd ["table"] (spD K fo):=by
 refine fnD F gN hb (by rintro _ _ ⟨_,_,_,rfl,_⟩; rfl) ?_;rintro _ _ ⟨R,C,M,rfl,t,rfl⟩ cdv A outer s H E b;have nd:=gN.nd;have r1:=t.r1;have c1:=t.c1;have r7:=t.r7;have c7:=t.c7;have e0:atI (M.map rwQ) 0=some (rwQ (M.getD 0 [])):=pH [] (i:=0) (by rw[t.len]; omega);refine aI 1 nd (dB af) ?_;refine bz 2 (λi τ=>∃s2,τ=[.d (tbQ M),.o ((List.range (i*C)).map (plD C)),s2]) b nd (cC b (bM b (ab (aa 0) af) (gR (n:=R) (by rw[List.length_map]; exact t.len))) (by omega) (by omega)) cB ⟨_,by rw[Nat.zero_mul]; rfl⟩ (λi hi τ h=>?_) λτ h=>?_
 . obtain⟨s2,rfl⟩:=h;have hi:i<R:=by rw[aw]at hi; omega
   have ic:i*C<=7*7:=Nat.mul_le_mul (by omega) c7;refine yd 1 (xs:=(List.range (i*C)).map (plD C)) (eF (cmp 0 (f:=λl=>.tup [.int (i:Nat),.int (l:Nat)]) b (cC b (bM b (ab (aK (aa 0) ae (a7 e0)) af) (gR (n:=C) (by rw[List.length_map]; exact t.at_ (by omega)))) (by omega) (by omega)) cB (by rw[aw]; omega) λl hl s0 H0 fp=>(b6 (ab (aa 1) (ab (aa 0) af))))) ?_ (aR ⟨.d (.int (i:Nat)),?_⟩)
   . rw[List.length_map,List.length_map,List.length_range,List.length_range,aw]; omega
   . rw[<- y9 (by omega),aw,Int.toNat_natCast];rfl
 . obtain⟨s2,rfl⟩:=h;rw[aw,Int.toNat_natCast];exact dY 1 rfl
end
theorem tH (j c:Nat)(V:Nat->Nat->Rat):tuS (-1) j c (thS j c V)=V:=by
 funext i a;have jj:∀y,thS j c V j y=V j y:=λy=>by unfold thS; rw[if_neg (by omega)]
 have ic:thS j c V i c=V i c:=by unfold thS; rw[if_neg (by omega)]
 unfold tuS;rw[jj];by_cases h:i<j/\a<c/\V j c≠0
 . rw[if_pos h];unfold tuW;rw[jj,jj,ic];unfold thS thW;rw[if_pos h,show ((-1:Int):Rat)=-1 from rfl,Rat.div_def,Rat.div_def];grind
 . rw[if_neg h];unfold thS;rw[if_neg h]
def iq (ds:List D)(r:Sl):Prop:=∃(R C d m:Nat) (G:Nat->Nat->Rat),ds=[tbQ (mkT R C (thK C G (R*C)))]/\1<=R/\R<=7/\1<=C/\C<=7/\(∀k,k<=R*C->∀i<R,Cq C d m (thK C G k i))/\m+(d+1)<=900/\r=.n (cg (mkT R C G))
section
variable {P:Program}{w:World}{K:PySem.W.Frag}{mg:Str->Option Value}{base:Heap}{k:Nat}{f:Addr}{fd:FuncData}{qual:Str}
set_option maxHeartbeats 4000000 in
theorem pN (F:Fun K "thinned" qual (top 20) f fd)(hb:∀x∈ar,mg x=none)(c_look_table:Cal P w K mg base k "look_table" cS)(c_places_of:Cal P w K mg base k "places_of" fo)(c_change_by:sR P w K mg base k "change_by" (spT K fy)):a4 P w K mg base CX0 (k+1) f fd ["table"] (spD K iq):=by
 refine fnD F jI hb (by rintro _ _ ⟨_,_,_,_,_,rfl,_⟩; rfl) ?_;rintro _ _ ⟨R,C,d,m,G,rfl,r1,r7,c1,c7,cq,hz,rfl⟩ cdv A outer s H E b;have nd:=jI.nd;have rc:R*C<=49:=Nat.mul_le_mul r7 c7;have t:=qj (G:=thK C G (R*C)) r1 r7 c1 c7;refine tN (x_call b c_look_table (ab (aa 0) af) ⟨R,C,_,rfl,t,rfl⟩) ?_;obtain⟨T,hT⟩:∃T,T=mkT R C (thK C G (R*C)):=⟨_,rfl⟩;rw[<- hT]at t ⊢;have lT:T.length=R:=t.len;refine lI 1 nd (ns:=(List.range (T.map rwQ).length).map λi=>.l (((T.getD i []).map frD).map .d)) (A9 0 (g:=λi=>rwQ (T.getD i [])) (f:=λi=>.l (((T.getD i []).map frD).map .d)) b (a6 (aa 0)) (cN (f:=rwQ) (xs:=T) []) (by rw[List.length_map,lT]; omega) (λi hi s0 H0 fp=>n8 (b.comp s0 H0 _ fp) (ab (aa 0) af) lS) λi hi=>rfl) ?_;rw[show (List.range (T.map rwQ).length).map (λi=>Nd.l (((T.getD i []).map frD).map .d))=T.map (λr=>Nd.l ((r.map frD).map .d)) from nc (λr:List Rat=>Nd.l ((r.map frD).map .d)) T [] (List.length_map ..)];have lnP:((List.range (R*C)).map (plD C)).length=R*C:=by rw[List.length_map,List.length_range]
 refine bz 2 (g:=λk=>plD C (R*C-1-k)) (λk τ=>k<=R*C/\∃s2,τ=[.d (tbQ T),.n (cg (mkT R C (thK C G (R*C-k)))),s2]) b nd (BK b (bG (x_call b c_places_of (ab (aa 0) af) ⟨R,C,_,rfl,t,rfl⟩))) (λi h=>?_) ⟨Nat.zero_le _,_,by rw[hT]; rfl⟩ (λkk hk τ h=>?_) λτ h=>?_
 . rw[List.getElem_reverse,List.getElem_map,List.getElem_range,lnP]
 . obtain⟨_,s2,rfl⟩:=h;rw[List.length_reverse,lnP]at hk;have e1:R*C-kk=R*C-1-kk+1:=by omega
   have e2:R*C-(kk+1)=R*C-1-kk:=by omega
   have cqk:=cq (R*C-1-kk+1) (by omega);rw[e1,e2];generalize hn:R*C-1-kk=n at cqk ⊢;have hn':n<R*C:=by omega
   have eK:thK C G (n+1)=thS (n/C) (n%C) (thK C G n):=rfl;have hj:n/C<R:=Nat.div_lt_of_lt_mul (by rw[Nat.mul_comm]; omega);have hc:n%C<C:=Nat.mod_lt _ c1;have bk:=tH (n/C) (n%C) (thK C G n);rw[<- eK]at bk;have sz:∀i,i<R->∀a,a<C->Sq 900 (thK C G (n+1) i a):=λi hi a ha=>((cqk i hi).qs ha).sq.mono hz;unfold plD;exact w8 1 b c_change_by ⟨R,C,n/C,n%C,-1,thK C G (n+1),rfl,rfl,hj,hc,r7,c7,sz,.inr rfl,by rw[bk]⟩ rfl (ab (aK (aa 2) ae (aL (aC (i:=0) rfl))) (ab (aK (aa 2) ae (aL (aC (i:=1) rfl))) (ab (kX ae) af))) (aR ⟨by omega,_,rfl⟩)
 . obtain⟨_,s2,rfl⟩:=h;rw[List.length_reverse,lnP,Nat.sub_self];exact dY 1 rfl
end
def gc (ds:List D)(r:Sl):Prop:=∃(R C d m:Nat) (G:Nat->Nat->Rat),ds=[tbQ (mkT R C G),.lst ((List.range (R*C)).map (plD C)),.int 1]/\1<=R/\R<=7/\1<=C/\C<=7/\(∀k,k<=R*C->∀i<R,Cq C d m (thK C G k i))/\m+(d+1)<=900/\r=.n (cg (mkT R C (thK C G (R*C))))
noncomputable def acS (R C:Nat)(G H:Nat->Nat->Rat)(s4 s5 s6 s7 s8:Sl):List Sl:=[.d (tbQ (mkT R C G)),.d (.lst ((List.range (R*C)).map (plD C))),.d (.int 1),.n (cg (mkT R C H)),s4,s5,s6,s7,s8]
def fX (ds:List D)(r:Sl):Prop:=∃(R C:Nat) (M:List (List Rat)),ds=[tbQ M]/\Tq R C M/\r=.o ((List.range (R*C)).map (plD C))
def iD (ds:List D)(r:Sl):Prop:=∃(R C d m:Nat) (G:Nat->Nat->Rat),ds=[tbQ (mkT R C G)]/\1<=R/\R<=7/\1<=C/\C<=7/\(∀k,k<=R*C->∀i<R,Cq C d m (thK C G k i))/\m+(d+1)<=900/\r=.n (cg (mkT R C (thK C G (R*C))))
section
variable {P:Program}{w:World}{K:PySem.W.Frag}{mg:Str->Option Value}{base:Heap}{k:Nat}{f:Addr}{fd:FuncData}{qual:Str}
set_option maxHeartbeats 4000000 in
theorem nX (F:Fun K "_law_across" qual (top 43) f fd)(hb:∀x∈ar,mg x=none)(c_l_part:Cal P w K mg base k "_law_part" jr)(c_l_plus:Cal P w K mg base k "_law_plus" jN):a4 P w K mg base CX0 (k+1) f fd ["_law_table","_law_places_here","_law_sign"] (spD K gc):=by
 refine fnD F iS hb (by rintro _ _ ⟨_,_,_,_,_,rfl,_⟩; rfl) ?_;rintro _ _ ⟨R,C,d,m,G,rfl,r1,r7,c1,c7,cq,hz,rfl⟩ cdv A outer s H E b;have nd:=iS.nd;have rc:R*C<=49:=Nat.mul_le_mul r7 c7;refine lI 3 nd (ns:=(List.range ((mkT R C G).map rwQ).length).map λi=>.l ((((mkT R C G).getD i []).map frD).map .d)) (A9 0 (g:=λi=>rwQ ((mkT R C G).getD i [])) (f:=λi=>.l ((((mkT R C G).getD i []).map frD).map .d)) b (a6 (aa 0)) (cN (f:=rwQ) (xs:=mkT R C G) []) (by rw[List.length_map,fJ]; omega) (λi hi s0 H0 fp=>n8 (b.comp s0 H0 _ fp) (ab (aa 0) af) lS) λi hi=>rfl) ?_;rw[show (List.range ((mkT R C G).map rwQ).length).map (λi=>Nd.l ((((mkT R C G).getD i []).map frD).map .d))=(mkT R C G).map (λr=>Nd.l ((r.map frD).map .d)) from nc (λr:List Rat=>Nd.l ((r.map frD).map .d)) (mkT R C G) [] (List.length_map ..)];have lnP:((List.range (R*C)).map (plD C)).length=R*C:=by rw[List.length_map,List.length_range]
 refine pw 4 5 (g:=λk=>.int ((k/C:Nat):Int)) (g':=λk=>.int ((k%C:Nat):Int)) (λk τ=>∃s4 s5 s6 s7 s8,τ=acS R C G (thK C G k) s4 s5 s6 s7 s8) b nd (a6 (aa 1)) (λi h=>by rw[List.getElem_map,List.getElem_range]; rfl) ⟨_,_,_,_,_,rfl⟩ (λkk hk τ h=>?_) λτ h=>?_
 . obtain⟨s4,s5,s6,s7,s8,rfl⟩:=h;rw[lnP]at hk;have cqk:=cq kk (by omega);show PSs _ _ (dS K (acS R C G (thK C G kk) (.d (.int ((kk/C:Nat):Int))) (.d (.int ((kk%C:Nat):Int))) s6 s7 s8) _);have eK:thK C G (kk+1)=thS (kk/C) (kk%C) (thK C G kk):=rfl;rw[eK];have hj:kk/C<R:=Nat.div_lt_of_lt_mul (by rw[Nat.mul_comm]; omega);have hc:kk%C<C:=Nat.mod_lt _ c1;generalize thK C G kk=V at cqk ⊢;generalize kk/C=j at hj ⊢;generalize kk%C=c at hc ⊢;have sz:∀i,i<R->∀a,a<C->Sq 900 (V i a):=λi hi a ha=>((cqk i hi).qs ha).sq.mono hz;refine i5 (M:=λτ=>∃s6 s7 s8,τ=acS R C G (thS j c V) (.d (.int (j:Nat))) (.d (.int (c:Nat))) s6 s7 s8) (bF (aK (hV (a8 (a8 (ba 3) (aa 4) rfl rfl (cj hj)) (aa 5) rfl (bJ hj) (cI hj hc)) rfl (bK hj hc rfl)) ae (aL (aC (i:=0) rfl))) ae yU) (λh=>?_) (λh=>?_) λτ h=>?_
   . have h0:V j c≠0:=λz=>by rw[z]at h;exact absurd h (by decide)
     refine bz 6 (λi τ=>∃s6 s7 s8,τ=acS R C G (thP j c i 0 V) (.d (.int (j:Nat))) (.d (.int (c:Nat))) s6 s7 s8) b nd (cC b (aa 4) (by omega) (by omega)) cB ⟨s6,s7,s8,by rw[Bg]⟩ (λi hi τ h=>?_) λτ h=>?_
     . obtain⟨t6,t7,t8,rfl⟩:=h;have hi:i<j:=by rw[aw]at hi; omega
       have hiR:i<R:=by omega
       refine bz 7 (λa τ=>a<=c/\∃s7 s8,τ=acS R C G (thP j c i a V) (.d (.int (j:Nat))) (.d (.int (c:Nat))) (.d (.int (i:Nat))) s7 s8) b nd (cC b (aa 5) (by omega) (by omega)) cB ⟨by omega,t7,t8,rfl⟩ (λa ha τ h=>?_) λτ h=>?_
       . obtain⟨_,u7,u8,rfl⟩:=h;have ha:a<c:=by rw[aw]at ha; omega
         have haC:a<C:=by omega
         refine aI 8 nd (x_call b c_l_part (ab (hV (a8 (a8 (ba 3) (aa 6) rfl rfl (cj hiR)) (aa 5) rfl (bJ hiR) (cI hiR hc)) rfl (bK hiR hc (A6 ha))) (ab (hV (a8 (a8 (ba 3) (aa 4) rfl rfl (cj hj)) (aa 7) rfl (bJ hj) (cI hj haC)) rfl (bK hj haC (x9 hi))) (ab (hV (a8 (a8 (ba 3) (aa 4) rfl rfl (cj hj)) (aa 5) rfl (bJ hj) (cI hj hc)) rfl (bK hj hc (x9 hi))) af))) ⟨V i c,V j a,V j c,rfl,h0,(sz i hiR c hc).mono (by decide),(sz j hj a haC).mono (by decide),(sz j hj c hc).mono (by decide),rfl⟩) ?_;have sp:=Sq.part h0 (sz i hiR c hc) (sz j hj a haC) (sz j hj c hc);refine oU (pt:=[]++[i]) (t:=cg (mkT R C (thP j c i a V))) (ds:=((mkT R C (thP j c i a V)).getD i []).map frD) (j:=a) (x:=frD (thW j c V i a)) (a8 (ba 3) (aa 6) rfl rfl (cj hiR)) (aa 7) (x_call b c_l_plus (ab (hV (a8 (a8 (ba 3) (aa 6) rfl rfl (cj hiR)) (aa 7) rfl (bJ hiR) (cI hiR haC)) rfl (bK hiR haC zF)) (ab (b6 (ab (aJ (aa 2) (aK (aa 8) ae (aL (aC (i:=0) rfl))) (aX (mkL (by decide)))) (ab (aK (aa 8) ae (aL (aC (i:=1) rfl))) af))) af)) ⟨900,2700,V i a,V i c*V j a/V j c,by rw[Int.one_mul]; rfl,sz i hiR a haC,sp,by decide,rfl⟩) rfl (bJ hiR) (mC hiR haC) (aR ?_);refine⟨by omega,.d (.int (a:Nat)),.d (frD (V i c*V j a/V j c)),?_⟩;show (acS R C G _ _ _ _ _ _).set 3 (Sl.n (cw [i] (cg (mkT R C (thP j c i a V))) _))=_;rw[lC,wx hiR];rfl
       . obtain⟨_,u7,u8,rfl⟩:=h;rw[aw,Int.toNat_natCast,we];exact aR ⟨_,_,_,rfl⟩
     . obtain⟨t6,t7,t8,rfl⟩:=h;rw[aw,Int.toNat_natCast,wL h0];exact aR ⟨_,_,_,rfl⟩
   . have h0:V j c=0:=by
       have:(V j c).num=0:=by simpa using h
       exact Rat.num_eq_zero.mp this
     rw[y6 h0];exact aR ⟨_,_,_,rfl⟩
   . obtain⟨_,_,_,rfl⟩:=h;exact aR ⟨_,_,_,_,_,rfl⟩
 . obtain⟨s4,s5,s6,s7,s8,rfl⟩:=h;rw[lnP];exact dY 3 rfl
theorem nE (F:Fun K "_law_places" qual (top 44) f fd)(hb:∀x∈ar,mg x=none):a4 P w K mg base CX0 (k+1) f fd ["_law_table"] (spD K fX):=by
 refine fnD F iN hb (by rintro _ _ ⟨_,_,_,rfl,_⟩; rfl) ?_;rintro _ _ ⟨R,C,M,rfl,t,rfl⟩ cdv A outer s H E b;have nd:=iN.nd;have r1:=t.r1;have c1:=t.c1;have r7:=t.r7;have c7:=t.c7;have rc:R*C<=49:=Nat.mul_le_mul r7 c7;have e0:atI (M.map rwQ) 0=some (rwQ (M.getD 0 [])):=pH [] (i:=0) (by rw[t.len]; omega);have eRC:(R:Int)*(C:Int)=((R*C:Nat):Int):=by rw[Int.natCast_mul]
 refine aI 1 nd (bM b (ab (aK (aa 0) ae (a7 e0)) af) (gR (n:=C) (by rw[List.length_map]; exact t.at_ (by omega)))) ?_;refine aY (eF (cmp 0 (f:=plD C) b (cC (n:=((R*C:Nat):Int)) b (by rw[<- eRC]; exact aJ (bM b (ab (aa 0) af) (gR (n:=R) (by rw[List.length_map]; exact t.len))) (aa 1) (aX (mkR (by omega)))) (by omega) (by omega)) cB (by rw[aw]; omega) λi hi s0 H0 fp=>?_)) ?_
 . have e1:((i:Nat):Int).fdiv (C:Int)=((i/C:Nat):Int):=by rw[Int.fdiv_eq_ediv_of_nonneg _ (by omega)]; rfl
   have e2:((i:Nat):Int).fmod (C:Int)=((i%C:Nat):Int):=by rw[Int.fmod_eq_emod_of_nonneg _ (by omega)]; rfl
   unfold plD;rw[<- e1,<- e2];exact b6 (ab (aJ (aa 0) (aa 1) (bx (mkD (by omega) (by omega)))) (ab (aJ (aa 0) (aa 1) (eU (by omega))) af))
 . rw[aw,Int.toNat_natCast]
theorem oS (F:Fun K "_law_thick" qual (top 45) f fd)(hb:∀x∈ar,mg x=none)(c_l_across:Cal P w K mg base k "_law_across" gc)(c_l_places:Cal P w K mg base k "_law_places" fX):a4 P w K mg base CX0 (k+1) f fd ["_law_table"] (spD K iD):=by refine fnD F o3 hb (by rintro _ _ ⟨_,_,_,_,_,rfl,_⟩; rfl) ?_;rintro _ _ ⟨R,C,d,m,G,rfl,r1,r7,c1,c7,cq,hz,rfl⟩ cdv A outer s H E b;exact aY (x_call b c_l_across (ab (aa 0) (ab (bG (x_call b c_l_places (ab (aa 0) af) ⟨R,C,mkT R C G,rfl,qj r1 r7 c1 c7,rfl⟩)) (ab ae af))) ⟨R,C,d,m,G,rfl,r1,r7,c1,c7,cq,hz,rfl⟩) rfl
end
noncomputable def szP (c:Int):List Int:=nums c [8,4,4,7,7]
noncomputable def szR (c:Int):Nat:=(1+(if (szP c).getD 0 0=1 then (szP c).getD 3 0 else (szP c).getD 1 0)).toNat
noncomputable def szC (c:Int):Nat:=(1+(if (szP c).getD 0 0=1 then (szP c).getD 4 0 else (szP c).getD 2 0)).toNat
theorem fB (c:Int){i:Nat}(h:i<5):0<=(szP c).getD i 0/\(szP c).getD i 0<[8,4,4,7,7].getD i 0:=gO (c:=c) (bs:=[8,4,4,7,7]) (by decide) h
theorem CB (c:Int):1<=szR c/\szR c<=7/\1<=szC c/\szC c<=7:=by have h1:=fB c (i:=1) (by decide);have h2:=fB c (i:=2) (by decide);have h3:=fB c (i:=3) (by decide);have h4:=fB c (i:=4) (by decide);have e1:([8,4,4,7,7]:List Int).getD 1 0=4:=rfl;have e2:([8,4,4,7,7]:List Int).getD 2 0=4:=rfl;have e3:([8,4,4,7,7]:List Int).getD 3 0=7:=rfl;have e4:([8,4,4,7,7]:List Int).getD 4 0=7:=rfl;unfold szR szC;split <;> omega
def j9 (ds:List D)(r:Sl):Prop:=∃c:Int,ds=[.int c]/\r=.d (.tup [.int (szR c:Nat),.int (szC c:Nat)])
section
variable {P:Program}{w:World}{K:PySem.W.Frag}{mg:Str->Option Value}{base:Heap}{k:Nat}{f:Addr}{fd:FuncData}{qual:Str}
theorem rT (F:Fun K "_law_size" qual (top 37) f fd)(hb:∀x∈ar,mg x=none)(c_l_numbers:Cal P w K mg base k "_law_numbers" bT):a4 P w K mg base CX0 (k+1) f fd ["_law_cell_here"] (spD K j9):=by
 refine fnD F kO hb (by rintro _ _ ⟨_,rfl,_⟩; rfl) ?_;rintro _ _ ⟨c,rfl,rfl⟩ cdv A outer s H E b;have nd:=kO.nd;refine aI 1 nd (bG (x_call b c_l_numbers (ab (aa 0) (ab (bG (dB (ab ae (ab ae (ab ae (ab ae (ab ae af))))))) af)) ⟨c,[8,4,4,7,7],rfl,by decide,λx hx=>?_,rfl⟩)) ?_
 . have:0<x/\x<9:=by simp only[List.mem_cons,List.not_mem_nil,or_false]at hx;omega
   exact vL this.1 (by omega)
 have ln:(szP c).length=5:=dR c _;have at_:∀i:Nat,i<5->atI ((szP c).map D.int) (i:Int)=some (.int ((szP c).getD i 0)):=λi hi=>atR (by rw[ln]; exact hi);have h1:=fB c (i:=1) (by decide);have h2:=fB c (i:=2) (by decide);have h3:=fB c (i:=3) (by decide);have h4:=fB c (i:=4) (by decide);refine fT (bF (aK (aa 1) ae (a7 (at_ 0 (by decide)))) ae ie) (λh=>?_) λh=>?_
 . refine aY (b6 (ab (aJ ae (aK (aa 1) ae (a7 (at_ 3 (by decide)))) bE) (ab (aJ ae (aK (aa 1) ae (a7 (at_ 4 (by decide)))) bE) af))) ?_;have h:=of_decide_eq_true h;have e1:((szR c:Nat):Int)=1+(szP c).getD 3 0:=by unfold szR; rw[if_pos h]; omega
   have e2:((szC c:Nat):Int)=1+(szP c).getD 4 0:=by unfold szC; rw[if_pos h]; omega
   rw[e1,e2]
 . refine aY (b6 (ab (aJ ae (aK (aa 1) ae (a7 (at_ 1 (by decide)))) bE) (ab (aJ ae (aK (aa 1) ae (a7 (at_ 2 (by decide)))) bE) af))) ?_;have h:=of_decide_eq_false h;have e1:((szR c:Nat):Int)=1+(szP c).getD 1 0:=by unfold szR; rw[if_neg h]; omega
   have e2:((szC c:Nat):Int)=1+(szP c).getD 2 0:=by unfold szC; rw[if_neg h]; omega
   rw[e1,e2]
end
mutual
theorem gE:∀x:D,Ev.eqD x x=true
 | .non=>by rw[Ev.eqD]
 | .bl a=>by simp[Ev.eqD]
 | .int a=>by simp[Ev.eqD]
 | .str a=>by simp[Ev.eqD]
 | .tup xs=>by rw[Ev.eqD]; exact iF xs
 | .lst xs=>by rw[Ev.eqD]; exact iF xs
 | .box x=>by rw[Ev.eqD]
theorem iF:∀xs:List D,Ev.jH xs xs=true
 | []=>by rw[Ev.jH]
 | x::xs=>by rw[Ev.jH,gE x,iF xs]; rfl
end
theorem rS:∀r:List Rat,Ev.e8 (r.map frD)=true/\Ev.fM (r.map frD)<=1
 | []=>by simp[Ev.e8,Ev.fM]
 | x::r=>by
   obtain⟨h1,h2⟩:=rS r;rw[List.map_cons,Ev.e8,Ev.fM,h1,frD];refine⟨by simp[Ev.cln,Ev.e8],?_⟩;have:Ev.dep (.tup [.int x.num,.int (x.den:Nat)])=1:=by simp[Ev.dep,Ev.fM]
   rw[this];omega
theorem rH:∀m:List (List Rat),Ev.e8 (m.map rwQ)=true/\Ev.fM (m.map rwQ)<=2
 | []=>by simp[Ev.e8,Ev.fM]
 | r::m=>by obtain⟨h1,h2⟩:=rH m;obtain⟨h3,h4⟩:=rS r;rw[List.map_cons,Ev.e8,Ev.fM,h1,show rwQ r=.lst (r.map frD) from rfl,Ev.cln,Ev.dep,h3];exact⟨rfl,by omega⟩
theorem uG (m:List (List Rat)):Ev.eV (tbQ m):=by obtain⟨h1,h2⟩:=rH m;unfold tbQ Ev.eV;rw[Ev.cln,Ev.dep,h1];exact⟨rfl,by omega⟩
theorem rg (b:Bool):Ev.eV (.bl b):=⟨by simp[Ev.cln],by simp[Ev.dep]⟩
theorem v5 {t:Int}:∀(kv:List (Int×Int)) (a:Int),t<=lsV a kv↔t<=a/\∀q∈kv,t<=sg1 q.2
 | [],a=>by simp[lsV]
 | p::kv,a=>by
   have ih:=v5 (t:=t) kv (min a (sg1 p.2));show t<=lsV (min a (sg1 p.2)) kv↔_;rw[ih];constructor
   . rintro⟨h1,h2⟩
     exact⟨by omega,λq hq=>by
       rcases List.mem_cons.mp hq with rfl | hq
       . omega
       . exact h2 q hq⟩
   . rintro⟨h1,h2⟩;have:=h2 p (List.mem_cons_self ..);exact⟨by omega,λq hq=>h2 q (List.mem_cons_of_mem _ hq)⟩
theorem uK {R:List (List Int)}{n:Nat}{t:Int}:∀(ks:List (List Int)) (a:Int),t<=lsA R n a ks↔t<=a/\∀ls∈ks,∀q∈bQ n (lnR R ls),t<=sg1 q.2
 | [],a=>by simp[lsA]
 | ls::ks,a=>by
   have ih:=uK (R:=R) (n:=n) (t:=t) ks (lsV a (bQ n (lnR R ls)));show t<=lsA R n (lsV a (bQ n (lnR R ls))) ks↔_;rw[ih,v5];constructor
   . rintro⟨⟨h1,h2⟩,h3⟩
     exact⟨h1,λl hl=>by
       rcases List.mem_cons.mp hl with rfl | hl
       . exact h2
       . exact h3 l hl⟩
   . rintro⟨h1,h2⟩;exact⟨⟨h1,h2 ls (List.mem_cons_self ..)⟩,λl hl=>h2 l (List.mem_cons_of_mem _ hl)⟩
theorem uc {t x:Int}(h:t=0\/t=1):t<=sg1 x↔t<=x:=by
 unfold sg1;split
 . omega
 . split <;> omega
theorem tO {R:List (List Int)}{m n b:Nat}(ok:Rw m n b R){t:Int}(h:t=0\/t=1):(fuO R m n t).isNone=decide (t<=lsA R n 1 ((mkM (vMn R n) (lks R n m)).map (·.1))):=by
 have e:(fuO R m n t).isNone=true↔t<=lsA R n 1 ((mkM (vMn R n) (lks R n m)).map (·.1)):=by
   rw[Option.isNone_iff_eq_none,ly,oJ ok (by omega),uK];constructor
   . intro z;exact⟨by omega,λls hl q hq=>(uc h).mpr (z ls (ke.mp hl) q hq)⟩
   . rintro⟨_,z⟩ ls hl q hq;exact(uc h).mp (z ls (ke.mpr hl) q hq)
 by_cases z:t<=lsA R n 1 ((mkM (vMn R n) (lks R n m)).map (·.1))
 . rw[decide_eq_true z,e.mpr z]
 . rw[decide_eq_false z];cases hh:(fuO R m n t).isNone with
   | false=>rfl
   | true=>exact absurd (e.mp hh) z
def rB (ds:List D)(r:Sl):Prop:=∃ns:List Int,ns.length<=63/\ds=[.lst (ns.map .int)]/\r=.d (.bl true)
noncomputable def lwB (R C:Nat):List Int:=[4,(R:Int),(C:Int)]
noncomputable def lwS (ns:List Int)(R C:Nat)(m:Nat->Nat->Int)(p:List Int)(G:Nat->Nat->Rat)(due:Bool)(s7:Sl):List Sl:=[.d (.lst (ns.map .int)),.d (.int (R:Nat)),.d (.int (C:Nat)),.d (tbD (mkI R C m)),.n (cg (mkT R C G)),.d (.lst (p.map .int)),.d (.bl due),s7,.un,.un]
section
variable {P:Program}{w:World}{K:PySem.W.Frag}{mg:Str->Option Value}{base:Heap}{k:Nat}{f:Addr}{fd:FuncData}{qual:Str}
set_option maxHeartbeats 4000000 in
theorem Bc (F:Fun K "law" qual (top 51) f fd)(hb:∀x∈ar,mg x=none)(c_l_size:Cal P w K mg base k "_law_size" j9)(c_l_marks:Cal P w K mg base k "_law_marks" g8)(c_l_numbered:Cal P w K mg base k "_law_numbered" eB)(c_l_numbers:Cal P w K mg base k "_law_numbers" bT)(c_l_is_stairs:Cal P w K mg base k "_law_is_stairs" dM)(c_l_thick:Cal P w K mg base k "_law_thick" iD)(c_is_good:Cal P w K mg base k "is_good" ig)(c_l_cell:Cal P w K mg base k "_law_cell" gH)(c_thinned:Cal P w K mg base k "thinned" iq)(c_l_least_sign:Cal P w K mg base k "_law_least_sign" c8)(c_l_rows:Cal P w K mg base k "_law_rows" j4):a4 P w K mg base CX0 (k+1) f fd ["_law_script"] (spD K rB):=by
 refine fnD F ve hb (by rintro _ _ ⟨_,_,rfl,_⟩; rfl) ?_;rintro _ _ ⟨ns,hn,rfl,rfl⟩ cdv A outer s H E b;have nd:=ve.nd;obtain⟨r1,r7,c1,c7⟩:=CB (ns.getD 0 0);refine A1 (x_call b c_l_size (ab (x_call b c_l_cell (ab (aa 0) (ab ae af)) ⟨ns,0,rfl,rfl⟩) af) ⟨_,rfl,rfl⟩) (CF b.calm (rj 1 nd (rj 2 nd AA))) ?_;show PSs _ _ (dS K [.d (.lst (ns.map .int)),.d (.int (szR (ns.getD 0 0):Nat)),.d (.int (szC (ns.getD 0 0):Nat)),.un,.un,.un,.un,.un,.un,.un] _);generalize szR (ns.getD 0 0)=R at *
 generalize szC (ns.getD 0 0)=C at *
 refine aI 3 nd (x_call b c_l_marks (ab (aa 0) (ab (aa 1) (ab (aa 2) af))) ⟨ns,R,C,rfl,r1,r7,c1,c7,rfl⟩) ?_;have bt:=Am (ns.getD 1 0) (ns.getD 2 0) r1 r7 c1 c7;generalize mrM (ns.getD 1 0) (ns.getD 2 0) R C=m at bt ⊢;refine pI 3 (x:=tbD (mkI R C m)) ?_ rfl (qd _);refine aI 4 nd (x_call b c_l_numbered (ab (aa 3) (ab (x_call b c_l_cell (ab (aa 0) (ab ae af)) ⟨ns,3,rfl,rfl⟩) af)) ⟨ns.getD 3 0,R,C,m,rfl,bt,r1,r7,c1,c7,rfl⟩) ?_;refine aI 5 nd (bG (x_call b c_l_numbers (ab (x_call b c_l_cell (ab (aa 0) (ab ae af)) ⟨ns,4,rfl,rfl⟩) (ab (bG (dB (ab ae (ab (aa 1) (ab (aa 2) af))))) af)) ⟨ns.getD 4 0,lwB R C,rfl,by show 3<=10000; decide,λx hx=>?_,rfl⟩)) ?_
 . have:0<x/\x<8:=by unfold lwB at hx;simp only[List.mem_cons,List.not_mem_nil,or_false]at hx;omega
   exact vL this.1 (by omega)
 have pb:∀x∈lwB R C,0<x:=λx hx=>by unfold lwB at hx;simp only[List.mem_cons,List.not_mem_nil,or_false]at hx;omega
 have lp:(nums (ns.getD 4 0) (lwB R C)).length=3:=dR _ _;have b1:0<=(nums (ns.getD 4 0) (lwB R C)).getD 1 0/\(nums (ns.getD 4 0) (lwB R C)).getD 1 0<(R:Int):=gO (c:=ns.getD 4 0) pb (i:=1) (by show 1<3; decide);have b2:0<=(nums (ns.getD 4 0) (lwB R C)).getD 2 0/\(nums (ns.getD 4 0) (lwB R C)).getD 2 0<(C:Int):=gO (c:=ns.getD 4 0) pb (i:=2) (by show 2<3; decide);have cq0:=yT (c:=ns.getD 3 0) (n:=R*C) bt;have sg:=xE (big:=decide (16<R*C)) (ps:=soP (ns.getD 3 0) (R*C)) bt λi=>lK.1;refine aI 6 nd (x_call b c_l_is_stairs (ab (aa 3) af) ⟨C,mkI R C m,rfl,by rw[b9]; exact r1,by rw[b9]; exact r7,c7,λi hi=>by rw[b9]at hi; rw[eG hi,List.length_map,List.length_range],rfl⟩) ?_;show PSs _ _ (dS K (lwS ns R C m (nums (ns.getD 4 0) (lwB R C)) (nmG (decide (16<R*C)) m (soP (ns.getD 3 0) (R*C)) C) (dH C (mkI R C m)) .un) _);generalize nums (ns.getD 4 0) (lwB R C)=p at lp b1 b2 ⊢;generalize nmG (decide (16<R*C)) m (soP (ns.getD 3 0) (R*C)) C=G0 at cq0 sg ⊢;generalize dH C (mkI R C m)=due0 at sg ⊢;have pa:∀i:Nat,i<3->atI (p.map D.int) (i:Int)=some (.int (p.getD i 0)):=λi hi=>atR (by omega);have hi:(p.getD 1 0).toNat<R:=by omega
 have hj:(p.getD 2 0).toNat<C:=by omega
 have ei:p.getD 1 0=(((p.getD 1 0).toNat:Nat):Int):=by omega
 have ej:p.getD 2 0=(((p.getD 2 0).toNat:Nat):Int):=by omega
 refine i5 (M:=λτ=>∃G due s7,(∀i<R,Cq C (if 16<R*C then 0 else 6) (if 16<R*C then 2 else 10) (G i))/\(Tnn R C (thK C G (R*C))↔due=true)/\τ=lwS ns R C m p G due s7) (PW.pt (vN (bF (aK (aa 5) ae (a7 (pa 0 (by decide)))) ae ie) λh=>(u4 (bF (aK (hV (a8 (a8 (ba 4) (aK (aa 5) ae (a7 (pa 1 (by decide)))) rfl rfl (by rw[ei]; exact cj hi)) (aK (aa 5) ae (a7 (pa 2 (by decide)))) rfl (bJ hi) (by rw[ej]; exact cI hi hj)) rfl (bK hi hj rfl)) ae (aL (aC (i:=0) rfl))) ae pL)))) (λh=>?_) (λh=>aR ⟨G0,due0,_,cq0,sg,rfl⟩) λτ h=>?_
 . rw[Bool.and_eq_true]at h;have h:=of_decide_eq_true h.2;have gp:0<G0 (p.getD 1 0).toNat (p.getD 2 0).toNat:=by refine pA (Rat.num_nonneg.mp (by omega)) λz=>?_;rw[z]at h;exact absurd h (by decide)
   refine aI 7 nd (hV (a8 (a8 (ba 4) (aK (aa 5) ae (a7 (pa 1 (by decide)))) rfl rfl (by rw[ei]; exact cj hi)) (aK (aa 5) ae (a7 (pa 2 (by decide)))) rfl (bJ hi) (by rw[ej]; exact cI hi hj)) rfl (bK hi hj rfl)) ?_
   refine oU (pt:=[]++[(p.getD 1 0).toNat]) (t:=cg (mkT R C G0)) (ds:=((mkT R C G0).getD (p.getD 1 0).toNat []).map frD) (j:=(p.getD 2 0).toNat) (x:=frD (-G0 (p.getD 1 0).toNat (p.getD 2 0).toNat)) (a8 (ba 4) (aK (aa 5) ae (a7 (pa 1 (by decide)))) rfl rfl (by rw[ei]; exact cj hi)) (aK (aa 5) ae (a7 (pa 2 (by decide)))) (by
     rw[<- zf];exact b6 (ab (aJ ae (aK (aa 7) ae (aL (aC (i:=0) rfl))) iX) (ab (aK (aa 7) ae (aL (aC (i:=1) rfl))) af))) rfl (bJ hi) (by rw[ej]; exact mC hi hj) ?_
   refine aI 6 nd oZ (aR ⟨ngG G0 (p.getD 1 0).toNat (p.getD 2 0).toNat,false,.d (frD (G0 (p.getD 1 0).toNat (p.getD 2 0).toNat)),A4 hi cq0,⟨λT=>absurd T (AO hi hj gp),λz=>by cases z⟩,?_⟩);show (((lwS ns R C m p G0 due0 .un).set 7 _).set 4 (Sl.n (cw [(p.getD 1 0).toNat] (cg (mkT R C G0)) _))).set 6 _=_;rw[lC,me hi];rfl
 obtain⟨G,due,s7,cqG,tn,rfl⟩:=h;have cq:=Al r7 c1 c7 cqG;have tq:=qj (G:=thK C G (R*C)) r1 r7 c1 c7;have qs:∀r∈mkT R C (thK C G (R*C)),∀x∈r,Qs 97 110 x:=λr hr x hx=>by unfold mkT at hr;obtain⟨i,hi,rfl⟩:=List.mem_map.mp hr;obtain⟨j,hj,rfl⟩:=List.mem_map.mp hx;exact(cq (R*C) (Nat.le_refl _) i (List.mem_range.mp hi)).qs (List.mem_range.mp hj)
 refine pI 4 (x:=tbQ (mkT R C G)) ?_ rfl (congrArg some (qb _));refine aI 8 nd (x_call b c_l_thick (ab (aa 4) af) ⟨R,C,96,110,G,rfl,r1,r7,c1,c7,cq,by decide,rfl⟩) ?_;refine pI 8 (x:=tbQ (mkT R C (thK C G (R*C)))) ?_ rfl (congrArg some (qb _));have rc:C*97<=7*97:=Nat.mul_le_mul c7 (Nat.le_refl _);have ok:=rw_ok tq qs (by omega);have fd:=zo tq tn;have g:=tO ok (t:=0) (.inl rfl);have cp:∀{X:Cx},True:=λ{_}=>trivial;have lT:(mkT R C (thK C G (R*C))).length=R:=tq.len;have em:((List.range ((mkT R C (thK C G (R*C))).map rwQ).length).map λi=>rwQ ((mkT R C (thK C G (R*C))).getD i []))=(mkT R C (thK C G (R*C))).map rwQ:=je rwQ _ [] (List.length_map ..);refine n9 (bF (bG (x:=tbQ (mkT R C G)) (x_call b c_thinned (ab (bG (x:=tbQ (mkT R C (thK C G (R*C)))) (eF (cmp 0 (g:=λi=>rwQ ((mkT R C (thK C G (R*C))).getD i [])) (f:=λi=>rwQ ((mkT R C (thK C G (R*C))).getD i [])) b (a6 (aa 8)) (cN (f:=rwQ) (xs:=mkT R C (thK C G (R*C))) []) (by rw[List.length_map,lT]; omega) λi hi s0 H0 fp=>bG (n8 (b.comp s0 H0 _ fp) (ab (aa 0) af) lS))) (congrArg (λl=>some (D.lst l)) em)) af) ⟨R,C,96,110,G,rfl,r1,r7,c1,c7,cq,by decide,rfl⟩) (congrArg some (qb _))) (aa 4) (yo b (uG _) (uG _))) (by rw[gE]; rfl) ?_;refine aI 9 nd (x_call b c_is_good (ab (bG (x:=tbQ (mkT R C (thK C G (R*C)))) (eF (cmp 0 (g:=λi=>rwQ ((mkT R C (thK C G (R*C))).getD i [])) (f:=λi=>rwQ ((mkT R C (thK C G (R*C))).getD i [])) b (a6 (aa 8)) (cN (f:=rwQ) (xs:=mkT R C (thK C G (R*C))) []) (by rw[List.length_map,lT]; omega) λi hi s0 H0 fp=>bG (n8 (b.comp s0 H0 _ fp) (ab (aa 0) af) lS))) (congrArg (λl=>some (D.lst l)) em)) af) ⟨R,C,97,110,_,rfl,tq,qs,by omega,rfl⟩) ?_;rw[fd];refine n9 (PW.pt (vG (iR (gD (kR .bool b (aa 9)))) λh=>(qp (bF (aa 9) (aa 6) (yo b (rg _) (rg _)))))) (by rw[gE]; rfl) ?_;have ex:fzD (.n (.t [bU (whM (mkT R C (thK C G (R*C))) ((mkT R C (thK C G (R*C))).map scL)),.d (.int (prZ ((mkT R C (thK C G (R*C))).map scL)))]))=some (.tup [.lst ((whM (mkT R C (thK C G (R*C))) ((mkT R C (thK C G (R*C))).map scL)).map dtR),.int (prZ ((mkT R C (thK C G (R*C))).map scL))]):=by show some (D.tup [ndD (bU _),_])=_;rw[ud];rfl
 refine aY (gX (aa 6) (gX (x_call b c_l_least_sign (ab (aK (bG (x_call b c_l_rows (ab (aa 8) af) ⟨R,C,97,110,_,rfl,tq,qs,by omega,by omega,rfl⟩) ex) ae (aL (aC (i:=0) rfl))) af) ⟨_,_,_,_,rfl,ok,rfl⟩) ae Af) (BI b (rg _) (rg _))) ?_;rw[fd]at g;generalize lsA (whM (mkT R C (thK C G (R*C))) ((mkT R C (thK C G (R*C))).map scL)) C 1 _=z at g ⊢;have g:due=decide (z ≥ 0):=g;rw[<- g,gE]
end
end K49
namespace Hy
open PySem PySem.Spec PyProof.Rows L2
open Ev (D Den aq)
def Dfn (K:PySem.W.Frag)(x:Str)(st:Stmt)(f:Addr):Prop:=PySem.W.nsIn K mainGlobals x=some (some (.ref f))/\(∃oc od kV dc pm an cd ct sl,K.lookup f=some ⟨oc,od,.func (PySem.W.fnOf x x (d8 st) (cH st) (ak st) .none kV dc pm an cd ct),sl⟩/\PySem.W.codeIn K cd x=true)/\PySem.W.keepIn K (.ref f)=true
def BdA (x:Str)(st:Stmt)(ps:List Str):Prop:=∀(kV dc pm:Value) (an:Option Addr) (cd ct:Value) (us:List Value),us.length=ps.length->bindArgs (PySem.W.fnOf x x (d8 st) (cH st) (ak st) .none kV dc pm an cd ct) ⟨us,[]⟩=pure (ps.zip us)
noncomputable def nsL (K:PySem.W.Frag):List Str->Prop
 | []=>True
 | x::r=>PySem.W.nsIn K mainGlobals x=some none/\nsL K r
section
variable {P:Program}{w:World}{K:PySem.W.Frag}{h:Heap}{mg:Str->Option Value}{base:Heap}{x:Str}{st:Stmt}{f:Addr}{ps:List Str}{k:Nat}{Φ:List D->Sl->Prop}
theorem Dfn.of {oc:Value}{od an:Option Addr}{kV dc pm cd ct:Value}{sl:Array (Option Value)}(a:PySem.W.nsIn K mainGlobals x=some (some (.ref f)))(l:K.lookup f=some ⟨oc,od,.func (PySem.W.fnOf x x (d8 st) (cH st) (ak st) .none kV dc pm an cd ct),sl⟩)(c:PySem.W.codeIn K cd x=true)(k:PySem.W.keepIn K (.ref f)=true):Dfn K x st f:=⟨a,⟨_,_,_,_,_,_,_,_,_,l,c⟩,k⟩
theorem nsL.none (X:K.In h)(G:h.Ns mainGlobals mg):∀{l:List Str},nsL K l->∀x∈l,mg x=none
 | _::_,z,x,m=>by
   rcases List.mem_cons.mp m with rfl | m
   . exact PySem.W.mg_none_of X G z.1
   . exact nsL.none X G z.2 x m
theorem Dfn.fn (d:Dfn K x st f)(X:K.In h)(G:h.Ns mainGlobals mg)(b:BdA x st ps):∃fd,Fun K x x st f fd/\mg x=some (.ref f)/\PySem.W.keepIn K (.ref f)=true/\Binds K fd ps []:=by obtain⟨a,⟨oc,od,kV,dc,pm,an,cd,ct,sl,l,c'⟩,q⟩:=d;have F:=uv l c' q;exact⟨_,F,PySem.W.mg_of X G a,q,F.binds (b kV dc pm an cd ct)⟩
theorem Dfn.cal (d:Dfn K x st f)(X:K.In h)(G:h.Ns mainGlobals mg)(b:BdA x st ps)(o:∀fd,Fun K x x st f fd->a4 P w K mg base CX0 k f fd ps (spD K Φ)):Cal P w K mg base k x Φ:=by obtain⟨fd,F,h1,h2,h3⟩:=d.fn X G b;exact⟨f,fd,ps,o fd F,h1,h2,h3⟩
end
theorem bd1 {Q:List Value->Prop}(h:∀a,Q [a]):∀us:List Value,us.length=1->Q us:=λus e=>match us,e with | [a],_=>h a
theorem bd2 {Q:List Value->Prop}(h:∀a b,Q [a,b]):∀us:List Value,us.length=2->Q us:=λus e=>match us,e with | [a,b],_=>h a b
theorem bd3 {Q:List Value->Prop}(h:∀a b c,Q [a,b,c]):∀us:List Value,us.length=3->Q us:=λus e=>match us,e with | [a,b,c],_=>h a b c
theorem bd4 {Q:List Value->Prop}(h:∀a b c d,Q [a,b,c,d]):∀us:List Value,us.length=4->Q us:=λus e=>match us,e with | [a,b,c,d],_=>h a b c d
end Hy
namespace K49
open PySem PySem.Spec PyProof.Rows L2 Hy
set_option maxHeartbeats 0 in
theorem all_mk {l:PySem.W.OpenLaw}{w:World}{K:PySem.W.Frag}{h:Heap}{mg:Str->Option Value}{fa f0 f1 f2 f3 f4 f5 f6 f7 f8 f9 f10 f11 f12 f13 f14 f15 f16 f17 f18 f19 f20 f21 f22 f23 f24 f25 f26 f27 f28 f29 f30 f31 f32 f33 f34 f35 f36 f37 f38 f39 f40 f41:Addr}{t0:Tok}(X:K.In h)(G:h.Ns mainGlobals mg)(hfa:mg "law" = some (.ref fa))
   (h0:Dfn K "_law_numbers" (top 34) f0) (h1:Dfn K "_law_size" (top 37) f1) (h2:Dfn K "_law_options" (top 46) f2) (h3:Dfn K "_law_stair" (top 47) f3) (h4:Dfn K "_law_cell" (top 33) f4) (h5:Dfn K "_law_marks" (top 49) f5) (h6:Dfn K "_law_divisor" (top 35) f6) (h7:Dfn K "_law_made" (top 36) f7) (h8:Dfn K "_law_numbered" (top 50) f8) (h9:Dfn K "_law_is_stairs" (top 48) f9) (h10:Dfn K "_law_part" (top 42) f10) (h11:Dfn K "_law_plus" (top 41) f11) (h12:Dfn K "_law_across" (top 43) f12) (h13:Dfn K "_law_places" (top 44) f13) (h14:Dfn K "_law_thick" (top 45) f14) (h15:Dfn K "is_short_list" (top 14) f15) (h16:Dfn K "is_whole" (top 5) f16) (h17:Dfn K "common_divisor" (top 7) f17) (h18:Dfn K "is_fraction" (top 6) f18) (h19:Dfn K "is_row" (top 15) f19) (h20:Dfn K "is_table" (top 16) f20) (h21:Dfn K "look_table" (top 17) f21) (h22:Dfn K "choices_of" (top 18) f22) (h23:Dfn K "along_last_row" (top 31) f23) (h24:Dfn K "one_row_more" (top 30) f24) (h25:Dfn K "all_determinants" (top 29) f25) (h26:Dfn K "whole_row" (top 25) f26) (h27:Dfn K "whole_rows" (top 26) f27) (h28:Dfn K "scale_of" (top 24) f28) (h29:Dfn K "first_under" (top 28) f29) (h30:Dfn K "is_good" (top 27) f30) (h31:Dfn K "places_of" (top 21) f31) (h32:Dfn K "product_of" (top 10) f32) (h33:Dfn K "in_lowest_terms" (top 8) f33) (h34:Dfn K "quotient_of" (top 11) f34) (h35:Dfn K "sum_of" (top 9) f35) (h36:Dfn K "change_by" (top 22) f36) (h37:Dfn K "thinned" (top 20) f37) (h38:Dfn K "_law_minors" (top 39) f38) (h39:Dfn K "_law_least_sign" (top 40) f39) (h40:Dfn K "_law_rows" (top 38) f40) (h41:Dfn K "law" (top 51) f41) (hz:nsL K ar) (z0:PySem.W.nsIn K mainGlobals "MOST" = some (some (.int 7 t0))) :
   ∃fd:FuncData,(∀(s:Shared) (v:Value),BindsTo s fd ⟨[v],[]⟩ [("_law_script",v)])/\∀base:Heap,K.In base->base.Ns mainGlobals mg->a4 l.prog w K mg base CX0 7 fa fd ["_law_script"] (spD K rB):=by
 have hb:=hz.none X G;have y_MOST:∃t,mg "MOST" = some (.int 7 t):=⟨_,PySem.W.mg_of X G z0⟩;obtain⟨a,⟨oc,od,kV,dc,pm,an,cd,ct,sl,l0,c⟩,r⟩:=h41;cases hfa.symm.trans (PySem.W.mg_of X G a);refine⟨PySem.W.fnOf "law" "law" (d8 (top 51)) (cH (top 51)) (ak (top 51)) .none kV dc pm an cd ct,λs v=>.of_eq rfl,λbase _ _=>?_⟩;have c_l_numbers:Cal l.prog w K mg base 1 "_law_numbers" bT:=h0.cal (ps:=["_law_cell_here","_law_bases"]) X G (λ_ _ _ _ _ _=>Hy.bd2 λ_ _=>rfl) λ_ F=>mw (k:=0) F hb;have c_l_size:Cal l.prog w K mg base 2 "_law_size" j9:=h1.cal (ps:=["_law_cell_here"]) X G (λ_ _ _ _ _ _=>Hy.bd1 λ_=>rfl) λ_ F=>rT (k:=1) F hb c_l_numbers;have c_l_options:Cal l.prog w K mg base 1 "_law_options" fb:=h2.cal (ps:=["_law_clear"]) X G (λ_ _ _ _ _ _=>Hy.bd1 λ_=>rfl) λ_ F=>mj (k:=0) F hb;have c_l_stair:Cal l.prog w K mg base 2 "_law_stair" iG:=h3.cal (ps:=["_law_cell_here","_law_many","_law_wide"]) X G (λ_ _ _ _ _ _=>Hy.bd3 λ_ _ _=>rfl) λ_ F=>pW (k:=1) F hb c_l_numbers c_l_options;have c_l_cell:Cal l.prog w K mg base 1 "_law_cell" gH:=h4.cal (ps:=["_law_script","_law_k"]) X G (λ_ _ _ _ _ _=>Hy.bd2 λ_ _=>rfl) λ_ F=>sh (k:=0) F hb;have c_l_marks:Cal l.prog w K mg base 3 "_law_marks" g8:=h5.cal (ps:=["_law_script","_law_many","_law_wide"]) X G (λ_ _ _ _ _ _=>Hy.bd3 λ_ _ _=>rfl) λ_ F=>oW (k:=2) F hb c_l_stair (c_l_numbers.mono (by decide)) (c_l_cell.mono (by decide));have c_l_divisor:Cal l.prog w K mg base 1 "_law_divisor" dk:=h6.cal (ps:=["_law_one","_law_other"]) X G (λ_ _ _ _ _ _=>Hy.bd2 λ_ _=>rfl) λ_ F=>mh (k:=0) F hb;have c_l_made:Cal l.prog w K mg base 2 "_law_made" fm:=h7.cal (ps:=["_law_top","_law_bottom"]) X G (λ_ _ _ _ _ _=>Hy.bd2 λ_ _=>rfl) λ_ F=>tw (k:=1) F hb c_l_divisor;have c_l_numbered:Cal l.prog w K mg base 3 "_law_numbered" eB:=h8.cal (ps:=["_law_marks_here","_law_cell_here"]) X G (λ_ _ _ _ _ _=>Hy.bd2 λ_ _=>rfl) λ_ F=>kj (k:=2) F hb (c_l_numbers.mono (by decide)) c_l_made;have c_l_is_stairs:Cal l.prog w K mg base 1 "_law_is_stairs" dM:=h9.cal (ps:=["_law_marks_here"]) X G (λ_ _ _ _ _ _=>Hy.bd1 λ_=>rfl) λ_ F=>jt (k:=0) F hb;have c_l_part:Cal l.prog w K mg base 3 "_law_part" jr:=h10.cal (ps:=["_law_one","_law_other","_law_third"]) X G (λ_ _ _ _ _ _=>Hy.bd3 λ_ _ _=>rfl) λ_ F=>se (k:=2) F hb c_l_made;have c_l_plus:Cal l.prog w K mg base 3 "_law_plus" jN:=h11.cal (ps:=["_law_one","_law_other"]) X G (λ_ _ _ _ _ _=>Hy.bd2 λ_ _=>rfl) λ_ F=>sL (k:=2) F hb c_l_made;have c_l_across:Cal l.prog w K mg base 4 "_law_across" gc:=h12.cal (ps:=["_law_table","_law_places_here","_law_sign"]) X G (λ_ _ _ _ _ _=>Hy.bd3 λ_ _ _=>rfl) λ_ F=>nX (k:=3) F hb c_l_part c_l_plus;have c_l_places:Cal l.prog w K mg base 1 "_law_places" fX:=h13.cal (ps:=["_law_table"]) X G (λ_ _ _ _ _ _=>Hy.bd1 λ_=>rfl) λ_ F=>nE (k:=0) F hb;have c_l_thick:Cal l.prog w K mg base 5 "_law_thick" iD:=h14.cal (ps:=["_law_table"]) X G (λ_ _ _ _ _ _=>Hy.bd1 λ_=>rfl) λ_ F=>oS (k:=4) F hb c_l_across (c_l_places.mono (by decide));have c_is_short_list:Cal l.prog w K mg base 1 "is_short_list" b8:=h15.cal (ps:=["thing"]) X G (λ_ _ _ _ _ _=>Hy.bd1 λ_=>rfl) λ_ F=>g9 (k:=0) F hb y_MOST;have c_is_whole:Cal l.prog w K mg base 1 "is_whole" gf:=h16.cal (ps:=["thing"]) X G (λ_ _ _ _ _ _=>Hy.bd1 λ_=>rfl) λ_ F=>nA (k:=0) F hb;have c_common_divisor:Cal l.prog w K mg base 1 "common_divisor" a5:=h17.cal (ps:=["one","other"]) X G (λ_ _ _ _ _ _=>Hy.bd2 λ_ _=>rfl) λ_ F=>gJ (k:=0) F hb;have c_is_fraction:Cal l.prog w K mg base 2 "is_fraction" dJ:=h18.cal (ps:=["thing"]) X G (λ_ _ _ _ _ _=>Hy.bd1 λ_=>rfl) λ_ F=>jP (k:=1) F hb c_is_whole c_common_divisor;have c_is_row:Cal l.prog w K mg base 3 "is_row" ji:=h19.cal (ps:=["thing"]) X G (λ_ _ _ _ _ _=>Hy.bd1 λ_=>rfl) λ_ F=>sf (k:=2) F hb (c_is_short_list.mono (by decide)) c_is_fraction;have c_is_table:Cal l.prog w K mg base 4 "is_table" gj:=h20.cal (ps:=["thing"]) X G (λ_ _ _ _ _ _=>Hy.bd1 λ_=>rfl) λ_ F=>oe (k:=3) F hb (c_is_short_list.mono (by decide)) c_is_row;have c_look_table:Cal l.prog w K mg base 5 "look_table" cS:=h21.cal (ps:=["thing"]) X G (λ_ _ _ _ _ _=>Hy.bd1 λ_=>rfl) λ_ F=>kq (k:=4) F hb c_is_table;have c_choices_of:Cal l.prog w K mg base 1 "choices_of" eD:=h22.cal (ps:=["many","size"]) X G (λ_ _ _ _ _ _=>Hy.bd2 λ_ _=>rfl) λ_ F=>kr (k:=0) F hb;have c_along_last_row:Cal l.prog w K mg base 1 "along_last_row" (cF l.prog w):=h23.cal (ps:=["known","row","columns"]) X G (λ_ _ _ _ _ _=>Hy.bd3 λ_ _ _=>rfl) λ_ F=>gq (k:=0) F hb;have c_one_row_more:Cal l.prog w K mg base 2 "one_row_more" (cU l.prog w):=h24.cal (ps:=["known","row","column_choices"]) X G (λ_ _ _ _ _ _=>Hy.bd3 λ_ _ _=>rfl) λ_ F=>i4 (k:=1) F hb c_along_last_row;have c_all_determinants:Cal l.prog w K mg base 3 "all_determinants" (cb l.prog w):=h25.cal (ps:=["rows"]) X G (λ_ _ _ _ _ _=>Hy.bd1 λ_=>rfl) λ_ F=>fL (k:=2) F hb (c_choices_of.mono (by decide)) c_one_row_more;have c_whole_row:Cal l.prog w K mg base 1 "whole_row" ff:=h26.cal (ps:=["row","scale"]) X G (λ_ _ _ _ _ _=>Hy.bd2 λ_ _=>rfl) λ_ F=>mL (k:=0) F hb;have c_whole_rows:Cal l.prog w K mg base 2 "whole_rows" eo:=h27.cal (ps:=["table","scales"]) X G (λ_ _ _ _ _ _=>Hy.bd2 λ_ _=>rfl) λ_ F=>kz (k:=1) F hb c_whole_row;have c_scale_of:Cal l.prog w K mg base 2 "scale_of" fV:=h28.cal (ps:=["row"]) X G (λ_ _ _ _ _ _=>Hy.bd1 λ_=>rfl) λ_ F=>oH (k:=1) F hb c_common_divisor;have c_first_under:Cal l.prog w K mg base 4 "first_under" dD:=h29.cal (ps:=["table","bound"]) X G (λ_ _ _ _ _ _=>Hy.bd2 λ_ _=>rfl) λ_ F=>j3 (k:=3) F hb c_all_determinants (c_whole_rows.mono (by decide)) (c_scale_of.mono (by decide));have c_is_good:Cal l.prog w K mg base 6 "is_good" ig:=h30.cal (ps:=["table"]) X G (λ_ _ _ _ _ _=>Hy.bd1 λ_=>rfl) λ_ F=>p7 (k:=5) F hb c_look_table (c_first_under.mono (by decide));have c_places_of:Cal l.prog w K mg base 1 "places_of" fo:=h31.cal (ps:=["table"]) X G (λ_ _ _ _ _ _=>Hy.bd1 λ_=>rfl) λ_ F=>mJ (k:=0) F hb;have c_product_of:Cal l.prog w K mg base 2 "product_of" cR:=h32.cal (ps:=["one","other"]) X G (λ_ _ _ _ _ _=>Hy.bd2 λ_ _=>rfl) λ_ F=>km (k:=1) F hb c_common_divisor;have c_in_lowest_terms:Cal l.prog w K mg base 2 "in_lowest_terms" cx:=h33.cal (ps:=["top","bottom"]) X G (λ_ _ _ _ _ _=>Hy.bd2 λ_ _=>rfl) λ_ F=>fU (k:=1) F hb c_common_divisor;have c_quotient_of:Cal l.prog w K mg base 3 "quotient_of" dC:=h34.cal (ps:=["one","other"]) X G (λ_ _ _ _ _ _=>Hy.bd2 λ_ _=>rfl) λ_ F=>jg (k:=2) F hb c_product_of c_in_lowest_terms;have c_sum_of:Cal l.prog w K mg base 2 "sum_of" ka:=h35.cal (ps:=["one","other"]) X G (λ_ _ _ _ _ _=>Hy.bd2 λ_ _=>rfl) λ_ F=>sr (k:=1) F hb c_common_divisor;obtain⟨fdl,Fl,ml,kl,bl⟩:=h36.fn (ps:=["grid","j","b","sign"]) X G (λ_ _ _ _ _ _=>Hy.bd4 λ_ _ _ _=>rfl);have c_change_by:sR l.prog w K mg base 4 "change_by" (spT K fy):=⟨_,_,_,lH (k:=3) Fl hb c_quotient_of (c_sum_of.mono (by decide)) (c_product_of.mono (by decide)),ml,kl,bl⟩;have c_thinned:Cal l.prog w K mg base 6 "thinned" iq:=h37.cal (ps:=["table"]) X G (λ_ _ _ _ _ _=>Hy.bd1 λ_=>rfl) λ_ F=>pN (k:=5) F hb c_look_table (c_places_of.mono (by decide)) (c_change_by.mono (by decide));have c_l_minors:Cal l.prog w K mg base 1 "_law_minors" (fW l.prog w):=h38.cal (ps:=["_law_rows_here"]) X G (λ_ _ _ _ _ _=>Hy.bd1 λ_=>rfl) λ_ F=>mY (k:=0) F hb;have c_l_least_sign:Cal l.prog w K mg base 2 "_law_least_sign" c8:=h39.cal (ps:=["_law_rows_here"]) X G (λ_ _ _ _ _ _=>Hy.bd1 λ_=>rfl) λ_ F=>iY (k:=1) F hb c_l_minors;have c_l_rows:Cal l.prog w K mg base 2 "_law_rows" j4:=h40.cal (ps:=["_law_table"]) X G (λ_ _ _ _ _ _=>Hy.bd1 λ_=>rfl) λ_ F=>sS (k:=1) F hb c_l_divisor;exact Bc (k:=6) (uv l0 c r) hb (c_l_size.mono (by decide)) (c_l_marks.mono (by decide)) (c_l_numbered.mono (by decide)) (c_l_numbers.mono (by decide)) (c_l_is_stairs.mono (by decide)) (c_l_thick.mono (by decide)) c_is_good (c_l_cell.mono (by decide)) c_thinned (c_l_least_sign.mono (by decide)) (c_l_rows.mono (by decide))
theorem walk {l:PySem.W.OpenLaw}{q:Program}{loose:List Str}{XP:(Str->Option Value)->Heap->Prop}{YP:World->Heap->Prop}{d:DefRec}{K:Params->PySem.W.Frag}(hn:l.most=some 63)(hdf:d.params.defaults=[])
   (hY:∀(w:World) (h:Heap),YP w h->(K w.params).In h)
   (F:∀(w:World) (mg:Str->Option Value) (fa:Addr) (h:Heap),(K w.params).In h->h.Ns mainGlobals mg->mg d.name=some (.ref fa) ->
     ∃fd:FuncData,(∀(s:Shared) (u:Value),BindsTo s fd ⟨[u],[]⟩ [("_law_script",u)])/\∀base:Heap,(K w.params).In base->base.Ns mainGlobals mg->a4 l.prog w (K w.params) mg base CX0 7 fa fd ["_law_script"] (spD (K w.params) rB)) :
   PySem.W.WalkO q loose XP YP l.row.toRowW d [] (λf vs=>PySem.call f vs):=
 L2.xv (n:=63) (k:=7) (x:="_law_script") (CX:=λ_=>CX0) (sp:=λw=>spD (K w.params) rB) hn (by decide) hdf ⟨rfl,by decide,by decide⟩ hY F
   (λw H a ns hl _ hS=>xU (λns h=>⟨ns,h,rfl,rfl⟩) H a ns hl hS) λ_ _ _ _ _ z=>z
end K49
open PySem PySem.W PyProof.Rows
namespace PySem.W.Fast
theorem tw12456248020524694925:True:=⟨⟩
theorem tw13700029398242203713:True:=⟨⟩
theorem tw16034703130279127790:True:=⟨⟩
theorem tw8377635941470715650:True:=⟨⟩
theorem tw10588868736231897381:True:=⟨⟩
theorem tw12037075907524201269:True:=⟨⟩
theorem tw5111929781748459303:True:=⟨⟩
theorem tw5545061537365533270:True:=⟨⟩
theorem tw17324677788542302068:True:=⟨⟩
theorem tw4893743252986229816:True:=⟨⟩
theorem tw18264853997556151775:True:=⟨⟩
theorem tw5228408756705603210:True:=⟨⟩
theorem tw5998703738239417720:True:=⟨⟩
theorem tw5506313401620770336:True:=⟨⟩
theorem tw2073802784821546514:True:=⟨⟩
theorem tw5808847399240267143:True:=⟨⟩
theorem tw9484608968004015552:True:=⟨⟩
theorem tw17301247427998997744:True:=⟨⟩
theorem tw3087835843333452941:True:=⟨⟩
theorem tw7041117922465008703:True:=⟨⟩
theorem tw5457539361483217651:True:=⟨⟩
theorem tw16100332043173424247:True:=⟨⟩
theorem tw12656895699912875977:True:=⟨⟩
theorem tw3531621448630074094:True:=⟨⟩
theorem tw14866523462190304342:True:=⟨⟩
theorem tw3095349688699305018:True:=⟨⟩
theorem tw14970961003742608540:True:=⟨⟩
theorem tw9519248124650433654:True:=⟨⟩
theorem tw13910958933753610743:True:=⟨⟩
theorem tw14380595169882474409:True:=⟨⟩
theorem tw8120831453286478377:True:=⟨⟩
theorem tw12021913874411112348:True:=⟨⟩
theorem tw17897489397879445430:True:=⟨⟩
theorem tw1690924475721098169:True:=⟨⟩
theorem tw5908405175553841081:True:=⟨⟩
theorem tw15514948653423582493:True:=⟨⟩
theorem tw8842449986994739477:True:=⟨⟩
theorem tw1556194172740052406:True:=⟨⟩
theorem tw7170652305163291382:True:=⟨⟩
theorem tw10155303111271994453:True:=⟨⟩
theorem tw3558310361983706301:True:=⟨⟩
theorem tw4992432313066196471:True:=⟨⟩
theorem tw4488283053188940218:True:=⟨⟩
theorem tw1116667028830613211:True:=⟨⟩
theorem tw3838075995324078234:True:=⟨⟩
theorem tw7181026358360120592:True:=⟨⟩
theorem tw2536434579893980794:True:=⟨⟩
theorem tw5961032324691413345:True:=⟨⟩
theorem tw4198999202583502591:True:=⟨⟩
theorem tw5361308175283685053:True:=⟨⟩
theorem tw10765878814340215167:True:=⟨⟩
theorem tw18377778032003909685:True:=⟨⟩
theorem tw16774199261021964541:True:=⟨⟩
theorem tw3811490470169960584:True:=⟨⟩
theorem tw15678349935451175428:True:=⟨⟩
theorem tw12958054358514522892:True:=⟨⟩
end PySem.W.Fast
set_option maxRecDepth 100000 in
set_option maxHeartbeats 0 in
theorem PySem.Challenge.cw_signsmooth_k49_whole_staircase_just_good_holds : PySem.Challenge.rw_signsmooth_k49_whole_staircase_just_good.Holds := by
 w_on; o_law; k_head; (case hw=>w_witness2)
 k_fill
 refine K49.walk (l:=PySem.Challenge.rw_signsmooth_k49_whole_staircase_just_good) rfl rfl (λw h Y=>PySem.W.kIn_of Y) ?F
 case F=>
   intro w mg fa h KX G hmg;refine' K49.all_mk KX G hmg (.of ?_ ?_ ?_ ?_) (.of ?_ ?_ ?_ ?_) (.of ?_ ?_ ?_ ?_) (.of ?_ ?_ ?_ ?_) (.of ?_ ?_ ?_ ?_) (.of ?_ ?_ ?_ ?_) (.of ?_ ?_ ?_ ?_) (.of ?_ ?_ ?_ ?_) (.of ?_ ?_ ?_ ?_) (.of ?_ ?_ ?_ ?_) (.of ?_ ?_ ?_ ?_) (.of ?_ ?_ ?_ ?_) (.of ?_ ?_ ?_ ?_) (.of ?_ ?_ ?_ ?_) (.of ?_ ?_ ?_ ?_) (.of ?_ ?_ ?_ ?_) (.of ?_ ?_ ?_ ?_) (.of ?_ ?_ ?_ ?_) (.of ?_ ?_ ?_ ?_) (.of ?_ ?_ ?_ ?_) (.of ?_ ?_ ?_ ?_) (.of ?_ ?_ ?_ ?_) (.of ?_ ?_ ?_ ?_) (.of ?_ ?_ ?_ ?_) (.of ?_ ?_ ?_ ?_) (.of ?_ ?_ ?_ ?_) (.of ?_ ?_ ?_ ?_) (.of ?_ ?_ ?_ ?_) (.of ?_ ?_ ?_ ?_) (.of ?_ ?_ ?_ ?_) (.of ?_ ?_ ?_ ?_) (.of ?_ ?_ ?_ ?_) (.of ?_ ?_ ?_ ?_) (.of ?_ ?_ ?_ ?_) (.of ?_ ?_ ?_ ?_) (.of ?_ ?_ ?_ ?_) (.of ?_ ?_ ?_ ?_) (.of ?_ ?_ ?_ ?_) (.of ?_ ?_ ?_ ?_) (.of ?_ ?_ ?_ ?_) (.of ?_ ?_ ?_ ?_) (.of ?_ ?_ ?_ ?_) ⟨?_,?_,?_,?_,?_,?_,?_,?_,?_,?_,?_,?_,?_,?_,?_,?_,?_,?_,trivial⟩ ?_
   all_goals try k_is
#print axioms PySem.Challenge.cw_signsmooth_k49_whole_staircase_just_good_holds