import PyProof.Rows.All
import Wide.All
import OpenK.AllK
import Wide.FinOn
import Lean
import PyProof.EqAt
import PyProof.EqKinds
import PyProof.TupleCall
import PyProof.DictKeyH
import PyProof.DictFindH
import PyProof.StrCalls2
import PyProof.StrCalls3
import PyProof.StrCalls
import PyProof.StrWalks
import PyProof.FString
import KE.KIntText
import PyProof.FitsReplace
import PyProof.StrLawsTight
import PyProof.StrLawsOcc
import PyProof.StrBlockI
import PyProof.SliceStr2
import PyProof.StrLawsChain
import PyProof.StrLaws
import PyProof.Rows.StrJoinMade
import PyProof.StrLawsIdx
import PyProof.StrLawsJoin
import PySem.Challenge.RW_signsmooth_k52_staircases_listed
set_option genSizeOf false
set_option bootstrap.genMatcherCode false
set_option Elab.async false
set_option linter.all false
set_option maxRecDepth 100000
set_option exponentiation.threshold 4000
namespace Hx
open PySem PySem.Spec PyProof.Rows
theorem gD:entryFor table "proto.unchain" = some Builtin.«proto.unchain»:=entryFor_of_tree (by kernel_rfl)
section
variable {prog:Program} {w:World} {A:Around} {E:Value->Shared->Prop} {s:Shared}
theorem ji {α:Type} {a h:Addr} {oa oh:Obj} {us vs:Array Value} {Q:α->Shared->Prop} (hh:A.handled=some (.ref h)) (hne:h ≠ a) (ha:s.heap.get? a=some oa) (hda:oa.data=.fields us) (hsz:2 < us.size)
   (ho:s.heap.get? h=some oh) (hd:oh.data=.fields vs) (h2:vs[2]?=some .none)
   (q:E (.ref a) { s with heap:=s.heap.update a (Obj.mapFields (·.setIfInBounds 2 (.ref h))) }):wpAny (model prog w) A (raiseNew (.ref a):Sem α) Q E s:=by
 unfold raiseNew; refine wpAny_bind (wpAny_handled ?_); rw [hh]
 dsimp only
 rw [if_pos (show (Value.ref h != Value.ref a)=true by simp [hne])]
 refine wpAny_bind (wpAny_holding (wpAny_runValue (codeAny_builtin gD ?_)))
 unfold Builtin.«proto.unchain»
 dsimp only
 refine wpAny_bind (wpAny_field ho hd h2 ?_)
 rw [if_pos (show (Value.none == Value.none)=true by decide)]
 refine wpAny_pure ?_
 show wpAny _ A (do let _ <- updateField a 2 (.ref h); throw (Value.ref a)) _ _ _
 unfold updateField
 refine wpAny_bind (wpAny_bind (wpAny_load ha ?_))
 rw [hda]
 dsimp only
 rw [if_pos hsz]
 exact wpAny_update ha (wpAny_throw q)
theorem j5 {r h:Addr} {v left step:Int} {oh:Obj} {vs:Array Value} {Q:Option Value->Shared->Prop} (hh:A.handled=some (.ref h)) (ho:s.heap.get? h=some oh) (hd:oh.data=.fields vs) (h2:vs[2]?=some .none)
   (hr:IsRangeIter s.heap r v left step) (hl:left<=0) (k:∀ h',Heap.ExtBut r s.heap h'->Q none { s with heap:=h' }):wpAny (model prog w) A (pyNext (.ref r)) Q E s:=by
 have ty:s.TypeIs (.ref r) "range_iterator":=⟨_,hr,rfl⟩
 have hlt:=Heap.lt_size ho
 have fl:∀ {α:Type} {B:Around} {F:Value->Shared->Prop} {R:α->Shared->Prop} (i:Nat) (y:Int) {f:Value->Sem α},(#[rawInt v,rawInt left,rawInt step]:Array Value)[i]?=some (rawInt y)->wpAny (model prog w) B (f (rawInt y)) R F s->wpAny (model prog w) B (field (.ref r) i >>= f) R F s:=by
   intro α B F R i y f e q
   exact wpAny_bind (wpAny_field hr rfl e q)
 unfold pyNext
 refine wpAny_bind (wpAny_attempt (wpAny_callSpecial?_slot (name:=Str.ofString "__next__") ty F.slot_range_iterator_next (wpAny_call_entry F.slot_range_iterator_next ty F.entry_range_iterator_next (fl 0 v rfl (fl 1 left rfl (fl 2 step rfl ?_))) (F.args_range_iterator_next_1 _))))
 show wpAny (model prog w) A.in1 (if left<=0 then _ else _) _ _ s
 rw [if_pos hl]
 refine wpAny_bind (wpAny_rule (wpAny_bind ?_))
 show wpAny _ _ (do let e <- newExc (.type "StopIteration") []; _) _ _ _
 refine wpAny_bind ?_
 simp only [newExc,newTuple]
 refine wpAny_bind (wpAny_newObj_type (wpAny_bind (m:=firstArgMember _ _) (wpAny_of_eq (a:=.none) (by first | rfl | (simp only [firstArgMember]; rfl)) (wpAny_newObj_type ?_ (by size_fits)))) (by size_fits))
 have hg:((s.heap.push { cls:=.type "tuple",data:=.seq ([]:List Value).toArray }).push { cls:=.type "StopIteration",data:=.fields (#[Value.ref s.heap.objs.size,.none,.none,.none,.bool false,.none]++ownMembersOf (.type "StopIteration") []) }).get? (s.heap.push { cls:=.type "tuple",data:=.seq ([]:List Value).toArray }).objs.size
     = some { cls:=.type "StopIteration",data:=.fields (#[Value.ref s.heap.objs.size,.none,.none,.none,.bool false,.none]++ownMembersOf (.type "StopIteration") []) }:=Heap.get?_push_size _ rfl
 refine ji (h:=h) (A:=A.in1) hh ?_ hg rfl (by rw [Array.size_append]; exact Nat.lt_of_lt_of_le (by decide:2 < 6) (Nat.le_add_right _ _)) (Heap.get?_push_of_some _ (Heap.get?_push_of_some _ ho)) hd h2 ?_
 · intro z
   rw [Heap.size_push] at z
   exact absurd hlt (by rw [z]; exact Nat.not_lt.mpr (Nat.le_succ _))
 have hu:=Heap.get?_update_self (Obj.mapFields (·.setIfInBounds 2 (.ref h))) hg rfl
 refine wpAny_bind (wpAny_isInstance (T:="StopIteration") (b:=true) ⟨_,hu,rfl⟩ isSubtype_stop ?_)
 refine wpAny_pure (k _ λb o hb e=>?_)
 have bl:=Heap.lt_size e
 rw [Heap.get?_update_other _ _ (by intro z; rw [Heap.size_push] at z; exact absurd bl (by rw [<- z]; exact Nat.not_lt.mpr (Nat.le_succ _)))]
 exact Heap.get?_push_of_some _ (Heap.get?_push_of_some _ e)
end
end Hx
set_option linter.all false
set_option maxRecDepth 100000
namespace L2
open PySem PySem.Spec PyProof.Rows
noncomputable abbrev Key:=Sum Int Str
noncomputable def qj:Key->Value->Bool
 | .inl k,v=>Value.isInt k v
 | .inr x,v=>Value.isStrOf x v
noncomputable def uI (w:World):Key->Int
 | .inl k=>hashInt k
 | .inr x=>hashStr w x
theorem aM:∀ {k:Key} {v:Value},qj k v=true->(∃ i t,k=Sum.inl i/\v=Value.int i t)\/(∃ x t,k=Sum.inr x/\v=Value.str x t)
 | .inl i,v,h=>by
   obtain ⟨t,e⟩:=Value.isInt_shape (k:=i) (v:=v) h
   exact .inl ⟨i,t,rfl,e⟩
 | .inr x,v,h=>by
   obtain ⟨t,e⟩:=Value.isStrOf_shape (x:=x) (v:=v) h
   exact .inr ⟨x,t,rfl,e⟩
theorem qQ (a b:Int):decide ((Sum.inl a:Key)=Sum.inl b)=(a == b):=by
 by_cases e:a=b
 · subst e; simp
 · have h:¬ (Sum.inl a:Key)=Sum.inl b:=λq=>e (Sum.inl.inj q)
   rw [decide_eq_false h]
   exact (beq_eq_false_iff_ne.mpr e).symm
theorem rq (a b:Str):decide ((Sum.inr a:Key)=Sum.inr b)=decide (a=b):=by
 by_cases e:a=b
 · subst e; simp
 · have h:¬ (Sum.inr a:Key)=Sum.inr b:=λq=>e (Sum.inr.inj q)
   rw [decide_eq_false h,decide_eq_false e]
theorem rb (a:Int) (b:Str):decide ((Sum.inl a:Key)=Sum.inr b)=false:=decide_eq_false (λq=>nomatch q)
theorem rB (a:Str) (b:Int):decide ((Sum.inr a:Key)=Sum.inl b)=false:=decide_eq_false (λq=>nomatch q)
noncomputable def k8 (prog:Program) (w:World):PySem.KeyKind prog w Key where
 is:=qj
 hash:=uI w
 inj:=λv a b ha hb=>by
   rcases aM ha with ⟨i,t,rfl,rfl⟩ | ⟨x,t,rfl,rfl⟩
   · rcases aM hb with ⟨j,u,rfl,e⟩ | ⟨y,u,rfl,e⟩
     · injection e with e1 _; rw [e1]
     · exact nomatch e
   · rcases aM hb with ⟨j,u,rfl,e⟩ | ⟨y,u,rfl,e⟩
     · exact nomatch e
     · injection e with e1 _; rw [e1]
 byValue:=λk v h=>by
   rcases aM h with ⟨i,t,rfl,rfl⟩ | ⟨x,t,rfl,rfl⟩ <;> rfl
 pyHash:=λhv h=>by
   rcases aM hv with ⟨i,t,rfl,rfl⟩ | ⟨x,t,rfl,rfl⟩
   · exact wpAny_pyHash_int h
   · exact wpAny_pyHash_str h
 eqBool:=λhu hv h=>by
   rcases aM hu with ⟨i,t,rfl,rfl⟩ | ⟨x,t,rfl,rfl⟩
   · rcases aM hv with ⟨j,u,rfl,rfl⟩ | ⟨y,u,rfl,rfl⟩
     · rw [qQ] at h; exact wpAny_eqBool_int h
     · rw [rb] at h; exact SeqAt.EqAt.int_str i t y u _ _ _ _ h
   · rcases aM hv with ⟨j,u,rfl,rfl⟩ | ⟨y,u,rfl,rfl⟩
     · rw [rB] at h; exact SeqAt.EqAt.str_int x t j u _ _ _ _ h
     · rw [rq] at h; exact wpAny_eqBool_str h
 «strs»:=λk x t v h=>by
   rcases aM h with ⟨i,u,rfl,e⟩ | ⟨y,u,rfl,e⟩
   · exact nomatch e
   · injection e with e1 _
     subst e1
     cases v <;> rfl
inductive V where
 | non | bl (b:Bool) | int (i:Int) | str (x:Str) | byt (b:Array UInt8) | flt (b:UInt64) | ref (a:Addr) | ty (n:String)
 deriving DecidableEq
noncomputable def RelV:V->Value->Prop
 | .non,u=>u=Value.none
 | .bl b,u=>u=Value.bool b
 | .int i,u=>∃ t,u=Value.int i t
 | .str x,u=>∃ t,u=Value.str x t
 | .byt b,u=>∃ t,u=Value.bytes b t
 | .flt b,u=>∃ t,u=Value.float b t
 | .ref a,u=>u=Value.ref a
 | .ty n,u=>u=Value.type n
noncomputable abbrev Vals:List V->List Value->Prop:=Paired RelV
theorem Vals.length {xs:List V} {us:List Value} (r:Vals xs us):xs.length=us.length:=Paired.length r
theorem Vals.get:∀ {xs:List V} {us:List Value} {i:Nat} {x:V},Vals xs us->xs[i]?=some x->∃ u,us[i]?=some u/\RelV x u
 | _,_,_,_,.nil,e=>by simp at e
 | _,_,0,_,.cons r _,e=>by simp at e; subst e; exact ⟨_,rfl,r⟩
 | _,_,i + 1,x,.cons _ t,e=>by
   obtain ⟨u,h1,h2⟩:=Vals.get (i:=i) (x:=x) t (by simpa using e)
   exact ⟨u,by simpa using h1,h2⟩
theorem Vals.append:∀ {xs ys:List V} {us ws:List Value},Vals xs us->Vals ys ws->Vals (xs++ys) (us++ws)
 | _,_,_,_,.nil,s=>s
 | _,_,_,_,.cons r t,s=>.cons r (Vals.append t s)
theorem Vals.take:∀ {xs:List V} {us:List Value} (n:Nat),Vals xs us->Vals (xs.take n) (us.take n)
 | _,_,0,_=>.nil
 | _,_,_ + 1,.nil=>.nil
 | _,_,n + 1,.cons r t=>.cons r (Vals.take n t)
theorem Vals.drop:∀ {xs:List V} {us:List Value} (n:Nat),Vals xs us->Vals (xs.drop n) (us.drop n)
 | _,_,0,r=>r
 | _,_,_ + 1,.nil=>.nil
 | _,_,n + 1,.cons _ t=>Vals.drop n t
noncomputable def sY:Option V->Option Value->Prop
 | some v,some u=>RelV v u
 | none,none=>True
 | _,_=>False
noncomputable def KV {κ:Type}:List (κ × V)->List (κ × Value)->Prop:=Paired λ(p:κ × V) (q:κ × Value)=>p.1=q.1/\RelV p.2 q.2
noncomputable def kV:Key->V
 | .inl i=>.int i
 | .inr x=>.str x
inductive HO where
 | lst (xs:List V)
 | tup (xs:List V)
 | dK (kvs:List (Key × V)) | dT (kvs:List (List Key × V))
 | set (S:Int->Bool) (n:Nat)
 | ins (C dx:Addr) (fs:List (Str × V))
 | own (x:Addr)
 | xd (fs:List (Str × V))
 | met (f x:Addr)
 | rng (lo hi:Int)
 | frz (o:Obj) (u:HO)
 | tbl (ps:Array Value)
 | ext (φ:Heap->Prop)
noncomputable abbrev Hp:=Addr->Option HO
noncomputable def upd (H:Hp) (a:Addr) (o:HO):Hp:=λb=>if b=a then some o else H b
theorem az {H:Hp} {a:Addr} {o:HO}:upd H a o a=some o:=by unfold upd; rw [if_pos rfl]
theorem ai {H:Hp} {a b:Addr} {o:HO} (h:b ≠ a):upd H a o b=H b:=by unfold upd; rw [if_neg h]
theorem au {H:Hp} {a b:Addr} {o:HO} (h:H a=some o) (h':H b=none):a ≠ b:=by
 intro e; subst e; rw [h] at h'; cases h'
section
variable (P:Program) (w:World)
noncomputable def br (H:Hp) (h:Heap) (a:Addr):HO->Prop
 | .lst xs=>xs.length<=sizeLine/\∃ (its:List Value) (n:Nat),Vals xs its/\h.get? a=some { cls:=.type "list",data:=.seq its.toArray n }
 | .tup xs=>xs.length<=sizeLine/\∃ its:List Value,Vals xs its/\IsTup h a its.toArray
 | .dK kvs=>kvs.length<=sizeLine/\(a == sysModules)=false/\∃ vs,KV kvs vs/\h.DictOf (k8 P w) a vs
 | .dT kvs=>kvs.length<=sizeLine/\(a == sysModules)=false/\∃ xs:List (List Key × Addr × Value),
     Paired (λ(p:List Key × V) (q:List Key × Addr × Value)=>p.1=q.1/\H q.2.1=some (.tup (p.1.map kV))/\RelV p.2 q.2.2) kvs xs /\
     ∃ o es ep,h.get? a=some o/\o.ExactDict/\o.data=.dict es ep/\es.toList=xs.map (entryOfKey (tupleKind (k8 P w)))/\(xs.map (·.1)).Nodup
 | .set S n=>h.SetOf (intKind P w) a S n
 | .ins C dx fs=>H dx=some (.own a)/\fs.length<=1000/\dx ≠ a/\h.get? a=some (PySem.W.instObj C dx) /\
     ∃ mA,h.Ns1 dx mA/\(∀ f,sY (fs.lookup f) (mA f))/\PySem.Within mA (fs.map (·.1))
 | .own _=>∃ o,h.get? a=some o
 | .xd fs=>∃ mA,h.Ns1 a mA/\∀ f,sY (fs.lookup f) (mA f)
 | .rng lo hi=>∃ t u v,h.get? a=some { cls:=.type "range",data:=.fields #[.int lo t,.int hi u,.int 1 v] }
 | .frz o u=>h.get? a=some o/\br H h a u
 | .tbl ps=>h.get? a=some { cls:=.none,data:=.fields ps }
 | .met f x=>h.get? a=some (PySem.W.methodObj (.ref f) (.ref x))
 | .ext φ=>φ h/\(∃ o,h.get? a=some o)/\∀ h1 h2:Heap,φ h1->(∀ o,h1.get? a=some o->h2.get? a=some o)->φ h2
noncomputable def HOk (H:Hp) (h:Heap):Prop:=∀ a o,H a=some o->br P w H h a o
end
section
variable {P:Program} {w:World} {H H':Hp} {h h':Heap} {a:Addr} {o:HO}
theorem br.lt (x:br P w H h a o):a < h.objs.size:=by
 cases o with
 | lst xs=>obtain ⟨_,_,_,_,e⟩:=x; exact Heap.lt_size e
 | tup xs=>obtain ⟨_,_,_,p⟩:=x; exact p.lt
 | dK kvs=>obtain ⟨_,_,_,_,o,_,_,e,_⟩:=x; exact Heap.lt_size e
 | dT kvs=>obtain ⟨_,_,_,_,o,_,_,e,_⟩:=x; exact Heap.lt_size e
 | set S n=>obtain ⟨o,_,_,_,e,_⟩:=x; exact Heap.lt_size e
 | ins C dx fs=>obtain ⟨_,_,_,e,_⟩:=x; exact Heap.lt_size e
 | own y=>obtain ⟨_,e⟩:=x; exact Heap.lt_size e
 | xd fs=>obtain ⟨_,⟨_,_,_,e,_⟩,_⟩:=x; exact Heap.lt_size e
 | rng lo hi=>obtain ⟨_,_,_,e⟩:=x; exact Heap.lt_size e
 | frz ob u=>obtain ⟨e,_⟩:=x; exact Heap.lt_size e
 | tbl ps=>exact Heap.lt_size (show h.get? a=some _ from x)
 | met f y=>exact Heap.lt_size (show h.get? a=some _ from x)
 | ext φ=>obtain ⟨_,⟨_,e⟩,_⟩:=x; exact Heap.lt_size e
theorem Paired.tw {α β:Type} {F G:α->β->Prop}:∀ {l₁:List α} {l₂:List β},Paired F l₁ l₂->(∀ a b,F a b->G a b)->Paired G l₁ l₂
 | _,_,.nil,_=>.nil
 | _,_,.cons r t,f=>.cons (f _ _ r) (Paired.tw t f)
theorem br.cE (x:br P w H h a o) (k:∀ b u,(b=a\/H b=some (.own a))->h.get? b=some u->h'.get? b=some u)
   (ho:∀ b,H b=some (.own a)->H' b=some (.own a)) (ht:∀ b xs,H b=some (.tup xs)->H' b=some (.tup xs)):br P w H' h' a o:=by
 induction o with
 | lst xs=>obtain ⟨z,its,n,r,e⟩:=x; exact ⟨z,its,n,r,k _ _ (.inl rfl) e⟩
 | tup xs=>obtain ⟨z,its,r,ob,e,c⟩:=x; exact ⟨z,its,r,ob,k _ _ (.inl rfl) e,c⟩
 | dK kvs=>obtain ⟨z,y,vs,r,ob,es,ep,e,c⟩:=x; exact ⟨z,y,vs,r,ob,es,ep,k _ _ (.inl rfl) e,c⟩
 | dT kvs=>
   obtain ⟨z,y,xs,r,ob,es,ep,e,c⟩:=x
   exact ⟨z,y,xs,Paired.tw r λp q z=>⟨z.1,ht _ _ z.2.1,z.2.2⟩,ob,es,ep,k _ _ (.inl rfl) e,c⟩
 | set S n=>obtain ⟨ob,es,ep,t,e,c⟩:=x; exact ⟨ob,es,ep,t,k _ _ (.inl rfl) e,c⟩
 | ins C dx fs=>
   obtain ⟨d,z,ne,e,mA,⟨od,es,ep,e2,c⟩,r⟩:=x
   exact ⟨ho _ d,z,ne,k _ _ (.inl rfl) e,mA,⟨od,es,ep,k _ _ (.inr d) e2,c⟩,r⟩
 | own y=>obtain ⟨ob,e⟩:=x; exact ⟨ob,k _ _ (.inl rfl) e⟩
 | xd fs=>obtain ⟨mA,⟨od,es,ep,e,c⟩,r⟩:=x; exact ⟨mA,⟨od,es,ep,k _ _ (.inl rfl) e,c⟩,r⟩
 | rng lo hi=>obtain ⟨t,u,v,e⟩:=x; exact ⟨t,u,v,k _ _ (.inl rfl) e⟩
 | frz ob u ih=>obtain ⟨e,q⟩:=x; exact ⟨k _ _ (.inl rfl) e,ih q⟩
 | tbl ps=>
   have e:h.get? a=some { cls:=.none,data:=.fields ps }:=x
   show h'.get? a=some { cls:=.none,data:=.fields ps }
   exact k a _ (.inl rfl) e
 | met f y=>
   have e:h.get? a=some (PySem.W.methodObj (.ref f) (.ref y)):=x
   show h'.get? a=some (PySem.W.methodObj (.ref f) (.ref y))
   exact k a _ (.inl rfl) e
 | ext φ=>obtain ⟨p,⟨o,e⟩,st⟩:=x; exact ⟨st _ _ p λo q=>k _ _ (.inl rfl) q,⟨o,k _ _ (.inl rfl) e⟩,st⟩
theorem HOk.lt (x:HOk P w H h) (e:H a=some o):a < h.objs.size:=(x a o e).lt
theorem HOk.fresh (x:HOk P w H h) (e:h.objs.size<=a):H a=none:=by
 cases q:H a with
 | none=>rfl
 | some u=>exact absurd (Nat.lt_of_lt_of_le (x.lt q) e) (Nat.lt_irrefl _)
theorem HOk.kept (x:HOk P w H h) (k:∀ b u,h.get? b=some u->h'.get? b=some u):HOk P w H h':=λa o e=>
 (x a o e).cE (λb u _ q=>k b u q) (λ_ q=>q) λ_ _ q=>q
theorem HOk.laid (x:HOk P w H h) (k:∀ b u,h.get? b=some u->h'.get? b=some u) (hp:h.objs.size<=a) (new:br P w (upd H a o) h' a o):HOk P w (upd H a o) h':=λb u e=>by
 have hn:=x.fresh hp
 by_cases hb:b=a
 · subst hb; rw [az] at e; cases e; exact new
 · rw [ai hb] at e
   exact (x b u e).cE (λc v _ q=>k c v q) (λc q=>by rw [ai (au q hn)]; exact q) λc xs q=>by rw [ai (au q hn)]; exact q
end
noncomputable def Rd (H:Hp) (a:Addr) (u:HO):Prop:=H a=some u\/∃ o,H a=some (.frz o u)
theorem Rd.ok {P:Program} {w:World} {H:Hp} {h:Heap} {a:Addr} {u:HO} (r:Rd H a u) (x:HOk P w H h):br P w H h a u:=by
 rcases r with r | ⟨o,r⟩
 · exact x a u r
 · obtain ⟨_,q⟩:=x a _ r
   exact q
noncomputable def Mut:Option HO->Prop
 | some (.lst _)=>True
 | some (.dK _)=>True
 | some (.dT _)=>True
 | some (.set _ _)=>True
 | some (.ins _ _ _)=>True
 | some (.ext _)=>True
 | _=>False
section
variable {P:Program} {w:World} {H:Hp} {h h':Heap} {x e:Addr} {o':HO}
theorem HOk.write (ok:HOk P w H h) (mu:Mut (H x)) (he:e=x\/H e=some (.own x)) (k:∀ b u,b ≠ e->h.get? b=some u->h'.get? b=some u) (heo:∃ u,h'.get? e=some u)
   (new:br P w (upd H x o') h' x o'):HOk P w (upd H x o') h':=λb u q=>by
 have nown:∀ c y,H c=some (.own y)->c ≠ x:=λc y r z=>by subst z; rw [r] at mu; exact mu
 have ntup:∀ c xs,H c=some (.tup xs)->c ≠ x:=λc xs r z=>by subst z; rw [r] at mu; exact mu
 by_cases hb:b=x
 · subst hb; rw [az] at q; cases q; exact new
 · rw [ai hb] at q
   by_cases hbe:b=e
   · have q':H b=some (.own x):=by
       rcases he with z | z
       · exact absurd (hbe.trans z) hb
       · rw [hbe]; exact z
     rw [q] at q'; cases q'
     obtain ⟨v,hv⟩:=heo
     exact ⟨v,by rw [hbe]; exact hv⟩
   · refine (ok b u q).cE (λc v hc r=>k c v ?_ r) (λc r=>by rw [ai (nown c b r)]; exact r) λc xs r=>by rw [ai (ntup c xs r)]; exact r
     rcases hc with rfl | hc
     · exact hbe
     · rintro rfl
       rcases he with z | z
       · exact nown c b hc z
       · rw [hc] at z; cases z; exact hb rfl
end
structure Un (fs ex:List Addr) (H H':Hp) (h h':Heap):Prop where
 keep:∀ b o,h.get? b=some o->H b=none->b ∉ fs->b ∉ ex->h'.get? b=some o
 slot:∀ b o,h.get? b=some o->H b=none->b ∈ fs->b ∉ ex->∃ sl,h'.get? b=some { o with slots:=sl }
 free:∀ b o,h.get? b=some o->H b=none->b ∉ ex->H' b=none
 there:∀ b o,h.get? b=some o->b ∉ ex->∃ o',h'.get? b=some o'
 tups:∀ b xs,H b=some (.tup xs)->H' b=some (.tup xs)
 frzs:∀ b o u,H b=some (.frz o u)->H' b=some (.frz o u)
 tbls:∀ b ps,H b=some (.tbl ps)->∃ more,H' b=some (.tbl (ps++more))
section
variable {fs fs' ex ex':List Addr} {H H1 H2:Hp} {h h1 h2 h':Heap} {a x e:Addr} {o:HO}
theorem Un.any (u:Un fs ex H H1 h h1) {b:Addr} {ob:Obj} (q:h.get? b=some ob) (n:H b=none) (hx:b ∉ ex):∃ sl,h1.get? b=some { ob with slots:=sl }:=by
 by_cases hb:b ∈ fs
 · exact u.slot b ob q n hb hx
 · exact ⟨ob.slots,u.keep b ob q n hb hx⟩
theorem Un.kept (k:∀ b u,h.get? b=some u->h'.get? b=some u):Un fs ex H H h h':=
 ⟨λb ob q _ _ _=>k b ob q,λb ob q _ _ _=>⟨ob.slots,k b ob q⟩,λ_ _ _ n _=>n,λb ob q _=>⟨ob,k b ob q⟩,λ_ _ q=>q,λ_ _ _ q=>q,λ_ ps q=>⟨#[],by rw [q]; simp⟩⟩
theorem Un.refl:Un fs ex H H h h:=Un.kept λ_ _ q=>q
theorem Un.laid (k:∀ b u,h.get? b=some u->h'.get? b=some u) (hp:h.objs.size<=a) (hn:H a=none):Un fs ex H (upd H a o) h h' where
 keep:=λb u q _ _ _=>k b u q
 slot:=λb u q _ _ _=>⟨u.slots,k b u q⟩
 free:=λb u q n _=>by rw [ai (Nat.ne_of_lt (Nat.lt_of_lt_of_le (Heap.lt_size q) hp))]; exact n
 there:=λb u q _=>⟨u,k b u q⟩
 tups:=λb xs q=>by rw [ai (au q hn)]; exact q
 frzs:=λb u xs q=>by rw [ai (au q hn)]; exact q
 tbls:=λb ps q=>⟨#[],by rw [ai (au q hn),q]; simp⟩
theorem Un.write (mu:Mut (H x)) (he:e=x\/H e=some (.own x)) (k:∀ b u,b ≠ e->h.get? b=some u->h'.get? b=some u) (heo:∃ u,h'.get? e=some u):Un fs ex H (upd H x o) h h':=by
 have hx:∀ b,H b=none->b ≠ x:=λb n z=>by subst z; rw [n] at mu; exact mu
 have hb:∀ b,H b=none->b ≠ e:=λb n z=>by
   subst z
   rcases he with r | r
   · exact hx b n r
   · rw [n] at r; cases r
 have hm:∀ b u,H b=some u->¬ Mut (some u)->b ≠ x:=λb u q nm z=>by subst z; rw [q] at mu; exact nm mu
 refine ⟨λb u q n _ _=>k b u (hb b n) q,λb u q n _ _=>⟨u.slots,k b u (hb b n) q⟩,λb u q n _=>by rw [ai (hx b n)]; exact n,λb u q _=>?_,
   λb xs q=>by rw [ai (hm b _ q λz=>z)]; exact q,λb u xs q=>by rw [ai (hm b _ q λz=>z)]; exact q,λb ps q=>⟨#[],by rw [ai (hm b _ q λz=>z),q]; simp⟩⟩
 by_cases hbe:b=e
 · subst hbe; exact heo
 · exact ⟨u,k b u hbe q⟩
end
noncomputable def trk (h:Heap) (H:Hp):List Addr:=(List.range h.objs.size).filter λa=>(H a).isSome
noncomputable def iU (h:Heap) (H:Hp):Heap:=PySem.W.hideAll h (trk h H)
theorem lA (h:Heap) (H:Hp):(iU h H).objs.size=h.objs.size:=PySem.W.hideAll_size _ _
theorem ni {h:Heap} {H:Hp} {b:Addr} {o:Obj} (e:h.get? b=some o) (n:H b=none):(iU h H).get? b=some o:=
 PySem.W.hideAll_get _ e λhm=>by
   have q:(H b).isSome=true:=(List.mem_filter.mp hm).2
   rw [n] at q; simp at q
theorem pZ {h:Heap} {H:Hp} {b:Addr} {o:Obj} (e:(iU h H).get? b=some o):h.get? b=some o/\H b=none:=by
 have e':h.get? b=some o:=PySem.W.of_hideAll (trk h H) e
 refine ⟨e',?_⟩
 cases q:H b with
 | none=>rfl
 | some x=>
   have hm:b ∈ trk h H:=List.mem_filter.mpr ⟨List.mem_range.mpr (Heap.lt_size e'),by simp [q]⟩
   have z:(iU h H).get? b=none:=PySem.W.hideAll_none (trk h H) hm
   rw [z] at e; cases e
noncomputable def pf (g h:Heap) (L:Addr):List (Addr × Obj):=(List.range h.objs.size).filterMap λa=>if a=L\/(g.get? a).isSome=true then none else (h.get? a).map λo=>(a,o)
noncomputable def rest (g h:Heap) (L d:Addr):List (Addr × Obj):=(pf g h L).filter λp=>decide (p.1 ≠ d)
structure Mod (K:PySem.W.Frag) (mg:Str->Option Value) (base:Heap):Prop where
 kin:K.In base
 glob:base.Ns mainGlobals mg
 blt:∃ mb,base.Ns builtinsNs mb/\∀ x:Str,x ≠ "__name__" -> mb x=bootBuiltins x
 nolimit:base.NoLimit
structure Cx where
 prog:Program
 w:World
 K:PySem.W.Frag
 mg:Str->Option Value
 base:Heap
 A:Around
 N:List Str
 s₀:Shared
 H₀:Hp
 env:Env
 outer:List Env
 stack:List Env
 ex:List Addr
 fn:Str->Bool
 calm:Bool
 pn:List (Addr × Obj)
 xe:Value->Shared->Prop
noncomputable def frs (l:List Env):List Addr:=l.filterMap (·.frame)
noncomputable abbrev Cx.fs (X:Cx):List Addr:=frs X.outer
noncomputable def Vis (sc:Scope) (x:Str):Prop:=sc.names.lookup x=some .local\/sc.names.lookup x=some .cell\/sc.names.lookup x=some .free
noncomputable def Loc (sc:Scope) (x:Str):Prop:=sc.names.lookup x=some .local\/sc.names.lookup x=some .cell
noncomputable def Look (env:Env) (h:Heap) (m:Str->Option Value) (x:Str) (u:Value):Prop:=
 (env.kindOf x=some .local/\m x=some u)\/((env.kindOf x=some .cell\/env.kindOf x=some .free)/\∃ c,env.cells.lookup x=some c/\h.IsCell c (some u))
structure Cx.Ok (X:Cx):Prop where
 mod:Mod X.K X.mg X.base
 kind:X.env.scope.kind=.function
 glob:X.env.globals=mainGlobals
 blt:X.env.builtins=builtinsNs
 above:X.s₀.heap.objs.size<=X.env.locals
 inj:∀ x y c,X.env.cells.lookup x=some c->X.env.cells.lookup y=some c->x=y
 has:∀ x,(X.env.kindOf x=some .cell\/X.env.kindOf x=some .free)->∃ c,X.env.cells.lookup x=some c
 cab:∀ x c,X.fn x=true->X.env.cells.lookup x=some c->X.s₀.heap.objs.size<=c
 hd:X.calm=true->X.A.handled=none
 frames:X.A.frames=some X.stack
 stk:X.stack=X.outer\/(X.stack=X.env :: X.outer/\X.env.frame=some X.env.locals)
 exf:∀ b ∈ X.ex,b ≠ X.env.locals/\∀ x c,X.env.cells.lookup x=some c->c ≠ b
 bs:∀ b o,X.base.get? b=some o->X.s₀.heap.get? b=some o/\X.H₀ b=none
 bsz:X.base.objs.size<=X.s₀.heap.objs.size
 noex:∀ b o,X.base.get? b=some o->b ∉ X.ex
 exfs:∀ b ∈ X.ex,b ∉ X.fs
 eT:X.s₀.heap.FunFrames X.base X.outer
 frf:∀ b ∈ X.fs,X.H₀ b=none
structure Inv (X:Cx) (pins:List (Addr × Obj)) (σ:List (Option V)) (H:Hp) (s:Shared):Prop where
 ok:X.Ok
 os:s.os=X.s₀.os
 bare:AllBare s.gens
 base:Un X.fs X.ex X.H₀ H X.s₀.heap s.heap
 loc:∃ m,s.heap.Ns X.env.locals m/\∀ (i:Nat) (x:Str) (v:V),X.N[i]?=some x->σ[i]?=some (some v)->Vis X.env.scope x->∃ u,RelV v u/\Look X.env s.heap m x u
 cell:∀ x c,X.env.cells.lookup x=some c->∃ v,s.heap.IsCell c v
 free:H X.env.locals=none
 freeC:∀ x c,X.env.cells.lookup x=some c->H c=none
 pin:∀ p ∈ X.pn++pins,s.heap.get? p.1=some p.2/\H p.1=none/\p.1 ≠ X.env.locals/\p.1 ∉ X.fs/\∀ v,p.2.data ≠ .cell v
 hok:HOk X.prog X.w H s.heap
 len:σ.length=X.N.length
section
variable {X:Cx} {pins:List (Addr × Obj)} {σ:List (Option V)} {H H':Hp} {s:Shared} {h':Heap}
theorem Cx.Ok.uv (ok:X.Ok) {b:Addr} {o:Obj} (e:X.base.get? b=some o):b ∉ X.fs:=λhb=>by
 have:=(ok.eT.mem hb).1
 rw [e] at this; cases this
theorem Inv.bs (I:Inv X pins σ H s):∀ b o,X.base.get? b=some o->s.heap.get? b=some o/\H b=none:=λb o e=>
 ⟨I.base.keep b o (I.ok.bs b o e).1 (I.ok.bs b o e).2 (I.ok.uv e) (I.ok.noex b o e),I.base.free b o (I.ok.bs b o e).1 (I.ok.bs b o e).2 (I.ok.noex b o e)⟩
theorem Inv.bk (I:Inv X pins σ H s):∀ b o,X.base.get? b=some o->s.heap.get? b=some o:=λb o e=>(I.bs b o e).1
theorem Inv.mod (I:Inv X pins σ H s):Mod X.K X.mg X.base:=I.ok.mod
theorem Inv.kIn (I:Inv X pins σ H s):X.K.In s.heap:=I.ok.mod.kin.keeps I.bk
theorem Inv.lt (I:Inv X pins σ H s):X.env.locals < s.heap.objs.size:=let ⟨_,hn,_⟩:=I.loc; hn.lt
theorem Inv.sz (I:Inv X pins σ H s):X.s₀.heap.objs.size<=s.heap.objs.size:=Nat.le_trans I.ok.above (Nat.le_of_lt I.lt)
theorem Inv.uA (I:Inv X pins σ H s) {a:Addr} (h:s.heap.objs.size<=a):a ∉ X.fs:=λhb=>by
 obtain ⟨_,o,ho,_⟩:=I.ok.eT.mem hb
 exact absurd (Nat.lt_of_lt_of_le (Heap.lt_size ho) (Nat.le_trans I.sz h)) (Nat.lt_irrefl _)
theorem Inv.cne (I:Inv X pins σ H s):∀ x c,X.env.cells.lookup x=some c->c ≠ X.env.locals:=λx c e z=>by
 obtain ⟨v,o,ho,hd⟩:=I.cell x c e
 obtain ⟨m,⟨o',es,ep,ho',hd',_⟩,_⟩:=I.loc
 rw [z,ho'] at ho; cases ho; rw [hd'] at hd; cases hd
theorem Inv.eT (I:Inv X pins σ H s):s.heap.FunFrames X.base X.outer:=by
 have all:∀ (l:List Env),(∀ b ∈ frs l,b ∈ X.fs)->X.s₀.heap.FunFrames X.base l->s.heap.FunFrames X.base l:=by
   intro l
   induction l with
   | nil=>intro _ _; trivial
   | cons env r ih=>
     intro hs hl
     obtain ⟨hk,⟨L,o,hf,hn,ho,hd⟩,hr⟩:=hl
     have hL:L ∈ X.fs:=hs L (by unfold frs; rw [List.filterMap_cons,hf]; exact List.mem_cons_self)
     obtain ⟨sl,e⟩:=I.base.slot L o ho (I.ok.frf L hL) hL λz=>I.ok.exfs L z hL
     exact ⟨hk,⟨L,_,hf,hn,e,hd⟩,ih (λb hb=>hs b (by unfold frs; rw [List.filterMap_cons,hf]; exact List.mem_cons_of_mem _ hb)) hr⟩
 exact all X.outer (λ_ hb=>hb) I.ok.eT
theorem Inv.stack (I:Inv X pins σ H s):s.heap.FunFrames X.base X.stack:=by
 rcases I.ok.stk with e | ⟨e,hf⟩
 · rw [e]; exact I.eT
 · rw [e]
   obtain ⟨m,hn,_⟩:=I.loc
   refine .cons (by rw [I.ok.kind]; decide) hf hn ?_ I.eT
   exact Heap.get?_none_of_le (Nat.le_trans I.ok.bsz I.ok.above)
theorem Inv.fB (I:Inv X pins σ H s):∀ b ∈ frs X.stack,b ∈ X.env.locals :: X.fs:=λb hb=>by
 rcases I.ok.stk with e | ⟨e,hf⟩
 · rw [e] at hb; exact List.mem_cons_of_mem _ hb
 · rw [e] at hb
   unfold frs at hb
   rw [List.filterMap_cons,hf] at hb
   exact hb
theorem Inv.eg (I:Inv X pins σ H s):∀ b ∈ frs X.stack,H b=none:=λb hb=>by
 rcases List.mem_cons.mp (I.fB b hb) with e | hb
 · rw [e]; exact I.free
 · obtain ⟨_,o,ho,_⟩:=I.ok.eT.mem hb
   exact I.base.free b o ho (I.ok.frf b hb) λz=>I.ok.exfs b z hb
theorem Inv.step {g':Array GenState} {t':Nat} {d':Drawn} {ch:List Addr} (I:Inv X pins σ H s)
   (hch:∀ b ∈ ch,(b ∈ X.ex\/X.s₀.heap.objs.size<=b)/\b ≠ X.env.locals/\(∀ x c,X.env.cells.lookup x=some c->c ≠ b)/\∀ p ∈ X.pn++pins,p.1 ≠ b)
   (keep:∀ b o,b ≠ X.env.locals->b ∉ X.fs->b ∉ ch->s.heap.get? b=some o->H b=none->h'.get? b=some o)
   (slot:∀ b o,b ≠ X.env.locals->b ∈ X.fs->b ∉ ch->s.heap.get? b=some o->H b=none->∃ sl,h'.get? b=some { o with slots:=sl }) (free:∀ b o,b ∉ ch->s.heap.get? b=some o->H b=none->H' b=none)
   (there:∀ b o,b ∉ ch->s.heap.get? b=some o->∃ o',h'.get? b=some o')
   (tups:∀ b xs,H b=some (.tup xs)->H' b=some (.tup xs)) (frzs:∀ b o u,H b=some (.frz o u)->H' b=some (.frz o u)) (tbls:∀ b ps,H b=some (.tbl ps)->∃ more,H' b=some (.tbl (ps++more)))
   (ns:∀ m,s.heap.Ns X.env.locals m->h'.Ns X.env.locals m) (hok:HOk X.prog X.w H' h') (hg:AllBare g') :
   Inv X pins σ H' { s with heap:=h',gens:=g',drawn:=d',toks:=t' }:=by
 have neL:∀ b o,X.s₀.heap.get? b=some o->b ≠ X.env.locals:=λb o e=>Nat.ne_of_lt (Nat.lt_of_lt_of_le (Heap.lt_size e) I.ok.above)
 have neC:∀ b o,X.s₀.heap.get? b=some o->b ∉ X.ex->b ∉ ch:=λb o e hx hb=>by
   rcases (hch b hb).1 with z | z
   · exact hx z
   · exact absurd (Nat.lt_of_lt_of_le (Heap.lt_size e) z) (Nat.lt_irrefl _)
 have cellK:∀ x c,X.env.cells.lookup x=some c->∀ v,s.heap.IsCell c v->h'.IsCell c v:=λx c e v ⟨o,ho,hd⟩=>by
   have nch:c ∉ ch:=λz=>(hch c z).2.2.1 x c e rfl
   by_cases hc:c ∈ X.fs
   · obtain ⟨sl,q⟩:=slot c o (I.cne x c e) hc nch ho (I.freeC x c e)
     exact ⟨_,q,hd⟩
   · exact ⟨o,keep c o (I.cne x c e) hc nch ho (I.freeC x c e),hd⟩
 refine ⟨I.ok,I.os,hg,⟨λb o e n hb hx=>?_,λb o e n hb hx=>?_,λb o e n hx=>?_,λb o e hx=>?_,λb xs e=>tups b xs (I.base.tups b xs e),λb o xs e=>frzs b o xs (I.base.frzs b o xs e),λb ps e=>?_⟩,?_,λx c e=>?_,?_,λx c e=>?_,λp hp=>?_,hok,I.len⟩
 · exact keep b o (neL b o e) hb (neC b o e hx) (I.base.keep b o e n hb hx) (I.base.free b o e n hx)
 · obtain ⟨sl,e1⟩:=I.base.slot b o e n hb hx
   obtain ⟨sl',e2⟩:=slot b _ (neL b o e) hb (neC b o e hx) e1 (I.base.free b o e n hx)
   exact ⟨sl',e2⟩
 · obtain ⟨o',e1⟩:=I.base.there b o e hx
   exact free b o' (neC b o e hx) e1 (I.base.free b o e n hx)
 · obtain ⟨o',e1⟩:=I.base.there b o e hx
   exact there b o' (neC b o e hx) e1
 · obtain ⟨m1,e1⟩:=I.base.tbls b ps e
   obtain ⟨m2,e2⟩:=tbls b _ e1
   exact ⟨m1++m2,by rw [e2,Array.append_assoc]⟩
 · obtain ⟨m,hn,hl⟩:=I.loc
   refine ⟨m,ns m hn,λi x v e1 e2 e3=>?_⟩
   obtain ⟨u,r,l⟩:=hl i x v e1 e2 e3
   refine ⟨u,r,?_⟩
   rcases l with l | ⟨k,c,e,z⟩
   · exact .inl l
   · exact .inr ⟨k,c,e,cellK x c e _ z⟩
 · obtain ⟨v,z⟩:=I.cell x c e
   exact ⟨v,cellK x c e v z⟩
 · obtain ⟨m,⟨o,_,_,ho,_⟩,_⟩:=I.loc
   exact free _ o (λz=>(hch _ z).2.1 rfl) ho I.free
 · obtain ⟨v,o,ho,hd⟩:=I.cell x c e
   exact free c o (λz=>(hch c z).2.2.1 x c e rfl) ho (I.freeC x c e)
 · obtain ⟨e,n,ne,nf,d⟩:=I.pin p hp
   have nch:p.1 ∉ ch:=λz=>(hch p.1 z).2.2.2 p hp rfl
   exact ⟨keep p.1 p.2 ne nf nch e n,free p.1 p.2 nch e n,ne,nf,d⟩
theorem Inv.un {t':Nat} (I:Inv X pins σ H s) (u:Un X.fs [] H H' s.heap h') (hok:HOk X.prog X.w H' h'):Inv X pins σ H' { s with heap:=h',toks:=t' }:=by
 obtain ⟨m,⟨o,es,ep,ho,r⟩,_⟩:=id I.loc
 obtain ⟨sl,hL⟩:=u.any ho I.free (by simp)
 exact I.step (g':=s.gens) (d':=s.drawn) (ch:=[]) (λ_ z=>nomatch z) (λb o _ hb _ e n=>u.keep b o e n hb (by simp)) (λb o _ hb _ e n=>u.slot b o e n hb (by simp)) (λb o _ e n=>u.free b o e n (by simp)) (λb o _ e=>u.there b o e (by simp)) u.tups u.frzs u.tbls (λm' hm=>by
   obtain ⟨o',es',ep',ho',r'⟩:=hm
   rw [ho] at ho'; cases ho'
   exact ⟨_,es',ep',hL,r'⟩) hok I.bare
theorem Inv.call {g':Array GenState} {t':Nat} {d':Drawn} {ch:List Addr} (I:Inv X pins σ H s) (u:Un (frs X.stack) ch H H' s.heap h') (hok:HOk X.prog X.w H' h') (hg:AllBare g')
   (hch:∀ b ∈ ch,(b ∈ X.ex\/X.s₀.heap.objs.size<=b)/\b ≠ X.env.locals/\(∀ x c,X.env.cells.lookup x=some c->c ≠ b)/\∀ p ∈ X.pn++pins,p.1 ≠ b) :
   Inv X pins σ H' { s with heap:=h',gens:=g',drawn:=d',toks:=t' }:=by
 obtain ⟨m,⟨o,es,ep,ho,r⟩,_⟩:=id I.loc
 obtain ⟨sl,hL⟩:=u.any ho I.free λz=>(hch _ z).2.1 rfl
 exact I.step (ch:=ch) hch (λb o hL hb hc e n=>u.keep b o e n (λz=>(List.mem_cons.mp (I.fB b z)).elim hL hb) hc) (λb o _ _ hc e n=>u.any e n hc) (λb o hc e n=>u.free b o e n hc) (λb o hc e=>u.there b o e hc) u.tups u.frzs u.tbls (λm' hm=>by
   obtain ⟨o',es',ep',ho',r'⟩:=hm
   rw [ho] at ho'; cases ho'
   exact ⟨_,es',ep',hL,r'⟩) hok hg
theorem Inv.turned {t':Nat} {it:Addr} (I:Inv X pins σ H s) (k:∀ b o,b ≠ it->s.heap.get? b=some o->h'.get? b=some o) (hn:H it=none) (hL:it ≠ X.env.locals)
   (h1:it ∈ X.ex\/X.s₀.heap.objs.size<=it) (h2:∀ x c,X.env.cells.lookup x=some c->c ≠ it) (h3:∀ p ∈ X.pn++pins,p.1 ≠ it):Inv X pins σ H { s with heap:=h',toks:=t' }:=by
 have nit:∀ b u,H b=some u->b ≠ it:=λb u e z=>by rw [z,hn] at e; cases e
 refine I.step (g':=s.gens) (d':=s.drawn) (ch:=[it]) (λb hb=>?_) (λb o _ _ hc e _=>k b o (λz=>hc (by simp [z])) e) (λb o _ _ hc e _=>⟨o.slots,k b o (λz=>hc (by simp [z])) e⟩) (λ_ _ _ _ n=>n)
   (λb o hc e=>⟨o,k b o (λz=>hc (by simp [z])) e⟩) (λ_ _ e=>e) (λ_ _ _ e=>e) (λb ps e=>⟨#[],by rw [e]; simp⟩) (λm hm=>?_) (λb u e=>?_) I.bare
 · have e:b=it:=by simpa using hb
   subst e
   exact ⟨h1,hL,h2,h3⟩
 · obtain ⟨o,es,ep,ho,r⟩:=hm
   exact ⟨o,es,ep,k _ o (Ne.symm hL) ho,r⟩
 · refine (I.hok b u e).cE (λc v hc q=>k c v ?_ q) (λ_ q=>q) λ_ _ q=>q
   rcases hc with z | z
   · rw [z]; exact nit b u e
   · exact nit c _ z
theorem Inv.tok (I:Inv X pins σ H s) (t:Nat):Inv X pins σ H { s with toks:=t }:=I.un (h':=s.heap) (t':=t) Un.refl I.hok
theorem Inv.kept {t':Nat} (I:Inv X pins σ H s) (k:∀ b u,s.heap.get? b=some u->h'.get? b=some u):Inv X pins σ H { s with heap:=h',toks:=t' }:=I.un (Un.kept k) (I.hok.kept k)
theorem Inv.laid {a:Addr} {o:HO} {t':Nat} (I:Inv X pins σ H s) (k:∀ b u,s.heap.get? b=some u->h'.get? b=some u) (hp:s.heap.objs.size<=a) (new:br X.prog X.w (upd H a o) h' a o) :
   Inv X pins σ (upd H a o) { s with heap:=h',toks:=t' }:=I.un (Un.laid k hp (I.hok.fresh hp)) (I.hok.laid k hp new)
theorem Inv.write {x e:Addr} {o:HO} {t':Nat} (I:Inv X pins σ H s) (mu:Mut (H x)) (he:e=x\/H e=some (.own x)) (k:∀ b u,b ≠ e->s.heap.get? b=some u->h'.get? b=some u) (heo:∃ u,h'.get? e=some u)
   (new:br X.prog X.w (upd H x o) h' x o):Inv X pins σ (upd H x o) { s with heap:=h',toks:=t' }:=I.un (Un.write mu he k heo) (I.hok.write mu he k heo new)
theorem Inv.kW {pins':List (Addr × Obj)} (I:Inv X pins σ H s) (h:∀ p ∈ pins',s.heap.get? p.1=some p.2/\H p.1=none/\p.1 ≠ X.env.locals/\p.1 ∉ X.fs/\∀ v,p.2.data ≠ .cell v):Inv X pins' σ H s:=
 ⟨I.ok,I.os,I.bare,I.base,I.loc,I.cell,I.free,I.freeC,λp hp=>(List.mem_append.mp hp).elim (λz=>I.pin p (List.mem_append_left _ z)) (h p),I.hok,I.len⟩
theorem fU {N:List Str} (hN:N.Nodup) {i j:Nat} {x:Str} (a:N[i]?=some x) (b:N[j]?=some x):i=j:=by
 obtain ⟨h1,e1⟩:=List.getElem?_eq_some_iff.mp a
 obtain ⟨h2,e2⟩:=List.getElem?_eq_some_iff.mp b
 exact (List.getElem_inj hN).mp (e1.trans e2.symm)
theorem lQ {M:Model} {A:Around} {E:Value->Shared->Prop} {i:Nat} {x:Str} {v:V} {u:Value} {Q:Unit->Shared->Prop} (I:Inv X pins σ H s) (hN:X.N.Nodup) (hi:X.N[i]?=some x) (hx:Loc X.env.scope x) (r:RelV v u)
   (h:∀ s',Inv X pins (σ.set i (some v)) H s'->(∃ a,Heap.SameBut a s.heap s'.heap/\(a=X.env.locals\/X.env.cells.lookup x=some a))->Q () s') (hf:X.fn x=true\/X.env.scope.names.lookup x=some .local:=by first | exact .inl rfl | exact .inr rfl | assumption):wpAny M A (storeName X.env x u) Q E s:=by
 obtain ⟨m,hn,hl⟩:=id I.loc
 have hcls:(X.env.scope.kind == .class || (X.env.scope.kind == .module && X.env.locals != X.env.globals))=false:=by rw [I.ok.kind]; rfl
 have hiσ:i < σ.length:=by rw [I.len]; exact (List.getElem?_eq_some_iff.mp hi).1
 have cne:=I.cne
 have tracked:∀ {a:Addr} {h':Heap},(∃ o,s.heap.get? a=some o/\H a=none)->Heap.SameBut a s.heap h'->HOk X.prog X.w H h':=λ{a h'} ha hs b ob e=>by
   obtain ⟨_,_,hfree⟩:=ha
   refine (I.hok b ob e).cE (λc w' hc q=>(hs.2 c ?_).trans q) (λ_ q=>q) λ_ _ q=>q
   rintro rfl
   rcases hc with rfl | hc
   · rw [hfree] at e; cases e
   · rw [hfree] at hc; cases hc
 rcases hx with hk | hk
 · refine wpAny_storeName_local hk hn (λh' hn' hs=>?_) hcls
   obtain ⟨oL,_,_,hoL,_⟩:=id hn
   refine h _ ⟨I.ok,I.os,I.bare,⟨λb o e n hb hx=>?_,λb o e n hb hx=>?_,I.base.free,λb o e hx=>?_,I.base.tups,I.base.frzs,I.base.tbls⟩,⟨_,hn',λj y v' e1 e2 e3=>?_⟩,λy c e=>?_,I.free,I.freeC,λp hp=>?_,tracked ⟨oL,hoL,I.free⟩ hs,by simpa using I.len⟩ ⟨_,hs,.inl rfl⟩
   · exact (hs.2 b (Nat.ne_of_lt (Nat.lt_of_lt_of_le (Heap.lt_size e) I.ok.above))).trans (I.base.keep b o e n hb hx)
   · obtain ⟨sl,e1⟩:=I.base.slot b o e n hb hx
     exact ⟨sl,(hs.2 b (Nat.ne_of_lt (Nat.lt_of_lt_of_le (Heap.lt_size e) I.ok.above))).trans e1⟩
   · obtain ⟨o',e1⟩:=I.base.there b o e hx
     exact ⟨o',(hs.2 b (Nat.ne_of_lt (Nat.lt_of_lt_of_le (Heap.lt_size e) I.ok.above))).trans e1⟩
   · by_cases hj:j=i
     · subst hj
       rw [hi] at e1; cases e1
       rw [List.getElem?_set_self hiσ] at e2
       cases e2
       exact ⟨u,r,.inl ⟨hk,by simp⟩⟩
     · rw [List.getElem?_set_ne (Ne.symm hj)] at e2
       obtain ⟨u',r',q⟩:=hl j y v' e1 e2 e3
       refine ⟨u',r',?_⟩
       rcases q with ⟨k,e⟩ | ⟨k,c,e,z⟩
       · refine .inl ⟨k,?_⟩
         have:y ≠ x:=λe=>hj (fU hN e1 (e ▸ hi))
         simp [this,e]
       · exact .inr ⟨k,c,e,z.sameBut hs (cne y c e)⟩
   · obtain ⟨w',z⟩:=I.cell y c e
     exact ⟨w',z.sameBut hs (cne y c e)⟩
   · obtain ⟨e,n,ne,nf,d⟩:=I.pin p hp
     exact ⟨(hs.2 p.1 ne).trans e,n,ne,nf,d⟩
 · have hfn:X.fn x=true:=by
     rcases hf with z | z
     · exact z
     · rw [z] at hk; cases hk
   obtain ⟨c,hc⟩:=I.ok.has x (.inl hk)
   obtain ⟨w',z⟩:=I.cell x c hc
   refine wpAny_storeName_cell I.ok.kind hk hc z (λh' hc' hs=>?_)
   obtain ⟨oc,hoc,hocd⟩:=id z
   refine h { s with heap:=h' } ⟨I.ok,I.os,I.bare,⟨λb o e n hb hx=>?_,λb o e n hb hx=>?_,I.base.free,λb o e hx=>?_,I.base.tups,I.base.frzs,I.base.tbls⟩,⟨m,hn.sameBut hs (Ne.symm (cne x c hc)),λj y v' e1 e2 e3=>?_⟩,λy c' e=>?_,I.free,I.freeC,λp hp=>?_,tracked ⟨oc,hoc,I.freeC x c hc⟩ hs,by simpa using I.len⟩ ⟨c,hs,.inr hc⟩
   · exact (hs.2 b (Nat.ne_of_lt (Nat.lt_of_lt_of_le (Heap.lt_size e) (I.ok.cab x c hfn hc)))).trans (I.base.keep b o e n hb hx)
   · obtain ⟨sl,e1⟩:=I.base.slot b o e n hb hx
     exact ⟨sl,(hs.2 b (Nat.ne_of_lt (Nat.lt_of_lt_of_le (Heap.lt_size e) (I.ok.cab x c hfn hc)))).trans e1⟩
   · obtain ⟨o',e1⟩:=I.base.there b o e hx
     exact ⟨o',(hs.2 b (Nat.ne_of_lt (Nat.lt_of_lt_of_le (Heap.lt_size e) (I.ok.cab x c hfn hc)))).trans e1⟩
   · by_cases hj:j=i
     · subst hj
       rw [hi] at e1; cases e1
       rw [List.getElem?_set_self hiσ] at e2
       cases e2
       exact ⟨u,r,.inr ⟨.inl hk,c,hc,hc'⟩⟩
     · rw [List.getElem?_set_ne (Ne.symm hj)] at e2
       obtain ⟨u',r',q⟩:=hl j y v' e1 e2 e3
       refine ⟨u',r',?_⟩
       rcases q with q | ⟨k,c',e,z'⟩
       · exact .inl q
       · refine .inr ⟨k,c',e,z'.sameBut hs ?_⟩
         rintro rfl
         exact hj (fU hN e1 (I.ok.inj _ _ _ e hc ▸ hi))
   · by_cases hcc:c'=c
     · subst hcc; exact ⟨_,hc'⟩
     · obtain ⟨w2,z2⟩:=I.cell y c' e
       exact ⟨w2,z2.sameBut hs hcc⟩
   · obtain ⟨e,n,ne,nf,d⟩:=I.pin p hp
     refine ⟨(hs.2 p.1 ?_).trans e,n,ne,nf,d⟩
     intro q
     rw [q,hoc] at e
     have q':oc=p.2:=Option.some.inj e
     exact d w' (by rw [<- q']; exact hocd)
theorem dJ {M:Model} {A:Around} {E:Value->Shared->Prop} {i:Nat} {x:Str} {v:V} {u:Value} {Q:Unit->Shared->Prop} (I:Inv X pins σ H s) (hN:X.N.Nodup) (hi:X.N[i]?=some x) (hx:Loc X.env.scope x) (r:RelV v u)
   (h:∀ s',Inv X pins (σ.set i (some v)) H s'->Q () s') (hf:X.fn x=true\/X.env.scope.names.lookup x=some .local:=by first | exact .inl rfl | exact .inr rfl | assumption):wpAny M A (storeName X.env x u) Q E s:=
 lQ I hN hi hx r (λs' I' _=>h s' I') hf
theorem Inv.gZ {s':Shared} {ch:List Addr} (I:Inv X pins σ H s) (ho:s'.os=s.os) (u:Un (frs X.stack) ch H H' s.heap s'.heap) (hok:HOk X.prog X.w H' s'.heap) (hg:AllBare s'.gens)
   (hch:∀ b ∈ ch,(b ∈ X.ex\/X.s₀.heap.objs.size<=b)/\b ≠ X.env.locals/\(∀ x c,X.env.cells.lookup x=some c->c ≠ b)/\∀ p ∈ X.pn++pins,p.1 ≠ b):Inv X pins σ H' s':=by
 obtain ⟨h',g',d',t',o'⟩:=s'
 have e:o'=s.os:=ho
 subst e
 exact I.call (g':=g') (t':=t') (d':=d') u hok hg hch
end
noncomputable abbrev XK:=Value->Option Addr->Hp->Prop
noncomputable abbrev St:=List (Option V)
noncomputable abbrev VK:=V->Hp->Prop
noncomputable abbrev TE:=St->Hp->VK->Prop
noncomputable abbrev TT:=St->Hp->(Bool->Hp->Prop)->Prop
noncomputable abbrev TA:=St->Hp->(List V->Hp->Prop)->Prop
structure Ends where
 nx:St->Hp->Prop
 rt:VK
 bk:St->Hp->Prop:=λ_ _=>False
 ct:St->Hp->Prop:=λ_ _=>False
noncomputable abbrev TS:=Ends->St->Hp->Prop
noncomputable def EP (X:Cx) (pins:List (Addr × Obj)) (σ:St) (Q:VK) (u:Value) (s':Shared):Prop:=∃ v H',Inv X pins σ H' s'/\RelV v u/\Q v H'
noncomputable def TP (X:Cx) (pins:List (Addr × Obj)) (σ:St) (Q:Bool->Hp->Prop) (b:Bool) (s':Shared):Prop:=∃ H',Inv X pins σ H' s'/\Q b H'
noncomputable def AP (X:Cx) (pins:List (Addr × Obj)) (σ:St) (Q:List V->Hp->Prop) (us:List Value) (s':Shared):Prop:=∃ vs H',Inv X pins σ H' s'/\Vals vs us/\Q vs H'
noncomputable def SP (X:Cx) (pins:List (Addr × Obj)) (D:Ends) (f:Flow) (s':Shared):Prop:=
 match f with
 | .next=>∃ σ' H',Inv X pins σ' H' s'/\D.nx σ' H'
 | .brk=>∃ σ' H',Inv X pins σ' H' s'/\D.bk σ' H'
 | .cont=>∃ σ' H',Inv X pins σ' H' s'/\D.ct σ' H'
 | .ret u=>∃ v σ' H',Inv X pins σ' H' s'/\RelV v u/\D.rt v H'
noncomputable def PE (X:Cx) (e:Expr) (t:TE):Prop:=
 ∀ (pins:List (Addr × Obj)) (s:Shared) (σ:St) (H:Hp) (Q:VK),Inv X pins σ H s->t σ H Q->wpAny (model X.prog X.w) X.A (eval e X.env) (EP X pins σ Q) X.xe s
noncomputable def PT (X:Cx) (e:Expr) (t:TT):Prop:=
 ∀ (pins:List (Addr × Obj)) (s:Shared) (σ:St) (H:Hp) (Q:Bool->Hp->Prop),Inv X pins σ H s->t σ H Q->wpAny (model X.prog X.w) X.A (isTrue e X.env (eval e X.env)) (TP X pins σ Q) X.xe s
noncomputable def PW (X:Cx) (e:Expr) (t:TT):Prop:=
 ∀ (whole:Sem Value) (pins:List (Addr × Obj)) (s:Shared) (σ:St) (H:Hp) (Q:Bool->Hp->Prop),Inv X pins σ H s->t σ H Q->wpAny (model X.prog X.w) X.A (isTrue e X.env whole) (TP X pins σ Q) X.xe s
theorem PW.pt {X:Cx} {e:Expr} {t:TT} (h:PW X e t):PT X e t:=h _
noncomputable def PA (X:Cx) (es:List Expr) (t:TA):Prop:=
 ∀ (pos:Pos) (pins:List (Addr × Obj)) (s:Shared) (σ:St) (H:Hp) (Q:List V->Hp->Prop),Inv X pins σ H s->t σ H Q->wpAny (model X.prog X.w) X.A (spliced (backTo pos (starEach es X.env))) (AP X pins σ Q) X.xe s
noncomputable def PS (X:Cx) (st:Stmt) (t:TS):Prop:=
 ∀ (pins:List (Addr × Obj)) (s:Shared) (σ:St) (H:Hp) (D:Ends),Inv X pins σ H s->t D σ H->wpAny (model X.prog X.w) X.A (exec st X.env) (SP X pins D) X.xe s
noncomputable def PSs (X:Cx) (st:List Stmt) (t:TS):Prop:=
 ∀ (pins:List (Addr × Obj)) (s:Shared) (σ:St) (H:Hp) (D:Ends),Inv X pins σ H s->t D σ H->wpAny (model X.prog X.w) X.A (execs st X.env) (SP X pins D) X.xe s
theorem thn {α:Type} {t:Sem α} {Q Q':α->Shared->Prop} {M:Model} {A:Around} {E:Value->Shared->Prop} {s:Shared} (h:wpAny M A t Q E s) (hQ:∀ a s,Q a s->Q' a s):wpAny M A t Q' E s:=wpAny_mono h hQ λ_ _ x=>x
section
variable {X:Cx}
theorem bin {a b:Expr} {ta tb:TE} (ha:PE X a ta) (hb:PE X b tb) {pins:List (Addr × Obj)} {s:Shared} {σ:St} {H:Hp} {R:V->V->Hp->Prop} (I:Inv X pins σ H s) (h:ta σ H λx H1=>tb σ H1 λy H2=>R x y H2)
   {α:Type} {Q:α->Shared->Prop} {f:Value->Value->Sem α}
   (hf:∀ v u s2 x y H2,Inv X pins σ H2 s2->RelV x v->RelV y u->R x y H2->wpAny (model X.prog X.w) X.A (f v u) Q X.xe s2) :
   wpAny (model X.prog X.w) X.A (eval a X.env) (λv s₁=>wpAny (model X.prog X.w) X.A (eval b X.env) (λu s₂=>wpAny (model X.prog X.w) X.A (f v u) Q X.xe s₂) X.xe s₁) X.xe s:=by
 refine thn (ha pins s σ H _ I h) λv s1 ⟨x,H1,I1,r1,q1⟩=>?_
 refine thn (hb pins s1 σ H1 _ I1 q1) λu s2 ⟨y,H2,I2,r2,q2⟩=>?_
 exact hf v u s2 x y H2 I2 r1 r2 q2
noncomputable def fg (i:Nat):TE:=λσ H Q=>∃ v,σ[i]?=some (some v)/\Q v H
noncomputable def tC (v:V):TE:=λ_ H Q=>Q v H
theorem a9 {i:Nat} {x:Str} {pos:Pos} (hN:X.N[i]?=some x) (hv:Vis X.env.scope x) (hd:(x == ("__debug__" : Str))=false:=by decide) (hcd:(x == ("__classdict__" : Str))=false:=by decide):PE X (.Name x pos) (fg i):=by
 intro pins s σ H Q I h
 obtain ⟨v,e,h⟩:=h
 obtain ⟨m,hn,hl⟩:=I.loc
 obtain ⟨u,r,l⟩:=hl i x v hN e hv
 have fin:EP X pins σ Q u s:=⟨v,H,I,r,h⟩
 rcases l with ⟨hk,hm⟩ | ⟨hk,c,hc,hcell⟩
 · exact wpAny_Name (wpAny_loadName_local I.ok.kind hk hn hm fin) hd
 · rcases hk with hk | hk
   · exact wpAny_Name (wpAny_loadName_cell I.ok.kind hk hc hcell fin) hd
   · exact wpAny_Name (wpAny_loadName_free I.ok.kind hk hc hcell fin hcd) hd
theorem aX {i j pos}:PE X (.Constant (.int i) j pos) (tC (.int i)):=λ_ _ _ H _ I h=>wpAny_Constant_int ⟨.int i,H,I.tok _,⟨_,rfl⟩,h⟩
theorem sL {b j pos}:PE X (.Constant (.bool b) j pos) (tC (.bl b)):=λ_ _ _ H _ I h=>Constant_bool ⟨.bl b,H,I,rfl,h⟩
theorem mM {x j pos}:PE X (.Constant (.str x) j pos) (tC (.str x)):=λ_ _ _ H _ I h=>Calls.Constant_str ⟨.str x,H,I.tok _,⟨_,rfl⟩,h⟩
noncomputable def Gl (X:Cx) (x:Str):Prop:=X.env.kindOf x=some .globalImplicit
theorem eG {E:Value->Shared->Prop} {pins:List (Addr × Obj)} {s:Shared} {σ:St} {H:Hp} {x:Str} {u:Value} {pos:Pos} {Q:Value->Shared->Prop} (I:Inv X pins σ H s) (hg:Gl X x) (hm:X.mg x=some u) (h:Q u s)
   (hd:(x == ("__debug__" : Str))=false:=by decide):wpAny (model X.prog X.w) X.A (eval (.Name x pos) X.env) Q E s:=
 Calls.Name_function_global I.ok.kind hg (Calls.loadGlobal_global (by rw [I.ok.glob]; exact I.mod.glob.keeps I.bk) hm h) hd
theorem dq {E:Value->Shared->Prop} {pins:List (Addr × Obj)} {s:Shared} {σ:St} {H:Hp} {x:Str} {u:Value} {pos:Pos} {Q:Value->Shared->Prop} (I:Inv X pins σ H s) (hg:Gl X x) (hm:X.mg x=none) (hv:bootBuiltins x=some u) (h:Q u s)
   (hn:x ≠ "__name__":=by decide) (hd:(x == ("__debug__" : Str))=false:=by decide):wpAny (model X.prog X.w) X.A (eval (.Name x pos) X.env) Q E s:=by
 obtain ⟨mb,h1,h2⟩:=I.mod.blt
 exact Calls.Name_function_global I.ok.kind hg (Calls.loadGlobal_builtin (by rw [I.ok.glob]; exact I.mod.glob.keeps I.bk) hm (by rw [I.ok.blt]; exact h1.keeps I.bk) ((h2 x hn).trans hv) h) hd
theorem iZ {x:Str} {v:V} {u:Value} {pos:Pos} (hg:Gl X x) (hm:X.mg x=some u) (r:RelV v u) (hd:(x == ("__debug__" : Str))=false:=by decide):PE X (.Name x pos) (tC v):=
 λ_ _ _ H _ I h=>eG I hg hm ⟨v,H,I,r,h⟩ hd
theorem kA {x:Str} {v:V} {u:Value} {pos:Pos} (hg:Gl X x) (hm:X.mg x=none) (hv:bootBuiltins x=some u) (r:RelV v u) (hn:x ≠ "__name__":=by decide) (hd:(x == ("__debug__" : Str))=false:=by decide):PE X (.Name x pos) (tC v):=
 λ_ _ _ H _ I h=>dq I hg hm hv ⟨v,H,I,r,h⟩ hn hd
noncomputable def t2I (ta tb:TE) (k:Int->Int->Hp->Prop):St->Hp->Prop:=λσ H=>ta σ H λx H1=>tb σ H1 λy H2=>∃ i j,x=.int i/\y=.int j/\k i j H2
variable {a b:Expr} {ta tb:TE} {pos:Pos}
noncomputable def PC (X:Cx) (op:CmpOp) (a b:Expr) (t:TE):Prop:=
 ∀ (pins:List (Addr × Obj)) (s:Shared) (σ:St) (H:Hp) (Q:VK),Inv X pins σ H s->t σ H Q ->
   wpAny (model X.prog X.w) X.A (eval a X.env) (λv s₁=>wpAny (model X.prog X.w) X.A (eval b X.env) (λu s₂=>wpAny (model X.prog X.w) X.A (compareOp op v u) (EP X pins σ Q) X.xe s₂) X.xe s₁) X.xe s
theorem nz (b:Expr) {op:CmpOp} (h:op ≠ .In) (h2:op ≠ .NotIn):behindInMarks op b=false:=by
 have e1:(op == CmpOp.In)=false:=by cases op <;> first | rfl | exact absurd rfl h
 have e2:(op == CmpOp.NotIn)=false:=by cases op <;> first | rfl | exact absurd rfl h2
 cases b <;> simp [behindInMarks,e1,e2]
noncomputable def t6 (p:Int->Int->Bool) (ta tb:TE):TE:=λσ H Q=>t2I ta tb (λi j H2=>Q (.bl (p i j)) H2) σ H
noncomputable abbrev uh:TE->TE->TE:=t6 λi j=>decide (i=j)
theorem sd {op:CmpOp} {p:Int->Int->Bool} (ha:PE X a ta) (hb:PE X b tb)
   (rule:∀ (i j:Int) (t u:Tok) (Q:Value->Shared->Prop) (s:Shared),Q (.bool (p i j)) s->wpAny (model X.prog X.w) X.A (compareOp op (.int i t) (.int j u)) Q X.xe s):PC X op a b (t6 p ta tb):=by
 intro pins s σ H Q I h
 refine bin ha hb I h λv u s2 x y H2 I2 rx ry q=>?_
 obtain ⟨i,j,rfl,rfl,q⟩:=q
 obtain ⟨t,rfl⟩:=rx
 obtain ⟨t',rfl⟩:=ry
 exact rule i j t t' _ s2 ⟨.bl _,H2,I2,rfl,q⟩
theorem j6 (ha:PE X a ta) (hb:PE X b tb):PC X .Eq a b (uh ta tb):=sd ha hb λ_ _ _ _ _ _ h=>eq_int (by rw [Bool.beq_eq_decide_eq]; exact h)
noncomputable def tB (t:TE):TT:=λσ H Q=>t σ H λx H1=>∃ c,x=.bl c/\Q c H1
theorem iK {op:CmpOp} {t:TE} (h:PC X op a b t) (h1:behindInMarks op b=false:=by first | exact nz _ (by decide) (by decide) | rfl):PT X (.Compare a [op] [b] pos) (tB t):=by
 intro pins s σ H Q I hw
 refine wpAny_isTrue_Compare1 (thn (h pins s σ H _ I hw) λv s1 h1=>thn h1 λu s2 h2=>thn h2 λc s3 ⟨x,H1,I1,r1,q1⟩=>?_) h1
 obtain ⟨d,rfl,q⟩:=q1
 cases r1
 exact wpAny_truthy_bool ⟨H1,I1,q⟩
theorem nq {e:Expr} {t:TE} (h:PE X e t) (he:∀ whole,isTrue e X.env whole=(do let v <- whole; standAt e.pos; holding [v] (truthy v)):=by intro _; rfl):PT X e (tB t):=by
 intro pins s σ H Q I hw
 refine isTrue_plain (thn (h pins s σ H _ I hw) λv s1 ⟨x,H1,I1,r1,q1⟩=>?_) (he _)
 obtain ⟨d,rfl,q⟩:=q1
 cases r1
 exact wpAny_truthy_bool ⟨H1,I1,q⟩
variable {tA tB':TT} {rest:List Expr}
noncomputable def ur (t u:TT):TT:=λσ H Q=>t σ H λc H1=>if c=true then u σ H1 Q else Q false H1
noncomputable def tOr (t u:TT):TT:=λσ H Q=>t σ H λc H1=>if c=true then Q true H1 else u σ H1 Q
noncomputable def uj (t:TT):TT:=λσ H Q=>t σ H λc H1=>Q (!c) H1
theorem pw_and1 (ha:PT X a tA):PW X (.BoolOp .And [a] pos) tA:=by
 intro wh pins s σ H Q I h
 refine isTrue_and (thn (ha pins s σ H Q I h) λc s1 e=>?_)
 cases c with
 | true=>exact isTrue_and_nil e
 | false=>exact e
theorem pw_or1 (ha:PT X a tA):PW X (.BoolOp .Or [a] pos) tA:=by
 intro wh pins s σ H Q I h
 refine isTrue_or (thn (ha pins s σ H Q I h) λc s1 e=>?_)
 cases c with
 | false=>exact isTrue_or_nil e
 | true=>exact e
theorem pw_and (ha:PT X a tA) (hb:PW X (.BoolOp .And (b :: rest) pos) tB'):PW X (.BoolOp .And (a :: b :: rest) pos) (ur tA tB'):=by
 intro wh pins s σ H Q I h
 refine isTrue_and (thn (ha pins s σ H _ I h) λc s1 ⟨H1,I1,q1⟩=>?_)
 cases c with
 | true=>exact hb wh pins s1 σ H1 Q I1 q1
 | false=>exact ⟨H1,I1,q1⟩
theorem pw_or (ha:PT X a tA) (hb:PW X (.BoolOp .Or (b :: rest) pos) tB'):PW X (.BoolOp .Or (a :: b :: rest) pos) (tOr tA tB'):=by
 intro wh pins s σ H Q I h
 refine isTrue_or (thn (ha pins s σ H _ I h) λc s1 ⟨H1,I1,q1⟩=>?_)
 cases c with
 | true=>exact ⟨H1,I1,q1⟩
 | false=>exact hb wh pins s1 σ H1 Q I1 q1
theorem qH (ha:PT X a tA):PT X (.UnaryOp .Not a pos) (uj tA):=by
 intro pins s σ H Q I h
 exact isTrue_not (ha pins s σ H (λc H1=>Q (!c) H1) I h)
noncomputable def sZ (ta tb:TE):TE:=λσ H Q=>ta σ H λx H1=>∃ c,x=.bl c/\if c=true then tb σ H1 Q else Q (.bl false) H1
noncomputable def uE (ta tb:TE):TE:=λσ H Q=>ta σ H λx H1=>∃ c,x=.bl c/\if c=true then Q (.bl true) H1 else tb σ H1 Q
noncomputable def sN (ta:TE):TE:=λσ H Q=>ta σ H λx H1=>∃ c,x=.bl c/\Q (.bl (!c)) H1
theorem rH {op} {t:TE} (h:PE X a t):PE X (.BoolOp op [a] pos) t:=λpins s σ H Q I hw=>BoolOp_one (h pins s σ H Q I hw)
theorem nP (ha:PE X a ta) (hb:PE X (.BoolOp .And (b :: rest) pos) tb):PE X (.BoolOp .And (a :: b :: rest) pos) (sZ ta tb):=by
 intro pins s σ H Q I h
 refine BoolOp_and (thn (ha pins s σ H _ I h) λv s1 ⟨x,H1,I1,r1,q1⟩=>?_)
 obtain ⟨c,rfl,q1⟩:=q1
 cases r1
 refine wpAny_truthy_bool ?_
 cases c with
 | true=>exact hb pins s1 σ H1 Q I1 q1
 | false=>exact ⟨.bl false,H1,I1,rfl,q1⟩
theorem qw (ha:PE X a ta) (hb:PE X (.BoolOp .Or (b :: rest) pos) tb):PE X (.BoolOp .Or (a :: b :: rest) pos) (uE ta tb):=by
 intro pins s σ H Q I h
 refine BoolOp_or (thn (ha pins s σ H _ I h) λv s1 ⟨x,H1,I1,r1,q1⟩=>?_)
 obtain ⟨c,rfl,q1⟩:=q1
 cases r1
 refine wpAny_truthy_bool ?_
 cases c with
 | false=>exact hb pins s1 σ H1 Q I1 q1
 | true=>exact ⟨.bl true,H1,I1,rfl,q1⟩
theorem ri (ha:PE X a ta):PE X (.UnaryOp .Not a pos) (sN ta):=by
 intro pins s σ H Q I h
 refine UnaryOp_ (thn (ha pins s σ H _ I h) λv s1 ⟨x,H1,I1,r1,q1⟩=>?_)
 obtain ⟨c,rfl,q1⟩:=q1
 cases r1
 exact not_of (wpAny_truthy_bool ⟨.bl (!c),H1,I1,rfl,q1⟩)
noncomputable def tIf (t:TT) (ta tb:TE):TE:=λσ H Q=>t σ H λc H1=>if c=true then ta σ H1 Q else tb σ H1 Q
theorem jm {c:Expr} (hc:PT X c tA) (ha:PE X a ta) (hb:PE X b tb):PE X (.IfExp c a b pos) (tIf tA ta tb):=by
 intro pins s σ H Q I h
 refine wpAny_IfExp (thn (hc pins s σ H _ I h) λd s1 ⟨H1,I1,q1⟩=>?_)
 cases d with
 | true=>exact ha pins s1 σ H1 Q I1 q1
 | false=>exact hb pins s1 σ H1 Q I1 q1
end
noncomputable def SqL (K:PySem.W.Frag) (H:Hp) (a:Addr) (xs:List V):Prop:=
 Rd H a (.lst xs) \/
   ∃ (o:Obj) (its:Array Value) (n:Nat),K.lookup a=some o/\o.cls=.type "list" /\ o.dict=none/\o.data=.seq its n/\its.size<=sizeLine/\Vals xs its.toList
noncomputable def SqT (K:PySem.W.Frag) (H:Hp) (a:Addr) (xs:List V):Prop:=
 Rd H a (.tup xs) \/
   ∃ (o:Obj) (its:Array Value) (n:Nat),K.lookup a=some o/\o.cls=.type "tuple" /\ o.data=.seq its n/\its.size<=sizeLine/\Vals xs its.toList
noncomputable def uk:Value->Option V
 | .none=>some .non
 | .bool b=>some (.bl b)
 | .int i _=>some (.int i)
 | .str x _=>some (.str x)
 | .bytes b _=>some (.byt b)
 | .float b _=>some (.flt b)
 | .ref a=>some (.ref a)
 | .type n=>some (.ty n)
 | _=>none
theorem RelV.abs {x:V} {u:Value} (r:RelV x u):uk u=some x:=by
 cases x with
 | non=>cases r; rfl
 | bl _=>cases r; rfl
 | int _=>obtain ⟨t,rfl⟩:=r; rfl
 | str _=>obtain ⟨t,rfl⟩:=r; rfl
 | byt _=>obtain ⟨t,rfl⟩:=r; rfl
 | flt _=>obtain ⟨t,rfl⟩:=r; rfl
 | ref _=>cases r; rfl
 | ty _=>cases r; rfl
theorem RelV.inj {x y:V} {u:Value} (r:RelV x u) (q:RelV y u):x=y:=Option.some.inj (r.abs.symm.trans q.abs)
theorem Vals.inj:∀ {xs ys:List V} {us:List Value},Vals xs us->Vals ys us->xs=ys
 | _,_,_,.nil,.nil=>rfl
 | _,_,_,.cons r t,.cons r' t'=>by rw [r.inj r',Vals.inj t t']
section
variable {X:Cx} {pins:List (Addr × Obj)} {σ:St} {H:Hp} {s:Shared} {a:Addr} {xs ys:List V}
theorem SqL.of {K:PySem.W.Frag} (h:H a=some (.lst xs)):SqL K H a xs:=.inl (.inl h)
theorem SqT.of {K:PySem.W.Frag} (h:H a=some (.tup xs)):SqT K H a xs:=.inl (.inl h)
theorem Inv.list (I:Inv X pins σ H s) (h:SqL X.K H a xs):∃ its:List Value,Vals xs its/\PlainL s.heap a its.toArray/\xs.length<=sizeLine:=by
 rcases h with h | ⟨o,its,n,hk,hc,hd,hs,hz,r⟩
 · obtain ⟨z,its,n,r,e⟩:=h.ok I.hok
   exact ⟨its,r,⟨_,n,e,rfl,rfl,rfl⟩,z⟩
 · refine ⟨its.toList,r,⟨o,n,I.kIn a o hk,hc,hd,by simpa using hs⟩,?_⟩
   have e:=r.length
   simp only [Array.length_toList] at e
   omega
theorem Inv.tuple (I:Inv X pins σ H s) (h:SqT X.K H a xs):∃ its:List Value,Vals xs its/\IsTup s.heap a its.toArray/\xs.length<=sizeLine:=by
 rcases h with h | ⟨o,its,n,hk,hc,hs,hz,r⟩
 · obtain ⟨z,its,r,p⟩:=h.ok I.hok
   exact ⟨its,r,p,z⟩
 · refine ⟨its.toList,r,⟨o,I.kIn a o hk,hc,n,by simpa using hs⟩,?_⟩
   have e:=r.length
   simp only [Array.length_toList] at e
   omega
theorem Inv.eo (I:Inv X pins σ H s) (h:SqL X.K H a xs) (h':SqL X.K H a ys):xs=ys:=by
 obtain ⟨its,r,⟨o,n,e,_,_,d⟩,_⟩:=I.list h
 obtain ⟨its',r',⟨o',n',e',_,_,d'⟩,_⟩:=I.list h'
 rw [e] at e'; cases e'
 rw [d] at d'
 injection d' with d1 _
 have:its=its':=by simpa using congrArg Array.toList d1
 subst this
 exact r.inj r'
end
noncomputable abbrev Cx.fb (X:Cx) (E:Value->Shared->Prop):Cx:={ X with xe:=E }
noncomputable abbrev Cx.nox (X:Cx):Cx:=X.fb λ_ _=>False
theorem Cx.Ok.fb {X:Cx} (ok:X.Ok) (E:Value->Shared->Prop):(X.fb E).Ok:=
 ⟨ok.mod,ok.kind,ok.glob,ok.blt,ok.above,ok.inj,ok.has,ok.cab,ok.hd,ok.frames,ok.stk,ok.exf,ok.bs,ok.bsz,ok.noex,ok.exfs,ok.eT,ok.frf⟩
theorem Cx.Ok.cj {X:Cx} {E:Value->Shared->Prop} (ok:(X.fb E).Ok):X.Ok:=
 ⟨ok.mod,ok.kind,ok.glob,ok.blt,ok.above,ok.inj,ok.has,ok.cab,ok.hd,ok.frames,ok.stk,ok.exf,ok.bs,ok.bsz,ok.noex,ok.exfs,ok.eT,ok.frf⟩
section
variable {X:Cx} {pins:List (Addr × Obj)} {σ:St} {H:Hp} {s:Shared} {E:Value->Shared->Prop}
theorem Inv.fb (I:Inv X pins σ H s) (E:Value->Shared->Prop):Inv (X.fb E) pins σ H s:=⟨I.ok.fb E,I.os,I.bare,I.base,I.loc,I.cell,I.free,I.freeC,I.pin,I.hok,I.len⟩
theorem Inv.cj (I:Inv (X.fb E) pins σ H s):Inv X pins σ H s:=⟨I.ok.cj,I.os,I.bare,I.base,I.loc,I.cell,I.free,I.freeC,I.pin,I.hok,I.len⟩
theorem SP.cj {D:Ends} {f:Flow} {s':Shared} (h:SP (X.fb E) pins D f s'):SP X pins D f s':=by
 cases f with
 | next=>obtain ⟨σ',H',I,q⟩:=h; exact ⟨σ',H',I.cj,q⟩
 | brk=>obtain ⟨σ',H',I,q⟩:=h; exact ⟨σ',H',I.cj,q⟩
 | cont=>obtain ⟨σ',H',I,q⟩:=h; exact ⟨σ',H',I.cj,q⟩
 | ret u=>obtain ⟨v,σ',H',I,r,q⟩:=h; exact ⟨v,σ',H',I.cj,r,q⟩
theorem PE.nox {e:Expr} {t:TE} (h:PE X.nox e t):PE X e t:=λpins s σ H Q I hw=>
 wpAny_mono (h pins s σ H Q (I.fb _) hw) (λ_ _ ⟨v,H',I',r,q⟩=>⟨v,H',I'.cj,r,q⟩) λ_ _ z=>False.elim z
theorem PSs.nox {st:List Stmt} {t:TS} (h:PSs X.nox st t):PSs X st t:=λpins s σ H D I hw=>
 wpAny_mono (h pins s σ H D (I.fb _) hw) (λ_ _ q=>q.cj) λ_ _ z=>False.elim z
end
section
variable {X:Cx} {st:Stmt} {rest:List Stmt} {t u:TS} {e:Expr} {te:TE} {pos:Pos}
noncomputable def tV:TS:=λD σ H=>D.nx σ H
noncomputable def tK (t u:TS):TS:=λD σ H=>t { D with nx:=u D } σ H
theorem cy:PSs X [] tV:=λ_ _ σ H _ I h=>wpAny_execs_nil ⟨σ,H,I,h⟩
theorem bq (h1:PS X st t) (h2:PSs X rest u):PSs X (st :: rest) (tK t u):=by
 intro pins s σ H D I h
 refine wpAny_execs_cons (thn (h1 pins s σ H { D with nx:=u D } I h) λf s1 q=>?_)
 cases f with
 | next=>
   obtain ⟨σ',H',I',q⟩:=q
   exact h2 pins s1 σ' H' D I' q
 | ret v=>exact q
 | brk=>exact q
 | cont=>exact q
theorem bA (h1:PS X st t):PSs X [st] t:=by
 intro pins s σ H D I h
 refine wpAny_execs_cons (thn (h1 pins s σ H D I h) λf s1 q=>?_)
 cases f with
 | next=>exact wpAny_execs_nil q
 | ret v=>exact q
 | brk=>exact q
 | cont=>exact q
theorem Inv.quiet {pins:List (Addr × Obj)} {σ:St} {H:Hp} {s:Shared} (I:Inv X pins σ H s):interactive X.env=false:=by simp [interactive,I.ok.kind]
noncomputable def ua (te:TE):TS:=λD σ H=>te σ H λ_ H1=>D.nx σ H1
theorem cX (he:PE X e te) (hs:swapsWith e none pos.line X.env=pure false:=by rfl):PS X (.Expr e pos) (ua te):=by
 intro pins s σ H D I h
 exact wpAny_Expr_any (thn (he pins s σ H _ I h) λv s1 ⟨x,H1,I1,r1,q1⟩=>⟨σ,H1,I1,q1⟩) I.quiet hs
noncomputable def rG (te:TE):TS:=λD σ H=>te σ H D.rt
theorem bL (he:PE X e te):PS X (.Return (some e) pos) (rG te):=by
 intro pins s σ H D I h
 exact wpAny_Return_some (thn (he pins s σ H _ I h) λv s1 ⟨x,H1,I1,r1,q1⟩=>⟨x,σ,H1,I1,r1,q1⟩)
noncomputable def uF (c:TT) (t u:TS):TS:=λD σ H=>c σ H λb H1=>if b=true then t D σ H1 else u D σ H1
theorem gh {c:Expr} {a b:List Stmt} {tc:TT} (hc:PT X c tc) (ha:PSs X a t) (hb:PSs X b u):PS X (.If c a b pos) (uF tc t u):=by
 intro pins s σ H D I h
 refine wpAny_If (thn (hc pins s σ H _ I h) λd s1 ⟨H1,I1,q1⟩=>?_)
 cases d with
 | true=>exact ha pins s1 σ H1 D I1 q1
 | false=>exact hb pins s1 σ H1 D I1 q1
noncomputable def se:TS:=λ_ _ _=>False
theorem cW {sts:List Stmt}:PSs X sts se:=λ_ _ _ _ _ _ h=>h.elim
end
noncomputable abbrev TG:=V->St->Hp->(St->Hp->Prop)->Prop
noncomputable abbrev TGs:=List V->St->Hp->(St->Hp->Prop)->Prop
noncomputable def PG (X:Cx) (target:Expr) (t:TG):Prop:=
 ∀ (pins:List (Addr × Obj)) (s:Shared) (σ:St) (H:Hp) (v:V) (u:Value) (Q:St->Hp->Prop),Inv X pins σ H s->RelV v u->t v σ H Q ->
   wpAny (model X.prog X.w) X.A (assign target X.env u) (λ_ s'=>∃ σ' H',Inv X pins σ' H' s'/\Q σ' H') X.xe s
noncomputable def PGs (X:Cx) (ts:List Expr) (t:TGs):Prop:=
 ∀ (pins:List (Addr × Obj)) (s:Shared) (σ:St) (H:Hp) (vs:List V) (us:List Value) (Q:St->Hp->Prop),Inv X pins σ H s->Vals vs us->t vs σ H Q ->
   wpAny (model X.prog X.w) X.A (assignInOrder ((assignEach ts X.env).map (·.2)) us) (λ_ s'=>∃ σ' H',Inv X pins σ' H' s'/\Q σ' H') X.xe s
section
variable {X:Cx} {pos:Pos}
noncomputable def ql (i:Nat):TG:=λv σ H Q=>Q (σ.set i (some v)) H
theorem bz {i:Nat} {x:Str} (hN:X.N.Nodup) (hi:X.N[i]?=some x) (hx:Loc X.env.scope x) (hf:X.fn x=true\/X.env.scope.names.lookup x=some .local:=by first | exact .inl rfl | exact .inr rfl | assumption):PG X (.Name x pos) (ql i):=by
 intro pins s σ H v u Q I r h
 exact wpAny_assign_Name (dJ I hN hi hx r (λs' I'=>⟨_,H,I',h⟩) hf)
noncomputable def uT:TGs:=λvs σ H Q=>vs=[]/\Q σ H
noncomputable def ub (t:TG) (u:TGs):TGs:=λvs σ H Q=>∃ v r,vs=v :: r/\t v σ H λσ' H'=>u r σ' H' Q
theorem k6:PGs X [] uT:=by
 intro pins s σ H vs us Q I r h
 obtain ⟨e,h⟩:=h
 subst e
 cases r
 exact assignInOrder_nil ⟨σ,H,I,h⟩
theorem cH {e:Expr} {es:List Expr} {t:TG} {u:TGs} (h1:PG X e t) (h2:PGs X es u)
   (hs:(assignEach (e :: es) X.env).map (·.2)=assign e X.env :: (assignEach es X.env).map (·.2):=by rfl):PGs X (e :: es) (ub t u):=by
 intro pins s σ H vs us Q I r h
 obtain ⟨v,vr,e1,h⟩:=h
 subst e1
 cases r with
 | cons r rr=>
   rw [hs]
   refine assignInOrder_cons (thn (h1 pins s σ H _ _ _ I r h) λ_ s1 ⟨σ1,H1,I1,q1⟩=>?_)
   exact h2 pins s1 σ1 H1 _ _ Q I1 rr q1
noncomputable def uK (K:PySem.W.Frag) (n:Nat) (t:TGs):TG:=λv σ H Q=>∃ a xs,v=.ref a/\SqT K H a xs/\xs.length=n/\t xs σ H Q
theorem mI {es:List Expr} {k:Nat} {t:TGs} {n:Nat} (hc:X.calm=true) (h:PGs X es t)
   (hn:(assignEach es X.env).length=n:=by rfl) (hst:(assignEach es X.env).findIdx? (·.1)=none:=by rfl):PG X (.Tuple es k pos) (uK X.K n t):=by
 intro pins s σ H v u Q I r hw
 obtain ⟨a,xs,e1,hq,hl,hw⟩:=hw
 subst e1
 cases r
 obtain ⟨its,rv,ht,hz⟩:=I.tuple hq
 refine assign_Tuple_tuple (I.ok.hd hc) ht (by simp [hn,<- hl,rv.length]) hst λh' hx=>?_
 have I1:Inv X pins σ H { s with heap:=h' }:=I.kept (t':=s.toks) λb o e=>hx b o (Nat.ne_of_lt (Heap.lt_size e)) e
 exact h pins _ σ H xs _ Q I1 (by simpa using rv) hw
noncomputable def t4 (te:TE) (g:TG):TS:=λD σ H=>te σ H λx H1=>g x σ H1 D.nx
theorem iy {i:Nat} {x:Str} {e:Expr} {te:TE} {pos':Pos} (hN:X.N.Nodup) (hi:X.N[i]?=some x) (hx:Loc X.env.scope x) (he:PE X e te) (hs:swapsWith e (some (.Name x pos')) pos.line X.env=pure false:=by rfl) (hf:X.fn x=true\/X.env.scope.names.lookup x=some .local:=by first | exact .inl rfl | exact .inr rfl | assumption) :
   PS X (.Assign [.Name x pos'] e pos) (t4 te (ql i)):=by
 intro pins s σ H D I h
 refine wpAny_Assign_Name (thn (he pins s σ H _ I h) λv s1 ⟨y,H1,I1,r1,q1⟩=>?_) hs
 exact dJ I1 hN hi hx r1 (λs2 I2=>⟨_,H1,I2,q1⟩) hf
end
section
variable {X:Cx} {pos:Pos}
end
structure It where
 go:Nat->Hp->Prop
 yld:Nat->Hp->V->Hp->Prop
 stop:Nat->Hp->Prop
noncomputable def gF (X:Cx) (pins:List (Addr × Obj)) (H:Hp) (b:Addr):Prop:=
 H b=none/\b ≠ X.env.locals/\b ∉ X.fs/\(b ∈ X.ex\/X.s₀.heap.objs.size<=b)/\(∀ x c,X.env.cells.lookup x=some c->c ≠ b)/\∀ p ∈ X.pn++pins,p.1 ≠ b
theorem Inv.ly {X:Cx} {pins:List (Addr × Obj)} {σ:St} {H H':Hp} {s:Shared} {b:Addr} (I:Inv X pins σ H s) (hb:s.heap.objs.size<=b) (hn:H' b=none):gF X pins H' b:=by
 refine ⟨hn,Nat.ne_of_gt (Nat.lt_of_lt_of_le I.lt hb),I.uA hb,.inr (Nat.le_trans I.sz hb),λx c e z=>?_,λp hp z=>?_⟩
 · obtain ⟨v,q⟩:=I.cell x c e
   exact absurd (Nat.lt_of_lt_of_le q.lt (by rw [z]; exact hb)) (Nat.lt_irrefl _)
 · exact absurd (Nat.lt_of_lt_of_le (Heap.lt_size (I.pin p hp).1) (by rw [z]; exact hb)) (Nat.lt_irrefl _)
noncomputable def uN (X:Cx):Prop:=∃ h o u vs,X.A.handled=some (.ref h)/\X.H₀ h=some (.frz o u)/\o.data=.fields vs/\vs[2]?=some .none
noncomputable def Ck (kd:Bool) (X:Cx):Prop:=X.calm=true\/(kd=true/\uN X)
theorem Ck.calm {X:Cx} (h:Ck false X):X.calm=true:=h.resolve_right λz=>nomatch z.1
structure Turn (P:Program) (w:World) (K:PySem.W.Frag) (kd:Bool) (tg:Expr) (J:It) (fp:List Addr) (it:Addr) (tn:Nat->Heap->Prop):Prop where
 mem:it ∈ fp
 obj:∀ i h,tn i h->∀ b ∈ fp,∃ o,h.get? b=some o/\∀ v,o.data ≠ .cell v
 keep:∀ i h h',tn i h->(∀ b ∈ fp,∀ o,h.get? b=some o->h'.get? b=some o)->tn i h'
 item:∀ (X:Cx),X.prog=P->X.w=w->X.K=K->Ck kd X->∀ (i:Nat) (pins:List (Addr × Obj)) (s:Shared) (σ:St) (H:Hp) (E:Value->Shared->Prop),Inv X pins σ H s->(∀ b ∈ fp,gF X pins H b)->tn i s.heap->J.go i H ->
   wpAny (model P w) X.A (pyNext (.ref it)) (λr s1=>∃ u,r=some u /\
     wpAny (model P w) X.A (letOwnedTupleGo tg (.ref it) u) (λ_ s2=>∃ x H',Inv X pins σ H' s2/\RelV x u/\J.yld i H x H'/\tn (i + 1) s2.heap/\∀ b ∈ fp,H' b=none) E s1) E s
 done:∀ (X:Cx),X.prog=P->X.w=w->X.K=K->Ck kd X->∀ (i:Nat) (pins:List (Addr × Obj)) (s:Shared) (σ:St) (H:Hp) (E:Value->Shared->Prop),Inv X pins σ H s->(∀ b ∈ fp,gF X pins H b)->tn i s.heap->J.stop i H ->
   wpAny (model P w) X.A (pyNext (.ref it)) (λr s1=>r=none/\Inv X pins σ H s1) E s
 self:∀ (A:Around) (i:Nat) (s:Shared) (Q:Value->Shared->Prop) (E:Value->Shared->Prop),tn i s.heap->Q (.ref it) s->wpAny (model P w) A (pyIter (.ref it)) Q E s
noncomputable abbrev TI:=St->Hp->(It->Hp->Prop)->Prop
noncomputable def PIE (X:Cx) (pins:List (Addr × Obj)) (σ:St) (tg:Expr) (R:It->Hp->Prop) (itv:Value) (s2:Shared):Prop:=
 ∃ (kd:Bool) (it:Addr) (fp:List Addr) (tn:Nat->Heap->Prop) (J:It) (H':Hp),itv=.ref it/\Inv X pins σ H' s2/\Ck kd X/\Turn X.prog X.w X.K kd tg J fp it tn/\tn 0 s2.heap/\(∀ b ∈ fp,gF X pins H' b)/\R J H'
noncomputable def PI (X:Cx) (tg iter:Expr) (wi:TI):Prop:=
 ∀ (pins:List (Addr × Obj)) (s:Shared) (σ:St) (H:Hp) (R:It->Hp->Prop),Inv X pins σ H s->wi σ H R ->
   wpAny (model X.prog X.w) X.A (eval iter X.env) (λv s1=>wpAny (model X.prog X.w) X.A (pyIter v) (PIE X pins σ tg R) X.xe s1) X.xe s
theorem qy {M:Model} {A:Around} {E:Value->Shared->Prop} {s:Shared} {tg:Expr} {it:Addr} {u:Value} {o:Obj} {n:String} {vs:Array Value} {Q:Unit->Shared->Prop} (ho:s.heap.get? it=some o) (hc:o.cls=.type n) (hd:o.data=.fields vs)
   (hn:["enumerate","zip","dict_itemiterator","dict_reverseitemiterator","odict_iterator","itertools.zip_longest","itertools.pairwise"].contains n=false) (hQ:Q () s):wpAny M A (letOwnedTupleGo tg (.ref it) u) Q E s:=by
 unfold letOwnedTupleGo
 cases tg <;> first
   | exact wpAny_pure hQ
   | (cases u <;> first
       | exact wpAny_pure hQ
       | (refine wpAny_bind (wpAny_load ho ?_)
          rw [hc,hd]
          show wpAny M A (if (["enumerate","zip","dict_itemiterator","dict_reverseitemiterator","odict_iterator","itertools.zip_longest","itertools.pairwise"].contains n && vs[0]? == some (rawInt _))=true then _ else _) Q E s
          rw [if_neg (by intro h; rw [hn,Bool.false_and] at h; cases h)]
          exact wpAny_pure hQ))
noncomputable def Itl (K:PySem.W.Frag) (a:Addr):It:=
 ⟨λi H=>∃ xs x,SqL K H a xs/\xs[i]?=some x,λi H x H'=>H'=H/\∀ xs,SqL K H a xs->xs[i]?=some x,λi H=>∃ xs,SqL K H a xs/\xs.length<=i⟩
noncomputable def Itr (lo:Int) (n:Nat):It:=⟨λi _=>i < n,λi H x H'=>H'=H/\x=.int (lo + i),λi _=>n<=i⟩
theorem lY {P:Program} {w:World} {K:PySem.W.Frag} {tg:Expr} (a it:Addr):Turn P w K false tg (Itl K a) [it] it (λi h=>h.IsListIter it a i) where
 mem:=by simp
 obj:=λi h st b hb=>by
   have e:b=it:=by simpa using hb
   subst e
   obtain ⟨o,e,c,d⟩:=st
   exact ⟨o,e,λv z=>by rw [d] at z; cases z⟩
 keep:=λi h h' st k=>st.at λo e=>k it (by simp) o e
 item:=by
   intro X hP hw hK hc i pins s σ H E I hf st hg
   subst hP hw hK
   obtain ⟨xs,x,hq,hx⟩:=hg
   obtain ⟨its,rv,p,hz⟩:=I.list hq
   obtain ⟨u,hu,ru⟩:=rv.get hx
   obtain ⟨f0,f1,f2,f3,f4,f5⟩:=hf it (by simp)
   refine wpAny_pyNext_list_item st p.isList (x:=u) (by simpa using hu) λh' st' sb=>?_
   have I1:Inv X pins σ H { s with heap:=h' }:=I.turned (t':=s.toks) (λb o hb e=>(sb.2 b hb).trans e) f0 f1 f3 f4 f5
   obtain ⟨o,e,c,d⟩:=id st'
   exact ⟨u,rfl,qy (s:={ s with heap:=h' }) e c d (by decide) ⟨x,H,I1,ru,⟨rfl,λys hy=>by rw [I.eo hy hq]; exact hx⟩,st',λb hb=>(hf b hb).1⟩⟩
 done:=by
   intro X hP hw hK hc i pins s σ H E I hf st hg
   subst hP hw hK
   obtain ⟨xs,hq,hx⟩:=hg
   obtain ⟨its,rv,p,hz⟩:=I.list hq
   obtain ⟨f0,f1,f2,f3,f4,f5⟩:=hf it (by simp)
   have hl:=rv.length
   exact wpAny_pyNext_list_end (I.ok.hd hc.calm) st p.isList (by simp; omega) λh' eb=>⟨rfl,I.turned (t':=s.toks) (λb o hb e=>eb b o hb e) f0 f1 f3 f4 f5⟩
 self:=λ_ _ _ _ _ st h=>wpAny_pyIter_listiter st h
theorem jK {P:Program} {w:World} {K:PySem.W.Frag} {tg:Expr} (it:Addr) (lo:Int) (n:Nat):Turn P w K true tg (Itr lo n) [it] it (λi h=>IsRangeIter h it (lo + (i:Nat) * 1) ((n:Int) - (i:Nat)) 1) where
 mem:=by simp
 obj:=λi h st b hb=>by
   have e:b=it:=by simpa using hb
   subst e
   exact ⟨_,st,λv z=>by
     have z':Data.fields _=Data.cell v:=z
     cases z'⟩
 keep:=λi h h' st k=>k it (by simp) _ st
 item:=by
   intro X hP hw hK hc i pins s σ H E I hf st hg
   subst hP hw hK
   obtain ⟨f0,f1,f2,f3,f4,f5⟩:=hf it (by simp)
   refine wpAny_pyNext_range_item st (by have:i < n:=hg; omega) λh' st0 sb=>?_
   have st':IsRangeIter h' it (lo + ((i + 1:Nat):Int) * 1) ((n:Int) - ((i + 1:Nat):Int)) 1:=by
     have e1:lo + ((i + 1:Nat):Int) * 1=lo + (i:Nat) * 1 + 1:=by omega
     have e2:(n:Int) - ((i + 1:Nat):Int)=(n:Int) - (i:Nat) - 1:=by omega
     rw [e1,e2]; exact st0
   have I1:Inv X pins σ H { s with heap:=h',toks:=s.toks + 1 }:=I.turned (λb o hb e=>(sb.2 b hb).trans e) f0 f1 f3 f4 f5
   refine ⟨_,rfl,qy (s:={ s with heap:=h',toks:=s.toks + 1 }) (n:="range_iterator") st' rfl rfl (by decide) ⟨.int (lo + i),H,I1,⟨s.toks,?_⟩,⟨rfl,rfl⟩,st',λb hb=>(hf b hb).1⟩⟩
   rw [Int.mul_one]
 done:=by
   intro X hP hw hK hc i pins s σ H E I hf st hg
   subst hP hw hK
   obtain ⟨f0,f1,f2,f3,f4,f5⟩:=hf it (by simp)
   rcases hc with hc | ⟨_,q,o,u,vs,e1,e2,e3,e4⟩
   · exact wpAny_pyNext_range_end (I.ok.hd hc) st (by have:n<=i:=hg; omega) λh' eb=>⟨rfl,I.turned (t':=s.toks) (λb o hb e=>eb b o hb e) f0 f1 f3 f4 f5⟩
   · have e5:=I.hok q _ (I.base.frzs q o u e2)
     exact Hx.j5 e1 e5.1 e3 e4 st (by have:n<=i:=hg; omega) λh' eb=>⟨rfl,I.turned (t':=s.toks) (λb o hb e=>eb b o hb e) f0 f1 f3 f4 f5⟩
 self:=λ_ _ _ _ _ st h=>wpAny_pyIter_rangeiter st h
section
variable {X:Cx} {tg:Expr}
noncomputable def tU (K:PySem.W.Frag) (tl:TE):TI:=λσ H R=>tl σ H λx H1=>∃ a,x=.ref a/\(∃ xs,SqL K H1 a xs)/\R (Itl K a) H1
theorem kI {l:Expr} {tl:TE} (hc:X.calm=true) (hl:PE X l tl):PI X tg l (tU X.K tl):=by
 intro pins s σ H R I h
 refine thn (hl pins s σ H _ I h) λv s1 ⟨x,H1,I1,r1,q1⟩=>?_
 obtain ⟨a,e,⟨xs,hq⟩,q⟩:=q1
 subst e
 cases r1
 obtain ⟨its,rv,p,hz⟩:=I1.list hq
 refine wpAny_pyIter_list p.isList ?_
 refine ⟨false,s1.heap.objs.size,[s1.heap.objs.size],_,_,H1,rfl,I1.kept (t':=s1.toks) λb o e=>Heap.get?_push_of_some _ e,.inl hc,lY a _,⟨_,Heap.get?_push_size _ rfl,rfl,rfl⟩,λb hb=>?_,q⟩
 have e:b=s1.heap.objs.size:=by simpa using hb
 subst e
 exact I1.ly (Nat.le_refl _) (I1.hok.fresh (Nat.le_refl _))
theorem jx {pins:List (Addr × Obj)} {σ:St} {H:Hp} {s:Shared} {R:It->Hp->Prop} {E:Value->Shared->Prop} {lo hi:Int} {t u v:Tok} {tk:Nat} (hc:Ck true X) (I:Inv X pins σ H s) (h1:-(2 ^ 62)<=lo) (h2:lo < 2 ^ 62) (h3:-(2 ^ 62)<=hi) (h4:hi < 2 ^ 62)
   (q:R (Itr lo (hi - lo).toNat) H):wpAny (model X.prog X.w) X.A (pyIter (.ref s.heap.objs.size)) (PIE X pins σ tg R) E { s with heap:=s.heap.push { cls:=.type "range",data:=.fields #[.int lo t,.int hi u,.int 1 v] },toks:=tk }:=by
 refine wpAny_pyIter_range (IsRange.new ..) (small_one h1 h2 h3 h4) ?_
 have I1:Inv X pins σ H { s with heap:=s.heap.push { cls:=.type "range",data:=.fields #[.int lo t,.int hi u,.int 1 v] },toks:=tk }:=I.kept λb o e=>Heap.get?_push_of_some _ e
 refine ⟨true,(s.heap.push { cls:=.type "range",data:=.fields #[.int lo t,.int hi u,.int 1 v] }).objs.size,[(s.heap.push { cls:=.type "range",data:=.fields #[.int lo t,.int hi u,.int 1 v] }).objs.size],_,_,H,rfl,
   I1.kept (t':=tk) λb o e=>Heap.get?_push_of_some _ e,hc,jK _ lo (hi - lo).toNat,?_,λb hb=>?_,q⟩
 · have e1:lo + ((0:Nat):Int) * 1=lo:=by simp
   have e2:(((hi - lo).toNat:Nat):Int) - ((0:Nat):Int)=Builtin.Range.rangeSize lo hi 1:=by rw [rangeSize_one]; split <;> omega
   show IsRangeIter _ _ (lo + ((0:Nat):Int) * 1) ((((hi - lo).toNat:Nat):Int) - ((0:Nat):Int)) 1
   rw [e1,e2]
   exact Heap.get?_push_size _ rfl
 · have e:b=(s.heap.push { cls:=.type "range",data:=.fields #[.int lo t,.int hi u,.int 1 v] }).objs.size:=by simpa using hb
   subst e
   exact I1.ly (Nat.le_refl _) (I1.hok.fresh (Nat.le_refl _))
noncomputable def tF (ta:TA):TI:=λσ H R=>ta σ H λvs H1=>∃ j:Int,vs=[.int j]/\-(2 ^ 62)<=j/\j < 2 ^ 62/\R (Itr 0 j.toNat) H1
noncomputable def sr (ta:TA):TI:=λσ H R=>ta σ H λvs H1=>∃ i j:Int,vs=[.int i,.int j]/\(-(2 ^ 62)<=i/\i < 2 ^ 62/\-(2 ^ 62)<=j/\j < 2 ^ 62)/\R (Itr i (j - i).toNat) H1
theorem gH {a:Expr} {ta:TA} {p pos:Pos} (hc:Ck true X) (hg:Gl X "range") (hm:X.mg "range" = none) (ha:PA X [a] ta) (hs:starEach [a] X.env=[(false,eval a X.env)]:=by rfl):PI X tg (.Call (.Name "range" p) [a] [] pos) (tF ta):=by
 intro pins s σ H R I h
 refine Call_ (dq I hg hm boot_range (PyProof.Rows.callWith_type1 (thn (ha pos pins s σ H _ I h) λus s1 ⟨vs,H1,I1,r1,q1⟩=>?_) hs rfl))
 obtain ⟨j,e,q1,q2,q⟩:=q1
 subst e
 cases r1 with
 | cons r rr=>
   cases rr
   obtain ⟨t,rfl⟩:=r
   exact call_range_1 (jx hc I1 (by omega) (by omega) q1 q2 (by simpa using q))
theorem lR {a b:Expr} {ta:TA} {p pos:Pos} (hc:Ck true X) (hg:Gl X "range") (hm:X.mg "range" = none) (ha:PA X [a,b] ta) (hs:starEach [a,b] X.env=[(false,eval a X.env),(false,eval b X.env)]:=by rfl) (hs2:starEach [b] X.env=[(false,eval b X.env)]:=by rfl) :
   PI X tg (.Call (.Name "range" p) [a,b] [] pos) (sr ta):=by
 intro pins s σ H R I h
 refine Call_ (dq I hg hm boot_range (PyProof.Rows.callWith_type1 (thn (ha pos pins s σ H _ I h) λus s1 ⟨vs,H1,I1,r1,q1⟩=>?_) (by rw [hs,hs2]) (by rw [hs2]; rfl)))
 obtain ⟨i,j,e,⟨q1,q2,q3,q4⟩,q⟩:=q1
 subst e
 cases r1 with
 | cons r rr=>
   cases rr with
   | cons r' rr=>
     cases rr
     obtain ⟨t,rfl⟩:=r
     obtain ⟨t',rfl⟩:=r'
     exact call_range_2 (jx hc I1 q1 q2 q3 q4 q)
noncomputable def uR (wi:TI) (g:TG) (tb:TS):TS:=λD σ H=>wi σ H λJ H1=>∃ W:Nat->Nat->St->Hp->Prop,(∃ m,W 0 m σ H1)/\∀ i m σ H,W i m σ H ->
 (J.stop i H/\D.nx σ H)\/(J.go i H/\∃ N:St->Hp->Prop,(∀ σ' H',N σ' H'->∃ m',m' < m/\W (i + 1) m' σ' H')/\∀ x H',J.yld i H x H'->g x σ H' λσ2 H2=>tb { D with nx:=N,ct:=N,bk:=D.nx } σ2 H2)
noncomputable def dF (fp:List Addr) (h:Heap):List (Addr × Obj):=fp.filterMap λb=>(h.get? b).map λo=>(b,o)
theorem a8 {fp:List Addr} {h:Heap} {b:Addr} {o:Obj} (hb:b ∈ fp) (e:h.get? b=some o):(b,o) ∈ dF fp h:=List.mem_filterMap.mpr ⟨b,hb,by rw [e]; rfl⟩
theorem lC {fp:List Addr} {h:Heap} {p:Addr × Obj} (hp:p ∈ dF fp h):p.1 ∈ fp/\h.get? p.1=some p.2:=by
 obtain ⟨b,hb,e⟩:=List.mem_filterMap.mp hp
 cases q:h.get? b with
 | none=>rw [q] at e; cases e
 | some o=>
   rw [q] at e
   have e':(b,o)=p:=Option.some.inj e
   subst e'
   exact ⟨hb,q⟩
theorem Inv.pinned {pins:List (Addr × Obj)} {σ:St} {H:Hp} {s:Shared} {fp:List Addr} (I:Inv X pins σ H s) (hf:∀ b ∈ fp,gF X pins H b) (ho:∀ b ∈ fp,∃ o,s.heap.get? b=some o/\∀ v,o.data ≠ .cell v):Inv X (pins++dF fp s.heap) σ H s:=
 I.kW λp hp=>(List.mem_append.mp hp).elim (λz=>I.pin p (List.mem_append_right _ z)) λz=>by
   obtain ⟨hb,e⟩:=lC z
   obtain ⟨f0,f1,f2,_⟩:=hf p.1 hb
   obtain ⟨o,e',d⟩:=ho p.1 hb
   rw [e] at e'; cases e'
   exact ⟨e,f0,f1,f2,d⟩
theorem Inv.cc {pins pl:List (Addr × Obj)} {σ:St} {H:Hp} {s:Shared} (I:Inv X (pins++pl) σ H s):Inv X pins σ H s:=I.kW λp hp=>I.pin p (List.mem_append_right _ (List.mem_append_left _ hp))
theorem jR {iter:Expr} {body:List Stmt} {wi:TI} {g:TG} {tb:TS} {pos:Pos} (hp:PassesOwn (model X.prog X.w) X.A X.env X.xe) (hi:PI X tg iter wi) (hg:PG X tg g) (hb:PSs X body tb)
   (hs:∀ x,foldedSetIterable iter X.env x=pure x:=by intro _; rfl):PS X (.For tg iter body [] pos) (uR wi g tb):=by
 intro pins s σ H D I h
 refine wpAny_For (thn (hi pins s σ H _ I h) λv s1 h1=>thn h1 λitv s2 h2=>?_) hs
 obtain ⟨kd,it,fp,tn,J,H2,e,I2,hc,T,st2,f2,W,⟨m0,w0⟩,turn⟩:=h2
 subst e
 have stat:∀ {H':Hp},(∀ b ∈ fp,H' b=none)->∀ b ∈ fp,gF X pins H' b:=λhn b hb=>⟨hn b hb,(f2 b hb).2⟩
 refine codeAny_forLoop_any (λn s'=>∃ i σ' H',Inv X pins σ' H' s'/\tn i s'.heap/\(∀ b ∈ fp,H' b=none)/\W i n σ' H') ?_ m0 ⟨0,σ,H2,I2,st2,λb hb=>(f2 b hb).1,w0⟩
 rintro n s3 ⟨i,σ3,H3,I3,st3,fr3,w3⟩
 rcases turn i n σ3 H3 w3 with ⟨stop,qn⟩ | ⟨go,N,hN,step⟩
 · refine wpAny_passesOwn hp (thn (T.done X rfl rfl rfl hc i pins s3 σ3 H3 X.xe I3 (stat fr3) st3 stop) λr s4 ⟨hr,I4⟩=>?_)
   subst hr
   exact wpAny_execs_nil ⟨σ3,H3,I4,qn⟩
 · refine wpAny_passesOwn hp (thn (T.item X rfl rfl rfl hc i pins s3 σ3 H3 X.xe I3 (stat fr3) st3 go) λr s4 ⟨u,hr,h4⟩=>?_)
   subst hr
   refine wpAny_passesOwn hp (thn h4 λ_ s5 ⟨x,H5,I5,r5,y5,st5,fr5⟩=>?_)
   have I5':=I5.pinned (stat fr5) (T.obj _ _ st5)
   refine wpAny_passesOwn hp (thn (hg _ s5 σ3 H5 x u _ I5' r5 (step x H5 y5)) λ_ s6 ⟨σ6,H6,I6,q6⟩=>?_)
   refine wpAny_passesOwn hp (thn (hb _ s6 σ6 H6 _ I6 q6) λf s7 q7=>?_)
   have again:∀ {σ7:St} {H7:Hp},Inv X (pins++dF fp s5.heap) σ7 H7 s7->N σ7 H7->∃ m,m < n/\∃ i σ' H',Inv X pins σ' H' s7/\tn i s7.heap/\(∀ b ∈ fp,H' b=none)/\W i m σ' H':=λ{σ7 H7} I7 n7=>by
     obtain ⟨m',hm,w7⟩:=hN σ7 H7 n7
     refine ⟨m',hm,i + 1,σ7,H7,I7.cc,T.keep _ _ _ st5 λb hb o e=>(I7.pin (b,o) (List.mem_append_right _ (List.mem_append_right _ (a8 hb e)))).1,λb hb=>?_,w7⟩
     obtain ⟨o,e,d⟩:=T.obj _ _ st5 b hb
     exact (I7.pin (b,o) (List.mem_append_right _ (List.mem_append_right _ (a8 hb e)))).2.1
   cases f with
   | next=>obtain ⟨σ7,H7,I7,n7⟩:=q7; exact again I7 n7
   | cont=>obtain ⟨σ7,H7,I7,n7⟩:=q7; exact again I7 n7
   | brk=>obtain ⟨σ7,H7,I7,q7⟩:=q7; exact ⟨σ7,H7,I7.cc,q7⟩
   | ret v=>obtain ⟨x7,σ7,H7,I7,r7,q7⟩:=q7; exact ⟨x7,σ7,H7,I7.cc,r7,q7⟩
end
noncomputable abbrev R2:=V->V->Hp->VK->Prop
noncomputable def OpR (X:Cx) (f:Value->Value->Sem Value) (r:R2):Prop:=
 ∀ (pins:List (Addr × Obj)) (s:Shared) (σ:St) (H:Hp) (x y:V) (v u:Value) (Q:VK),Inv X pins σ H s->RelV x v->RelV y u->r x y H Q ->
   wpAny (model X.prog X.w) X.A (f v u) (EP X pins σ Q) X.xe s
noncomputable def UnR (X:Cx) (f:Value->Sem Value) (r:V->Hp->VK->Prop):Prop:=
 ∀ (pins:List (Addr × Obj)) (s:Shared) (σ:St) (H:Hp) (x:V) (v:Value) (Q:VK),Inv X pins σ H s->RelV x v->r x H Q ->
   wpAny (model X.prog X.w) X.A (f v) (EP X pins σ Q) X.xe s
noncomputable def cR (X:Cx) (f:Value) (r:List V->Hp->VK->Prop):Prop:=
 ∀ (pins:List (Addr × Obj)) (s:Shared) (σ:St) (H:Hp) (xs:List V) (us:List Value) (Q:VK),Inv X pins σ H s->Vals xs us->r xs H Q ->
   wpAny (model X.prog X.w) X.A (call f us) (EP X pins σ Q) X.xe s
noncomputable def tOp (r:R2) (ta tb:TE):TE:=λσ H Q=>ta σ H λx H1=>tb σ H1 λy H2=>r x y H2 Q
noncomputable def tUn (r:V->Hp->VK->Prop) (ta:TE):TE:=λσ H Q=>ta σ H λx H1=>r x H1 Q
noncomputable def rI (C:Int->Int->Prop) (g:Int->Int->V):R2:=λx y H Q=>∃ i j,x=.int i/\y=.int j/\C i j/\Q (g i j) H
noncomputable def rI0 (g:Int->Int->V):R2:=λx y H Q=>∃ i j,x=.int i/\y=.int j/\Q (g i j) H
noncomputable def rU (g:Int->V):V->Hp->VK->Prop:=λx H Q=>∃ i,x=.int i/\Q (g i) H
section
variable {X:Cx} {a b c:Expr} {ta tb tc:TE} {pos:Pos}
theorem qP (ha:PE X a ta) (hb:PE X b tb) {pins:List (Addr × Obj)} {s:Shared} {σ:St} {H:Hp} {R:V->V->Hp->Prop} (I:Inv X pins σ H s)
   (h:ta σ H λx H1=>tb σ H1 λy H2=>R x y H2) {Q:Value->Shared->Prop} {f:Value->Value->Sem Value}
   (hf:∀ v u s2 x y H2,Inv X pins σ H2 s2->RelV x v->RelV y u->R x y H2->wpAny (model X.prog X.w) X.A (f v u) Q X.xe s2) :
   wpAny (model X.prog X.w) X.A (eval a X.env) (λv s₁=>wpAny (model X.prog X.w) X.A (eval b X.env) (λu s₂=>wpAny (model X.prog X.w) X.A (f v u) Q X.xe s₂) X.xe s₁) X.xe s:=by
 refine thn (ha pins s σ H _ I h) λv s1 ⟨x,H1,I1,r1,q1⟩=>?_
 refine thn (hb pins s1 σ H1 _ I1 q1) λu s2 ⟨y,H2,I2,r2,q2⟩=>?_
 exact hf v u s2 x y H2 I2 r1 r2 q2
theorem dg {op:Operator} {r:R2} (ho:OpR X (binaryOp op) r) (ha:PE X a ta) (hb:PE X b tb):PE X (.BinOp a op b pos) (tOp r ta tb):=by
 intro pins s σ H Q I h
 exact wpAny_BinOp (qP ha hb I h λv u s2 x y H2 I2 rx ry q=>ho pins s2 σ H2 x y v u Q I2 rx ry q)
theorem sU {op:UnaryOp} {r:V->Hp->VK->Prop} (ho:UnR X (unaryOp op) r) (ha:PE X a ta):PE X (.UnaryOp op a pos) (tUn r ta):=by
 intro pins s σ H Q I h
 exact UnaryOp_ (thn (ha pins s σ H _ I h) λv s1 ⟨x,H1,I1,r1,q1⟩=>ho pins s1 σ H1 x v Q I1 r1 q1)
theorem opI {f:Value->Value->Sem Value} {C:Int->Int->Prop} {g:Int->Int->Int}
   (rule:∀ (i j:Int) (t u:Tok) (s:Shared) (Q:Value->Shared->Prop) (E:Value->Shared->Prop),C i j->Q (.int (g i j) s.toks) { s with toks:=s.toks + 1 }->wpAny (model X.prog X.w) X.A (f (.int i t) (.int j u)) Q E s) :
   OpR X f (rI C λi j=>.int (g i j)):=by
 intro pins s σ H x y v u Q I rx ry h
 obtain ⟨i,j,rfl,rfl,hc,q⟩:=h
 obtain ⟨t,rfl⟩:=rx
 obtain ⟨t',rfl⟩:=ry
 exact rule i j t t' s _ _ hc ⟨.int (g i j),H,I.tok _,⟨_,rfl⟩,q⟩
theorem pg {f:Value->Value->Sem Value} {g:Int->Int->Int}
   (rule:∀ (i j:Int) (t u:Tok) (s:Shared) (Q:Value->Shared->Prop) (E:Value->Shared->Prop),Q (.int (g i j) s.toks) { s with toks:=s.toks + 1 }->wpAny (model X.prog X.w) X.A (f (.int i t) (.int j u)) Q E s) :
   OpR X f (rI0 λi j=>.int (g i j)):=by
 intro pins s σ H x y v u Q I rx ry h
 obtain ⟨i,j,rfl,rfl,q⟩:=h
 obtain ⟨t,rfl⟩:=rx
 obtain ⟨t',rfl⟩:=ry
 exact rule i j t t' s _ _ ⟨.int (g i j),H,I.tok _,⟨_,rfl⟩,q⟩
theorem pX {f:Value->Value->Sem Value} {g:Int->Int->Bool}
   (rule:∀ (i j:Int) (t u:Tok) (s:Shared) (Q:Value->Shared->Prop) (E:Value->Shared->Prop),Q (.bool (g i j)) s->wpAny (model X.prog X.w) X.A (f (.int i t) (.int j u)) Q E s) :
   OpR X f (rI0 λi j=>.bl (g i j)):=by
 intro pins s σ H x y v u Q I rx ry h
 obtain ⟨i,j,rfl,rfl,q⟩:=h
 obtain ⟨t,rfl⟩:=rx
 obtain ⟨t',rfl⟩:=ry
 exact rule i j t t' s _ _ ⟨.bl (g i j),H,I,rfl,q⟩
noncomputable def pK (i j:Int):Prop:=0<=j/\j<=1000000/\i.natAbs < 2 ^ 64
theorem jJ (k:Nat):(0:Int)<=2 ^ k:=by
 rw [two_pow_cast]
 exact Int.natCast_nonneg _
theorem iH:OpR X (binaryOp .Add) (rI0 λi j=>.int (i + j)):=pg λ_ _ _ _ _ _ _ q=>add_int q
theorem rW:OpR X (binaryOp .Sub) (rI0 λi j=>.int (i - j)):=pg λ_ _ _ _ _ _ _ q=>sub_int q
theorem kL:OpR X (binaryOp .Mod) (rI (λ_ j=>j ≠ 0) λi j=>.int (i.fmod j)):=opI λ_ _ _ _ _ _ _ hc q=>mod_int' hc q
theorem qS:OpR X (binaryOp .Pow) (rI pK λi j=>.int (i ^ j.toNat)):=opI λ_ _ _ _ _ _ _ hc q=>pow_int_small hc.1 hc.2.1 hc.2.2 q
theorem rV:OpR X (binaryOp .LShift) (rI pK λi j=>.int (i * 2 ^ j.toNat)):=opI λ_ _ _ _ _ _ _ hc q=>lshift_int_small hc.1 hc.2.1 hc.2.2 q
theorem rm:OpR X (binaryOp .RShift) (rI (λ_ j=>0<=j) λi j=>.int (i / 2 ^ j.toNat)):=opI λi j _ _ _ _ _ hc q=>
 rshift_int hc (by rw [Int.fdiv_eq_ediv_of_nonneg i (jJ _)]; exact q)
theorem rf:OpR X (binaryOp .BitAnd) (rI0 λi j=>.int (Builtin.bitAnd i j)):=pg λ_ _ _ _ _ _ _ q=>and_int q
theorem t8:OpR X (binaryOp .BitOr) (rI0 λi j=>.int (Builtin.bitOr i j)):=pg λ_ _ _ _ _ _ _ q=>or_int q
theorem unI {f:Value->Sem Value} {g:Int->Int}
   (rule:∀ (i:Int) (t:Tok) (s:Shared) (Q:Value->Shared->Prop) (E:Value->Shared->Prop),Q (.int (g i) s.toks) { s with toks:=s.toks + 1 }->wpAny (model X.prog X.w) X.A (f (.int i t)) Q E s) :
   UnR X f (rU λi=>.int (g i)):=by
 intro pins s σ H x v Q I rx h
 obtain ⟨i,rfl,q⟩:=h
 obtain ⟨t,rfl⟩:=rx
 exact rule i t s _ _ ⟨.int (g i),H,I.tok _,⟨_,rfl⟩,q⟩
theorem rA:UnR X (unaryOp .USub) (rU λi=>.int (-i)):=unI λ_ _ _ _ _ q=>neg_int q
end
noncomputable def tP:V->V->Bool
 | .non,.non=>true | .non,.int _=>true | .int _,.non=>true | .non,.bl _=>true | .bl _,.non=>true | .non,.str _=>true | .str _,.non=>true
 | .int _,.int _=>true | .bl _,.bl _=>true | .str _,.str _=>true | .byt _,.byt _=>true
 | .int _,.str _=>true | .str _,.int _=>true | .bl _,.str _=>true | .str _,.bl _=>true
 | _,_=>false
noncomputable def rEq:R2:=λx y H Q=>tP x y=true/\Q (.bl (decide (x=y))) H
noncomputable def rNe:R2:=λx y H Q=>tP x y=true/\Q (.bl (!decide (x=y))) H
theorem kX {i j:Int}:decide (V.int i=V.int j)=(i == j):=by
 rw [Bool.eq_iff_iff]
 simp
theorem nr {i j:Bool}:decide (V.bl i=V.bl j)=(i == j):=by
 rw [Bool.eq_iff_iff]
 simp
theorem kO {i j:Str}:decide (V.str i=V.str j)=(i == j):=by
 rw [Bool.eq_iff_iff]
 simp
theorem kg {i j:Array UInt8}:decide (V.byt i=V.byt j)=(i.toList == j.toList):=by
 rw [Bool.eq_iff_iff]
 cases i
 cases j
 simp
section
variable {X:Cx} {a b c:Expr} {ta tb tc:TE} {pos:Pos}
theorem aG {pins:List (Addr × Obj)} {σ:St} {H:Hp} {s:Shared} {Q:VK} {k k':Bool} (I:Inv X pins σ H s) (q:Q (.bl k) H) (e:k=k'):EP X pins σ Q (.bool k') s:=by
 subst e
 exact ⟨.bl k,H,I,rfl,q⟩
theorem qk:OpR X (compareOp .Eq) rEq:=by
 intro pins s σ H x y v u Q I rx ry h
 obtain ⟨hs,q⟩:=h
 cases x with
 | non=>
   cases rx
   cases y with
   | non=>cases ry; exact PySem.EqNone.eq_none_none (aG I q (by simp))
   | bl j=>cases ry; exact PySem.EqNone.eq_none_bool (aG I q (by simp))
   | int j=>obtain ⟨t',rfl⟩:=ry; exact PySem.EqNone.eq_none_int (aG I q (by simp))
   | str j=>obtain ⟨t',rfl⟩:=ry; exact PySem.EqNone.eq_none_str (aG I q (by simp))
   | _=>exact absurd (show false=true from hs) Bool.false_ne_true
 | bl i=>
   cases rx
   cases y with
   | non=>cases ry; exact PySem.EqNone.eq_bool_none (aG I q (by simp))
   | bl j=>cases ry; exact eq_bool (aG I q nr)
   | str j=>obtain ⟨t',rfl⟩:=ry; exact PySem.EqMixed.eq_bool_str (aG I q (by simp))
   | _=>exact absurd (show false=true from hs) Bool.false_ne_true
 | int i=>
   obtain ⟨t,rfl⟩:=rx
   cases y with
   | non=>cases ry; exact PySem.EqNone.eq_int_none (aG I q (by simp))
   | int j=>obtain ⟨t',rfl⟩:=ry; exact eq_int (aG I q kX)
   | str j=>obtain ⟨t',rfl⟩:=ry; exact PySem.EqMixed.eq_int_str (aG I q (by simp))
   | _=>exact absurd (show false=true from hs) Bool.false_ne_true
 | str i=>
   obtain ⟨t,rfl⟩:=rx
   cases y with
   | non=>cases ry; exact PySem.EqNone.eq_str_none (aG I q (by simp))
   | bl j=>cases ry; exact PySem.EqMixed.eq_str_bool (aG I q (by simp))
   | int j=>obtain ⟨t',rfl⟩:=ry; exact PySem.EqMixed.eq_str_int (aG I q (by simp))
   | str j=>obtain ⟨t',rfl⟩:=ry; exact eq_str (aG I q kO)
   | _=>exact absurd (show false=true from hs) Bool.false_ne_true
 | byt i=>
   obtain ⟨t,rfl⟩:=rx
   cases y with
   | byt j=>obtain ⟨t',rfl⟩:=ry; exact PySem.W.eq_bytes (aG I q kg)
   | _=>exact absurd (show false=true from hs) Bool.false_ne_true
 | _=>cases y <;> exact absurd (show false=true from hs) Bool.false_ne_true
theorem tq:OpR X (compareOp .NotEq) rNe:=by
 intro pins s σ H x y v u Q I rx ry h
 obtain ⟨hs,q⟩:=h
 cases x with
 | non=>
   cases rx
   cases y with
   | non=>cases ry; exact PySem.EqNone.ne_none_none (aG I q (by simp))
   | bl j=>cases ry; exact PySem.EqNone.ne_none_bool (aG I q (by simp))
   | int j=>obtain ⟨t',rfl⟩:=ry; exact PySem.EqNone.ne_none_int (aG I q (by simp))
   | str j=>obtain ⟨t',rfl⟩:=ry; exact PySem.EqNone.ne_none_str (aG I q (by simp))
   | _=>exact absurd (show false=true from hs) Bool.false_ne_true
 | bl i=>
   cases rx
   cases y with
   | non=>cases ry; exact PySem.EqNone.ne_bool_none (aG I q (by simp))
   | bl j=>cases ry; exact ne_bool (aG I q (congrArg not nr))
   | str j=>obtain ⟨t',rfl⟩:=ry; exact PySem.EqMixed.ne_bool_str (aG I q (by simp))
   | _=>exact absurd (show false=true from hs) Bool.false_ne_true
 | int i=>
   obtain ⟨t,rfl⟩:=rx
   cases y with
   | non=>cases ry; exact PySem.EqNone.ne_int_none (aG I q (by simp))
   | int j=>obtain ⟨t',rfl⟩:=ry; exact ne_int (aG I q (congrArg not kX))
   | str j=>obtain ⟨t',rfl⟩:=ry; exact PySem.EqMixed.ne_int_str (aG I q (by simp))
   | _=>exact absurd (show false=true from hs) Bool.false_ne_true
 | str i=>
   obtain ⟨t,rfl⟩:=rx
   cases y with
   | non=>cases ry; exact PySem.EqNone.ne_str_none (aG I q (by simp))
   | bl j=>cases ry; exact PySem.EqMixed.ne_str_bool (aG I q (by simp))
   | int j=>obtain ⟨t',rfl⟩:=ry; exact PySem.EqMixed.ne_str_int (aG I q (by simp))
   | str j=>obtain ⟨t',rfl⟩:=ry; exact ne_str (aG I q (congrArg not kO))
   | _=>exact absurd (show false=true from hs) Bool.false_ne_true
 | byt i=>
   obtain ⟨t,rfl⟩:=rx
   cases y with
   | byt j=>obtain ⟨t',rfl⟩:=ry; exact PySem.W.ne_bytes (aG I q (congrArg not kg))
   | _=>exact absurd (show false=true from hs) Bool.false_ne_true
 | _=>cases y <;> exact absurd (show false=true from hs) Bool.false_ne_true
theorem sG:OpR X (compareOp .Lt) (rI0 λi j=>.bl (decide (i < j))):=pX λ_ _ _ _ _ _ _ q=>lt_int q
theorem sj:OpR X (compareOp .LtE) (rI0 λi j=>.bl (decide (i<=j))):=pX λ_ _ _ _ _ _ _ q=>le_int q
theorem sA:OpR X (compareOp .Gt) (rI0 λi j=>.bl (decide (j < i))):=pX λ_ _ _ _ _ _ _ q=>gt_int q
theorem t9:OpR X (compareOp .GtE) (rI0 λi j=>.bl (decide (j<=i))):=pX λ_ _ _ _ _ _ _ q=>ge_int q
theorem jL (b:Expr) {op:CmpOp} (h:op ≠ .In:=by decide) (h2:op ≠ .NotIn:=by decide):behindInMarks op b=false:=by
 have e1:(op == CmpOp.In)=false:=by cases op <;> first | rfl | exact absurd rfl h
 have e2:(op == CmpOp.NotIn)=false:=by cases op <;> first | rfl | exact absurd rfl h2
 cases b <;> simp [behindInMarks,e1,e2]
theorem kZ {op:CmpOp} {r:R2} (ho:OpR X (compareOp op) r) (ha:PE X a ta) (hb:PE X b tb) (hm:behindInMarks op b=false):PE X (.Compare a [op] [b] pos) (tOp r ta tb):=by
 intro pins s σ H Q I h
 exact wpAny_Compare1 (qP ha hb I h λv u s2 x y H2 I2 rx ry q=>ho pins s2 σ H2 x y v u Q I2 rx ry q) hm
noncomputable def qu (t:TE):TT:=λσ H Q=>t σ H λx H'=>∃ k,x=.bl k/\Q k H'
theorem ou {op:CmpOp} {r:R2} (ho:OpR X (compareOp op) r) (ha:PE X a ta) (hb:PE X b tb) (hm:behindInMarks op b=false):PT X (.Compare a [op] [b] pos) (qu (tOp r ta tb)):=by
 intro pins s σ H Q I h
 refine wpAny_isTrue_Compare1 (thn (ha pins s σ H _ I h) λv s1 ⟨x,H1,I1,r1,q1⟩=>thn (hb pins s1 σ H1 _ I1 q1) λu s2 ⟨y,H2,I2,r2,q2⟩=>
   thn (ho pins s2 σ H2 x y v u _ I2 r1 r2 q2) λc s3 ⟨z,H3,I3,r3,k,e,q3⟩=>?_) hm
 subst e
 cases r3
 exact wpAny_truthy_bool ⟨H3,I3,q3⟩
noncomputable def jH (r r':R2) (ta tb tc:TE):TE:=λσ H Q=>ta σ H λx H1=>tb σ H1 λy H2=>r x y H2 λz H3=>∃ k,z=.bl k /\
 (if k=true then tc σ H3 λw' H4=>r' y w' H4 Q else Q (.bl false) H3)
theorem nO {op op':CmpOp} {r r':R2} (ho:OpR X (compareOp op) r) (ho':OpR X (compareOp op') r') (ha:PE X a ta) (hb:PE X b tb) (hc:PE X c tc)
   (hm:lastMarks [op,op'] [b,c]=false:=by with_unfolding_all rfl):PE X (.Compare a [op,op'] [b,c] pos) (jH r r' ta tb tc):=by
 intro pins s σ H Q I h
 refine Compare_chain (thn (ha pins s σ H _ I h) λv s1 ⟨x,H1,I1,r1,q1⟩=>chain_link (thn (hb pins s1 σ H1 _ I1 q1) λu s2 ⟨y,H2,I2,r2,q2⟩=>
   thn (ho pins s2 σ H2 x y v u _ I2 r1 r2 q2) λd s3 ⟨z,H3,I3,r3,k,e,q3⟩=>?_)) hm
 subst e
 cases r3
 refine wpAny_truthy_bool ?_
 cases k with
 | false=>exact ite_ff ⟨.bl false,H3,I3,rfl,q3⟩
 | true=>exact ite_tt (chain_last (thn (hc pins s3 σ H3 _ I3 q3) λw' s4 ⟨z',H4,I4,r4,q4⟩=>ho' pins s4 σ H4 y z' u w' Q I4 r2 r4 q4))
theorem nY {op op':CmpOp} {r r':R2} (ho:OpR X (compareOp op) r) (ho':OpR X (compareOp op') r') (ha:PE X a ta) (hb:PE X b tb) (hc:PE X c tc)
   (hm:lastMarks [op,op'] [b,c]=false:=by with_unfolding_all rfl):PT X (.Compare a [op,op'] [b,c] pos) (qu (jH r r' ta tb tc)):=by
 intro pins s σ H Q I h
 refine isTrue_chain (thn (ha pins s σ H _ I h) λv s1 ⟨x,H1,I1,r1,q1⟩=>test_link (thn (hb pins s1 σ H1 _ I1 q1) λu s2 ⟨y,H2,I2,r2,q2⟩=>
   thn (ho pins s2 σ H2 x y v u _ I2 r1 r2 q2) λd s3 ⟨z,H3,I3,r3,k,e,q3⟩=>?_)) hm
 subst e
 cases r3
 refine wpAny_truthy_bool ?_
 cases k with
 | false=>
   obtain ⟨k',e',q'⟩:=q3
   cases e'
   exact ite_ff ⟨H3,I3,q'⟩
 | true=>
   refine ite_tt (test_last (thn (hc pins s3 σ H3 _ I3 q3) λw' s4 ⟨z',H4,I4,r4,q4⟩=>thn (ho' pins s4 σ H4 y z' u w' _ I4 r2 r4 q4) λd' s5 ⟨z2,H5,I5,r5,k2,e2,q5⟩=>?_))
   subst e2
   cases r5
   exact wpAny_truthy_bool ⟨H5,I5,q5⟩
theorem jZ:(sizeLine:Nat) < 2 ^ 63:=by rw [sizeLine_eq]; decide
theorem vals1 {x:V} {us:List Value} (r:Vals [x] us):∃ u,us=[u]/\RelV x u:=by
 cases r with
 | cons r1 r2=>cases r2; exact ⟨_,rfl,r1⟩
theorem vals2 {x y:V} {us:List Value} (r:Vals [x,y] us):∃ u w',us=[u,w']/\RelV x u/\RelV y w':=by
 cases r with
 | cons r1 r2=>
   cases r2 with
   | cons r3 r4=>cases r4; exact ⟨_,_,rfl,r1,r3⟩
theorem mT:cR X (.builtin "abs") (λxs H Q=>∃ i,xs=[.int i]/\Q (.int (if i < 0 then -i else i)) H):=by
 intro pins s σ H xs us Q I r h
 obtain ⟨i,rfl,q⟩:=h
 obtain ⟨u,rfl,t,rfl⟩:=vals1 r
 exact call_abs_int λu tk=>⟨.int (if i < 0 then -i else i),H,I.tok _,⟨_,rfl⟩,q⟩
theorem lG (hc:X.calm=true):cR X (.builtin "min") (λxs H Q=>∃ i j,xs=[.int i,.int j]/\Q (.int (if j < i then j else i)) H):=by
 intro pins s σ H xs us Q I r h
 obtain ⟨i,j,rfl,q⟩:=h
 obtain ⟨u,w',rfl,⟨t,rfl⟩,⟨t',rfl⟩⟩:=vals2 r
 refine min_two_ints (I.ok.hd hc) λh' tk k=>⟨_,H,I.kept k,?_,q⟩
 by_cases hj:j < i
 · rw [if_pos hj,if_pos hj]; exact ⟨_,rfl⟩
 · rw [if_neg hj,if_neg hj]; exact ⟨_,rfl⟩
end
section
variable {prog:Program} {w:World} {A:Around} {E:Value->Shared->Prop} {s:Shared} {K:PySem.W.Frag} {x dx C f:Addr} {mA:Str->Option Value} {name:Str} {v:Value}
end
section
variable {P:Program} {w:World} {H H':Hp} {h h':Heap} {a C dx:Addr} {fs fs':List (Str × V)}
end
section
variable {X:Cx} {pins:List (Addr × Obj)} {σ:St} {H:Hp} {s:Shared} {a C dx:Addr} {fs:List (Str × V)} {f:Str} {v:V} {A:Around} {E:Value->Shared->Prop}
end
section
variable {X:Cx} {o e value:Expr} {f:Str} {pos pos' tpos:Pos} {ta tv:TE}
end
section
variable {X:Cx} {pins:List (Addr × Obj)} {σ:St} {H:Hp} {s:Shared} {A:Around} {E:Value->Shared->Prop} {Q:Value->Shared->Prop} {c:Value} {b:Bool}
end
structure b9 (k:Nat) (A:Around):Prop where
 hd:A.handled=none
 dp:A.depth + 3 * k + 5 < recursionLimit
 un:A.units + 16 * k + 200 < cLine
theorem b9.mono {j k:Nat} {A:Around} (r:b9 k A) (h:j<=k):b9 j A:=⟨r.hd,by have:=r.dp; omega,by have:=r.un; omega⟩
theorem b9.deeper {k:Nat} {A:Around} (r:b9 (k + 1) A) (env:Env):b9 k (A.deeper env):=
 ⟨r.hd,by have:=r.dp; show A.depth + 1 + 3 * k + 5 < _; omega,by have:=r.un; show A.units + 3 + 16 * k + 200 < _; omega⟩
theorem b9.depth {k:Nat} {A:Around} (r:b9 k A):A.depth < recursionLimit:=by have:=r.dp; omega
theorem b9.units {k:Nat} {A:Around} (r:b9 k A):A.units + 64 < cLine:=by have:=r.un; omega
noncomputable def pH:TA:=λ_ H Q=>Q [] H
noncomputable def cK (ta:TE) (tr:TA):TA:=λσ H Q=>ta σ H λx H1=>tr σ H1 λxs H2=>Q (x :: xs) H2
section
variable {X:Cx} {e:Expr} {es:List Expr} {te:TE} {t:TA} {pos:Pos}
theorem aV:PA X [] pH:=λ_ _ _ _ H Q I h=>Calls.spliced_nil ⟨[],H,I,.nil,h⟩
theorem av (ha:PE X e te) (hr:PA X es t) (hs:starEach (e :: es) X.env=(false,eval e X.env) :: starEach es X.env:=by rfl):PA X (e :: es) (cK te t):=by
 intro pos pins s σ H Q I h
 rw [hs]
 show wpAny _ _ (spliced ((false,eval e X.env) :: backTo pos (starEach es X.env))) _ _ s
 refine Calls.spliced_cons (thn (ha pins s σ H _ I h) λu s1 ⟨x,H1,I1,r1,q1⟩=>?_)
 exact thn (hr pos pins s1 σ H1 _ I1 q1) λus s2 ⟨xs,H2,I2,r2,q2⟩=>⟨x :: xs,H2,I2,.cons r1 r2,q2⟩
noncomputable def sI (t:TA):TE:=λσ H Q=>t σ H λxs H1=>xs.length<=sizeLine/\∀ p,H1 p=none->Q (.ref p) (upd H1 p (.tup xs))
noncomputable def ug (t:TA):TE:=λσ H Q=>t σ H λxs H1=>xs.length<=sizeLine/\∀ p,H1 p=none->Q (.ref p) (upd H1 p (.lst xs))
theorem iE {x1} (h:PA X es t):PE X (.Tuple es x1 pos) (sI t):=by
 intro pins s σ H Q I hq
 refine wpAny_Tuple_spliced (thn (h pos pins s σ H _ I hq) λus s1 ⟨xs,H1,I1,r,z,q⟩=>⟨by rw [<- r.length]; exact z,?_⟩)
 have hf:H1 s1.heap.objs.size=none:=I1.hok.fresh (Nat.le_refl _)
 refine ⟨.ref s1.heap.objs.size,upd H1 s1.heap.objs.size (.tup xs),I1.laid (t':=s1.toks) (λb u e=>Heap.get?_push_of_some _ e) (Nat.le_refl _) ?_,rfl,q _ hf⟩
 exact ⟨z,us,r,⟨_,Heap.get?_push_size _ rfl,rfl,_,rfl⟩⟩
theorem r6 (h:PA X es t):PE X (.List es pos) (ug t):=by
 intro pins s σ H Q I hq
 refine wpAny_List_spliced (thn (h pos pins s σ H _ I hq) λus s1 ⟨xs,H1,I1,r,z,q⟩=>⟨by rw [<- r.length]; exact z,?_⟩)
 have hf:H1 s1.heap.objs.size=none:=I1.hok.fresh (Nat.le_refl _)
 refine ⟨.ref s1.heap.objs.size,upd H1 s1.heap.objs.size (.lst xs),I1.laid (t':=s1.toks) (λb u e=>Heap.get?_push_of_some _ e) (Nat.le_refl _) ?_,rfl,q _ hf⟩
 exact ⟨z,us,0,r,Heap.get?_push_size _ rfl⟩
end
noncomputable abbrev Sp:=List V->Hp->VK->XK->Prop
noncomputable abbrev CXT:=List Env->Hp->Shared->XK->Value->Shared->Prop
structure my (P:Program) (w:World) (K:PySem.W.Frag) (mg:Str->Option Value) (base:Heap) (A:Around) (outer:List Env) (s:Shared) (H:Hp):Prop where
 frames:A.frames=some outer
 mod:Mod K mg base
 bs:∀ b o,base.get? b=some o->s.heap.get? b=some o/\H b=none
 bsz:base.objs.size<=s.heap.objs.size
 eT:s.heap.FunFrames base outer
 frf:∀ b ∈ frs outer,H b=none
 hok:HOk P w H s.heap
 bare:AllBare s.gens
noncomputable def CE (outer:List Env) (P:Program) (w:World) (H:Hp) (s:Shared) (Q:VK) (u:Value) (s':Shared):Prop:=
 ∃ v H',s'.os=s.os/\AllBare s'.gens/\Un (frs outer) [] H H' s.heap s'.heap/\HOk P w H' s'.heap/\RelV v u/\Q v H'
noncomputable def CR (CX:CXT) (outer:List Env) (P:Program) (w:World) (H:Hp) (s:Shared) (Q:VK) (E:XK) (r:Result) (s':Shared):Prop:=
 match r with
 | .ok (.ret u)=>CE outer P w H s Q u s'
 | .ok _=>False
 | .error e=>CX outer H s E e s'
structure aP (P:Program) (w:World) (K:PySem.W.Frag) (mg:Str->Option Value) (base:Heap) (CX:CXT) (k:Nat) (f:Addr) (fd:FuncData) (ps:List Str) (sp:Sp):Prop where
 len:∀ vs H Q E,sp vs H Q E->vs.length=ps.length
 run:∀ (A:Around) (outer:List Env) (s:Shared) (H:Hp) (args:Args) (us:List Value) (vs:List V) (Q:VK) (E:XK),b9 k A->my P w K mg base A outer s H->BindsTo s fd args (ps.zip us)->Vals vs us->sp vs H Q E ->
   codeAny (model P w) A (.call (.ref f) args) (CR CX outer P w H s Q E) s
theorem aP.mono {P:Program} {w:World} {K:PySem.W.Frag} {mg:Str->Option Value} {base:Heap} {CX:CXT} {j k:Nat} {f:Addr} {fd:FuncData} {ps:List Str} {sp:Sp} (F:aP P w K mg base CX j f fd ps sp) (h:j<=k) :
   aP P w K mg base CX k f fd ps sp:=⟨F.len,λA outer s H args us vs Q E hr=>F.run A outer s H args us vs Q E (hr.mono h)⟩
section
variable {X:Cx} {pins:List (Addr × Obj)} {σ:St} {H:Hp} {s s':Shared}
theorem Inv.tQ (I:Inv X pins σ H s):my X.prog X.w X.K X.mg X.base X.A X.stack s H:=
 ⟨I.ok.frames,I.ok.mod,I.bs,Nat.le_trans I.ok.bsz I.sz,I.stack,I.eg,I.hok,I.bare⟩
theorem Inv.after {Q:VK} {u:Value} (I:Inv X pins σ H s) (h:CE X.stack X.prog X.w H s Q u s'):EP X pins σ Q u s':=by
 obtain ⟨v,H',os,bare,un,hok,r,q⟩:=h
 obtain ⟨hh,g,d,t,os'⟩:=s'
 obtain rfl:os'=s.os:=os
 exact ⟨v,H',I.call (h':=hh) (g':=g) (d':=d) (t':=t) (ch:=[]) un hok bare (λb z=>absurd z (by simp)),r,q⟩
end
noncomputable def mY (sp:Sp) (dvs:List V) (E:XK) (t:TA):TE:=λσ H Q=>t σ H λvs H1=>sp (vs++dvs) H1 Q E
noncomputable def Binds (K:PySem.W.Frag) (fd:FuncData) (ps:List Str) (ds:List Value):Prop:=
 ∀ (s:Shared) (us:List Value),K.In s.heap->(us++ds).length=ps.length->BindsTo s fd ⟨us,[]⟩ (ps.zip (us++ds))
theorem Binds.all {K:PySem.W.Frag} {fd:FuncData} {ps:List Str} (h:∀ us:List Value,us.length=ps.length->bindArgs fd ⟨us,[]⟩=pure (ps.zip us)):Binds K fd ps []:=λs us _ hl=>by
 rw [List.append_nil] at hl ⊢
 exact .of_eq (h us hl)
noncomputable def Passes (CX:CXT) (X:Cx) (E:XK):Prop:=∀ (pins:List (Addr × Obj)) (σ:St) (H:Hp) (s:Shared) (e:Value) (s':Shared),Inv X pins σ H s->CX X.stack H s E e s'->X.xe e s'
section
variable {X:Cx} {CX:CXT} {k:Nat} {f C:Addr} {fd:FuncData} {ps:List Str} {sp:Sp} {dvs:List V} {ds:List Value} {E:XK} {x m:Str} {p pos apos:Pos} {e o:Expr} {es:List Expr} {ta:TE} {t:TA}
theorem sa {pins:List (Addr × Obj)} {σ:St} {H:Hp} {s:Shared} {Q:VK} {us:List Value} {vs:List V} (F:aP X.prog X.w X.K X.mg X.base CX k f fd ps sp) (hr:b9 k X.A) (hb:Binds X.K fd ps ds) (hd:Vals dvs ds) (hx:Passes CX X E)
   (I:Inv X pins σ H s) (r:Vals vs us) (h:sp (vs++dvs) H Q E):wpAny (model X.prog X.w) X.A (call (.ref f) us) (EP X pins σ Q) X.xe s:=by
 have r2:Vals (vs++dvs) (us++ds):=r.append hd
 have hl:(us++ds).length=ps.length:=by rw [<- r2.length]; exact F.len _ _ _ _ h
 refine wpAny_call (codeAny_mono (F.run X.A X.stack s H ⟨us,[]⟩ (us++ds) (vs++dvs) Q E hr I.tQ (hb s us I.kIn hl) r2 h) λr s' hq=>?_)
 cases r with
 | error e=>exact hx pins σ H s e s' I hq
 | ok fl=>
   cases fl with
   | ret u=>exact I.after hq
   | next=>exact False.elim hq
   | brk=>exact False.elim hq
   | cont=>exact False.elim hq
theorem bx (F:aP X.prog X.w X.K X.mg X.base CX k f fd ps sp) (hr:b9 k X.A) (hg:Gl X x) (hm:X.mg x=some (.ref f)) (hk:PySem.W.keepIn X.K (.ref f)=true) (hb:Binds X.K fd ps ds) (hd:Vals dvs ds) (hx:Passes CX X E)
   (ha:PA X (e :: es) t) (hdb:(x == ("__debug__" : Str))=false:=by decide) (he:starEach (e :: es) X.env=(false,eval e X.env) :: starEach es X.env:=by rfl) (hpl:(backTo pos (starEach es X.env)).any (·.1)=false:=by rfl) :
   PE X (.Call (.Name x p) (e :: es) [] pos) (mY sp dvs E t):=by
 intro pins s σ H Q I h
 refine wpAny_Call_Name_kw (eG I hg hm ?_ hdb)
 refine PySem.W.callWith_K (h₀:=X.base) I.ok.mod.kin hk (thn (ha pos pins s σ H _ I h) λus s1 ⟨vs,H1,I1,r,q⟩=>⟨I1.kIn,?_⟩) he hpl
 exact sa F hr hb hd hx I1 r q
end
section
variable {X:Cx} {CX:CXT} {k:Nat} {f C:Addr} {fd:FuncData} {ps ks:List Str} {sp:Sp} {E:XK} {x m:Str} {p pos apos kpos:Pos} {e o:Expr} {es:List Expr} {kws:List Keyword} {te ta:TE} {t tk:TA} {nm:Option Str}
variable {g:List Value->List Value->List Value} {gV:List V->List V->List V}
end
structure aE (N P:List Str) (sc:Scope):Prop where
 kind:sc.kind=.function
 co:sc.isCoroutine=false
 gen:sc.isGenerator=false
 nd:N.Nodup
 pre:N.take P.length=P
 par:∀ x ∈ P,sc.names.lookup x=some .local\/sc.names.lookup x=some .cell
 nofree:∀ y ∈ sc.names,y.2 ≠ .free
theorem g8 {kindOf:Str->Option NameKind} {x:Str}:∀ {binds:List (Str × Value)} {m:Str->Option Value},(∀ v,(x,v) ∉ binds)->bindL kindOf binds m x=m x
 | [],_,_=>rfl
 | (n,v) :: r,m,h=>by
   unfold bindL
   rw [g8 λw hw=>h w (List.mem_cons_of_mem _ hw)]
   split
   · have:x ≠ n:=by rintro rfl; exact h v List.mem_cons_self
     simp [this]
   · rfl
theorem gY {kindOf:Str->Option NameKind} {x:Str}:∀ {binds:List (Str × Value)} {m:Str->Option Value},(∀ v,(x,v) ∉ binds)->bindC kindOf binds m x=m x
 | [],_,_=>rfl
 | (n,v) :: r,m,h=>by
   unfold bindC
   rw [gY λw hw=>h w (List.mem_cons_of_mem _ hw)]
   split
   · rfl
   · have:x ≠ n:=by rintro rfl; exact h v List.mem_cons_self
     simp [this]
theorem gI {kindOf:Str->Option NameKind} {x:Str} {v:Value}:∀ {P:List Str} {vs:List Value} {i:Nat} {m:Str->Option Value},P.Nodup->P[i]?=some x->vs[i]?=some v->kindOf x=some .local ->
   bindL kindOf (P.zip vs) m x=some v
 | [],_,_,_,_,h,_,_=>by simp at h
 | _ :: _,[],_,_,_,_,h,_=>by simp at h
 | p :: P,w :: vs,0,m,nd,h1,h2,hk=>by
   simp at h1 h2; subst h1; subst h2
   show bindL kindOf ((p,w) :: P.zip vs) m p=_
   unfold bindL
   rw [g8 λv hv=>(List.nodup_cons.mp nd).1 (List.of_mem_zip hv).1,if_pos hk]
   simp
 | p :: P,w :: vs,i + 1,m,nd,h1,h2,hk=>by
   show bindL kindOf ((p,w) :: P.zip vs) m x=_
   unfold bindL
   exact gI (i:=i) (List.nodup_cons.mp nd).2 (by simpa using h1) (by simpa using h2) hk
theorem gP {kindOf:Str->Option NameKind} {x:Str} {v:Value}:∀ {P:List Str} {vs:List Value} {i:Nat} {m:Str->Option Value},P.Nodup->P[i]?=some x->vs[i]?=some v->kindOf x ≠ some .local ->
   bindC kindOf (P.zip vs) m x=some v
 | [],_,_,_,_,h,_,_=>by simp at h
 | _ :: _,[],_,_,_,_,h,_=>by simp at h
 | p :: P,w :: vs,0,m,nd,h1,h2,hk=>by
   simp at h1 h2; subst h1; subst h2
   show bindC kindOf ((p,w) :: P.zip vs) m p=_
   unfold bindC
   rw [gY λv hv=>(List.nodup_cons.mp nd).1 (List.of_mem_zip hv).1,if_neg hk]
   simp
 | p :: P,w :: vs,i + 1,m,nd,h1,h2,hk=>by
   show bindC kindOf ((p,w) :: P.zip vs) m x=_
   unfold bindC
   exact gP (i:=i) (List.nodup_cons.mp nd).2 (by simpa using h1) (by simpa using h2) hk
noncomputable def start (N:List Str) (vs:List V):St:=vs.map some++List.replicate (N.length - vs.length) none
noncomputable def fh (CX:CXT) (P:Program) (w:World) (K:PySem.W.Frag) (mg:Str->Option Value) (base:Heap) (N:List Str) (qual:Str) (scope:Scope) (f:Addr) (cd:Value) (A:Around) (outer:List Env) (s:Shared) (H:Hp) (E:XK):Cx where
 prog:=P
 w:=w
 K:=K
 mg:=mg
 base:=base
 A:=A.deeper (envOfC qual scope s.heap.objs.size f cd)
 N:=N
 s₀:=s
 H₀:=H
 env:=envOfC qual scope s.heap.objs.size f cd
 outer:=outer
 stack:=envOfC qual scope s.heap.objs.size f cd :: outer
 ex:=[]
 calm:=true
 fn:=λ_=>true
 pn:=[]
 xe:=λe s'=>wpAny (model P w) (A.deeper (envOfC qual scope s.heap.objs.size f cd)) (leaving (envOfC qual scope s.heap.objs.size f cd) e) (λ_ s''=>CX outer H s E e s'') (λe' s''=>CX outer H s E e' s'') s'
theorem jb {sc:Scope} {n:Nat} {x:Str} (h:sc.names.lookup x=some .cell):∃ c,(cellsFrom n sc.names []).lookup x=some c:=by
 have q:=PySem.W.cellsFrom_some sc.names n [] (.inl h)
 exact Option.isSome_iff_exists.mp q
theorem gO {CX:CXT} {P:Program} {w:World} {K:PySem.W.Frag} {mg:Str->Option Value} {base:Heap} {N ps:List Str} {qual:Str} {scope:Scope} {f:Addr} {cd:Value} {A:Around} {outer:List Env} {s s1:Shared} {H:Hp} {E:XK} {us:List Value} {vs:List V}
   (S:aE N ps scope) {cm:Bool} (hd:cm=true->A.handled=none) (e0:my P w K mg base A outer s H) (hl:vs.length=ps.length) (r:Vals vs us)
   (x:InCallC s s.heap.objs.size (bindL (envOfC qual scope s.heap.objs.size f cd).kindOf (ps.zip us) λ_=>none) (cellsFrom (s.heap.objs.size + 1) scope.names []) (bindC (envOfC qual scope s.heap.objs.size f cd).kindOf (ps.zip us) λ_=>none) s1) :
   Inv { fh CX P w K mg base N qual scope f cd A outer s H E with calm:=cm } [] (start N vs) H s1:=by
 have hpl:ps.length<=N.length:=by have:=congrArg List.length S.pre; rw [List.length_take] at this; omega
 obtain ⟨h1,tk,rfl,hk⟩:=x.done
 have noA:∀ b:Addr,b ∉ (fh CX P w K mg base N qual scope f cd A outer s H E).ex:=λb z=>absurd (show b ∈ ([]:List Addr) from z) (by simp)
 refine ⟨⟨e0.mod,S.kind,rfl,rfl,Nat.le_refl _,λy z c h1 h2=>?_,λy hy=>?_,λy c _ h=>?_,hd,Around.frames_deeper e0.frames,.inr ⟨rfl,rfl⟩,λb z=>absurd z (noA b),e0.bs,e0.bsz,λb _ _=>noA b,λb z=>absurd z (noA b),e0.eT,e0.frf⟩,
   rfl,e0.bare,Un.kept hk,⟨_,x.toInCall.ns,λi y v h1 h2 h3=>?_⟩,λy c h=>⟨_,x.cell y c h⟩,e0.hok.fresh (Nat.le_refl _),λy c h=>?_,λp hp=>absurd (show p ∈ ([]:List (Addr × Obj)) from hp) (by simp),e0.hok.kept hk,?_⟩
 · exact name_of_addr x.apart (PySem.mem_of_lookup h1) (PySem.mem_of_lookup h2)
 · have hy:scope.names.lookup y=some .cell\/scope.names.lookup y=some .free:=hy
   rcases hy with hy | hy
   · exact jb hy
   · exact absurd rfl (S.nofree _ (PySem.mem_of_lookup hy))
 · exact Nat.le_of_lt (x.above y c (PySem.mem_of_lookup h))
 · have hi:i < vs.length:=by
     unfold start at h2
     by_cases hi:i < vs.length
     · exact hi
     · rw [List.getElem?_append_right (by simpa using hi)] at h2
       rw [List.getElem?_replicate] at h2
       split at h2 <;> cases h2
   have ha:vs[i]?=some v:=by
     unfold start at h2
     rw [List.getElem?_append_left (by simpa using hi),List.getElem?_map] at h2
     cases e:vs[i]? with
     | none=>rw [e] at h2; cases h2
     | some a=>rw [e] at h2; cases h2; rfl
   obtain ⟨u,hu,rv⟩:=r.get ha
   have hp:ps[i]?=some y:=by
     rw [<- S.pre,List.getElem?_take_of_lt (by omega)]; exact h1
   have ndP:ps.Nodup:=by rw [<- S.pre]; exact S.nd.sublist (List.take_sublist _ _)
   refine ⟨u,rv,?_⟩
   rcases S.par y (List.mem_of_getElem? hp) with k | k
   · exact .inl ⟨k,gI ndP hp hu k⟩
   · obtain ⟨c,e⟩:=jb (n:=s.heap.objs.size + 1) k
     refine .inr ⟨.inl k,c,e,?_⟩
     have q:=x.cell y c e
     rw [gP ndP hp hu (by show scope.names.lookup y ≠ _; rw [k]; decide)] at q
     exact q
 · exact e0.hok.fresh (Nat.le_of_lt (x.above y c (PySem.mem_of_lookup h)))
 · unfold start
   show _=N.length
   rw [List.length_append,List.length_map,List.length_replicate]
   omega
theorem qr {CX:CXT} {P:Program} {w:World} {K:PySem.W.Frag} {mg:Str->Option Value} {base:Heap} {k:Nat} {f:Addr} {name qual:Str} {params:Arguments} {body:List Stmt} {scope:Scope} {dV kV doc pm cdv ct oc:Value} {an od:Option Addr}
   {osl:Array (Option Value)} {N ps:List Str} {sp:Sp} (lk:K.lookup f=some ⟨oc,od,.func (PySem.W.fnOf name qual params body scope dV kV doc pm an cdv ct),osl⟩) (hcd:PySem.W.codeIn K cdv qual=true) (S:aE N ps scope)
   (len:∀ vs H Q E,sp vs H Q E->vs.length=ps.length)
   (hbody:∀ (A:Around) (outer:List Env) (s:Shared) (H:Hp) (vs:List V) (Q:VK) (E:XK),b9 k (A.deeper (envOfC qual scope s.heap.objs.size f cdv))->sp vs H Q E ->
     ∃ t,PSs (fh CX P w K mg base N qual scope f cdv A outer s H E) body t/\t { nx:=λ_ H'=>Q .non H',rt:=Q } (start N vs) H) :
   aP P w K mg base CX (k + 1) f (PySem.W.fnOf name qual params body scope dV kV doc pm an cdv ct) ps sp:=by
 refine ⟨len,λA outer s H args us vs Q E hr e0 hb r hsp=>?_⟩
 have hl:=len _ _ _ _ hsp
 have KX:K.In s.heap:=e0.mod.kin.keeps λb o e=>(e0.bs b o e).1
 have lim:s.heap.NoLimit:=e0.mod.nolimit.keeps λb o e=>(e0.bs b o e).1
 have hkind:∀ y ∈ ps.zip us,scope.names.lookup y.1=some .local\/(scope.names.lookup y.1=some .cell/\((cellsFrom (s.heap.objs.size + 1) scope.names []).lookup y.1).isSome=true):=λ⟨n,v⟩ hy=>by
   rcases S.par n (List.of_mem_zip hy).1 with q | q
   · exact .inl q
   · exact .inr ⟨q,PySem.W.cellsFrom_some _ _ _ (.inl q)⟩
 refine codeAny_call_function hr.depth (KX _ _ lk) rfl S.co S.gen rfl (PySem.W.codeRec_of KX hcd) (hb _ _ _ _ ?_)
 refine wpAny_newFunctionEnv_cells S.kind hkind λenv he s1 x=>?_
 subst he
 refine ⟨lim.keeps x.toInCall.keep,codeAny_func ?_⟩
 obtain ⟨t,ht,hq⟩:=hbody A outer s H vs Q E (hr.deeper _) hsp
 have I:Inv (fh CX P w K mg base N qual scope f cdv A outer s H E) [] (start N vs) H s1:=gO (cm:=true) S (λ_=>hr.hd) e0 hl r x
 refine wpAny_mono (ht [] s1 (start N vs) H _ I hq) (λfl s' hs=>?_) λe s' hs=>hs
 have fin:∀ {σ':St} {H':Hp} {v:V} {u:Value},Inv (fh CX P w K mg base N qual scope f cdv A outer s H E) [] σ' H' s'->RelV v u->Q v H'->CE outer P w H s Q u s':=
   λ{σ' H' v u} J rv q=>⟨v,H',J.os,J.bare,J.base,J.hok,rv,q⟩
 cases fl with
 | ret u=>
   obtain ⟨v,σ',H',J,rv,q⟩:=hs
   exact fin J rv q
 | next=>
   obtain ⟨σ',H',J,q⟩:=hs
   exact fin (v:=V.non) (u:=Value.none) J rfl q
 | brk=>
   obtain ⟨_,_,_,q⟩:=hs
   exact False.elim q
 | cont=>
   obtain ⟨_,_,_,q⟩:=hs
   exact False.elim q
section
variable {X:Cx} {x:Str} {p pos:Pos} {e:Expr} {es:List Expr} {t:TA} {id T:String} {r:List V->Hp->VK->Prop}
noncomputable def tCB (r:List V->Hp->VK->Prop) (t:TA):TE:=λσ H Q=>t σ H λvs H1=>r vs H1 Q
theorem cU (hc:cR X (.builtin id) r) (hg:Gl X x) (hm:X.mg x=none) (hv:bootBuiltins x=some (.builtin id)) (ha:PA X (e :: es) t) (hn:x ≠ "__name__":=by decide) (hdb:(x == ("__debug__" : Str))=false:=by decide)
   (he:starEach (e :: es) X.env=(false,eval e X.env) :: starEach es X.env:=by rfl) (hpl:(backTo pos (starEach es X.env)).any (·.1)=false:=by rfl):PE X (.Call (.Name x p) (e :: es) [] pos) (tCB r t):=by
 intro pins s σ H Q I h
 refine wpAny_Call_Name_kw (dq I hg hm hv ?_ hn hdb)
 exact PyProof.Rows.callWith_builtin1 (thn (ha pos pins s σ H _ I h) λus s1 ⟨vs,H1,I1,r1,q1⟩=>hc pins s1 σ H1 vs us Q I1 r1 q1) he hpl
theorem lP (hc:cR X (.type T) r) (hg:Gl X x) (hm:X.mg x=none) (hv:bootBuiltins x=some (.type T)) (ha:PA X (e :: es) t) (hn:x ≠ "__name__":=by decide) (hdb:(x == ("__debug__" : Str))=false:=by decide)
   (he:starEach (e :: es) X.env=(false,eval e X.env) :: starEach es X.env:=by rfl) (hpl:(backTo pos (starEach es X.env)).any (·.1)=false:=by rfl):PE X (.Call (.Name x p) (e :: es) [] pos) (tCB r t):=by
 intro pins s σ H Q I h
 refine wpAny_Call_Name_kw (dq I hg hm hv ?_ hn hdb)
 exact PyProof.Rows.callWith_type1 (thn (ha pos pins s σ H _ I h) λus s1 ⟨vs,H1,I1,r1,q1⟩=>hc pins s1 σ H1 vs us Q I1 r1 q1) he hpl
end
end L2
namespace HT
open PySem PyProof.Rows
section
open PySem.SeqAt
open PySem.AutoSeq1 (wpAny_loadPart')
open PySem.MeetsSeq PySem.MeetsSeq2 PySem.MeetsSeq3
end
section
variable {prog:Program} {w:World} {A:Around} {E:Value->Shared->Prop} {s:Shared}
noncomputable def sIx (n d:Nat):Option Int->Nat
 | none=>d
 | some v=>if v < 0 then (v + (n:Int)).toNat else min v.toNat n
theorem je (n d:Nat):sIx n d none=d:=rfl
theorem kj (n d k:Nat):sIx n d (some (k:Int))=min k n:=by
 show (if (k:Int) < 0 then ((k:Int) + (n:Int)).toNat else min (k:Int).toNat n)=min k n
 rw [if_neg (by omega),Int.toNat_natCast]
end
end HT
namespace L2
open PySem PySem.Spec PyProof.Rows
noncomputable abbrev TO:=St->Hp->(Option Int->Hp->Prop)->Prop
noncomputable def PO (X:Cx) (e:Option Expr) (t:TO):Prop:=
 ∀ (pins:List (Addr × Obj)) (s:Shared) (σ:St) (H:Hp) (Q:Option Int->Hp->Prop),Inv X pins σ H s->t σ H Q ->
   wpAny (model X.prog X.w) X.A (evalPart e X.env) (λu s'=>∃ o H',Inv X pins σ H' s'/\IsPart u o/\Q o H') X.xe s
noncomputable def pP:TO:=λ_ H Q=>Q none H
noncomputable def sq (t:TE):TO:=λσ H Q=>t σ H λx H1=>∃ i,x=.int i/\Q (some i) H1
section
variable {X:Cx} {e:Expr} {te:TE} {lo hi:Option Expr} {tl th:TO} {pos p2:Pos}
theorem pO:PO X none pP:=by
 intro pins s σ H Q I h
 rw [evalPart_none]
 exact wpAny_pure ⟨none,H,I,.none,h⟩
theorem oy (h:PE X e te):PO X (some e) (sq te):=by
 intro pins s σ H Q I hw
 rw [evalPart_some]
 refine thn (h pins s σ H _ I hw) λu s1 ⟨x,H1,I1,r1,q1⟩=>?_
 obtain ⟨i,rfl,q⟩:=q1
 obtain ⟨t,rfl⟩:=r1
 exact ⟨some i,H1,I1,.int i t,q⟩
noncomputable def SlR (X:Cx) (r:V->Option Int->Option Int->Hp->VK->Prop):Prop:=
 ∀ (pins:List (Addr × Obj)) (s:Shared) (σ:St) (H:Hp) (x:V) (v vl vu:Value) (lo hi:Option Int) (sl:Addr) (Q:VK),Inv X pins σ H s->RelV x v->s.heap.IsSliceOf sl vl vu .none->IsPart vl lo->IsPart vu hi->r x lo hi H Q ->
   ∃ T id,typeLookup (.type T) "__getitem__" = pure (some (.builtin id))/\s.TypeIs v T/\wpAny (model X.prog X.w) X.A (getItem v (.ref sl)) (EP X pins σ Q) X.xe s
noncomputable def tSl (r:V->Option Int->Option Int->Hp->VK->Prop) (te:TE) (tl th:TO):TE:=λσ H Q=>te σ H λx H1=>tl σ H1 λl H2=>th σ H2 λu H3=>r x l u H3 Q
theorem mU {r:V->Option Int->Option Int->Hp->VK->Prop} (hr:SlR X r) (he:PE X e te) (hl:PO X lo tl) (hu:PO X hi th):PE X (.Subscript e (.Slice lo hi none p2) pos) (tSl r te tl th):=by
 intro pins s σ H Q I h
 refine Subscript_ (thn (he pins s σ H _ I h) λv s1 ⟨x,H1,I1,r1,q1⟩=>?_)
 refine wpAny_Slice (thn (hl pins s1 σ H1 _ I1 q1) λvl s2 ⟨l,H2,I2,pl,q2⟩=>thn (hu pins s2 σ H2 _ I2 q2) λvu s3 ⟨u,H3,I3,pu,q3⟩=>?_)
 rw [evalPart_none]
 refine wpAny_pure ?_
 have I4:Inv X pins σ H3 { s3 with heap:=s3.heap.push { cls:=.type "slice",data:=.fields #[vl,vu,.none] } }:=I3.kept (t':=s3.toks) λb ob q=>Heap.get?_push_of_some _ q
 obtain ⟨T,id,hT,ht,hg⟩:=hr pins { s3 with heap:=s3.heap.push { cls:=.type "slice",data:=.fields #[vl,vu,.none] } } σ H3 x v vl vu l u s3.heap.objs.size Q I4 r1 (Heap.IsSliceOf.new ..) pl pu q3
 show wpAny (model X.prog X.w) X.A (subscriptTail e (.Slice lo hi none p2) v (.ref s3.heap.objs.size)) (EP X pins σ Q) X.xe { s3 with heap:=s3.heap.push { cls:=.type "slice",data:=.fields #[vl,vu,.none] } }
 exact tail_any (ops:=[.ref s3.heap.objs.size,v]) ht hT hg (by with_unfolding_all rfl)
noncomputable def lz (xs:List V) (lo hi:Option Int):List V:=(xs.drop (HT.sIx xs.length 0 lo)).take (HT.sIx xs.length xs.length hi - HT.sIx xs.length 0 lo)
theorem jl (xs:List V) (lo hi:Option Int):(lz xs lo hi).length<=xs.length:=by
 unfold lz
 rw [List.length_take,List.length_drop]
 omega
end
noncomputable def ixN (n:Nat) (i:Int):Option Nat:=if 0<=i then (if i < n then some i.toNat else none) else if -(n:Int)<=i then some (i + n).toNat else none
noncomputable def atI {α:Type} (xs:List α) (i:Int):Option α:=(ixN xs.length i).bind λj=>xs[j]?
theorem oG {n:Nat} {i:Int} {j:Nat} (h:ixN n i=some j):seqIndex? i n=some j/\j < n/\-(n:Int)<=i/\i < n:=by
 unfold ixN at h
 by_cases h0:0<=i
 · rw [if_pos h0] at h
   by_cases h1:i < n
   · rw [if_pos h1] at h
     have e:i.toNat=j:=Option.some.inj h
     exact ⟨by rw [seqIndex_of h0 h1,e],by omega,by omega,h1⟩
   · rw [if_neg h1] at h; cases h
 · rw [if_neg h0] at h
   by_cases h1:-(n:Int)<=i
   · rw [if_pos h1] at h
     have e:(i + n).toNat=j:=Option.some.inj h
     exact ⟨by rw [seqIndex_neg (by omega) h1,e],by omega,h1,by omega⟩
   · rw [if_neg h1] at h; cases h
theorem kr {α:Type} {xs:List α} {i:Int} {v:α} (h:atI xs i=some v):∃ j,seqIndex? i xs.length=some j/\xs[j]?=some v/\j < xs.length/\-(xs.length:Int)<=i/\i < xs.length:=by
 unfold atI at h
 cases e:ixN xs.length i with
 | none=>rw [e] at h; cases h
 | some j=>
   rw [e] at h
   obtain ⟨h1,h2,h3,h4⟩:=oG e
   exact ⟨j,h1,h,h2,h3,h4⟩
noncomputable def fq (b:Expr):Prop:=∀ o i,subscripted b false o i=operate [o,i] (getItem o i)
noncomputable def IxR (X:Cx) (r:R2):Prop:=
 ∀ (value slice:Expr) (pins:List (Addr × Obj)) (s:Shared) (σ:St) (H:Hp) (x y:V) (v u:Value) (Q:VK),Inv X pins σ H s->RelV x v->RelV y u->r x y H Q ->
   subscripted slice false v u=operate [v,u] (getItem v u)->wpAny (model X.prog X.w) X.A (subscriptTail value slice v u) (EP X pins σ Q) X.xe s
noncomputable def MtR (X:Cx) (id:String) (r:V->List V->Hp->VK->Prop):Prop:=
 ∀ (pins:List (Addr × Obj)) (s:Shared) (σ:St) (H:Hp) (x:V) (xs:List V) (v:Value) (us:List Value) (Q:VK),Inv X pins σ H s->RelV x v->Vals xs us->r x xs H Q ->
   wpAny (model X.prog X.w) X.A (call (.builtin id) (v :: us)) (EP X pins σ Q) X.xe s
section
variable {X:Cx} {a b:Expr} {ta tb:TE} {pos:Pos}
theorem dh {r:R2} (hr:IxR X r) (ha:PE X a ta) (hb:PE X b tb) (hs:fq b):PE X (.Subscript a b pos) (tOp r ta tb):=by
 intro pins s σ H Q I h
 exact Subscript_ (qP ha hb I h λv u s2 x y H2 I2 rx ry q=>hr a b pins s2 σ H2 x y v u Q I2 rx ry q (hs _ _))
noncomputable def uf (K:PySem.W.Frag):R2:=λx y H Q=>∃ p xs i v,x=.ref p/\y=.int i/\SqL K H p xs/\atI xs i=some v/\Q v H
noncomputable def uQ (K:PySem.W.Frag):R2:=λx y H Q=>∃ p xs i v,x=.ref p/\y=.int i/\SqT K H p xs/\atI xs i=some v/\Q v H
theorem iW:IxR X (uf X.K):=by
 intro value slice pins s σ H x y v u Q I rx ry h hs
 obtain ⟨p,xs,i,z,rfl,rfl,hq,he,q⟩:=h
 cases rx
 obtain ⟨t,rfl⟩:=ry
 obtain ⟨its,r,pl,hz⟩:=I.list hq
 obtain ⟨j,h1,h2,h3,h4,h5⟩:=kr he
 obtain ⟨w,ew,rw'⟩:=r.get h2
 have hl:=r.length
 have hn:=jZ
 have fin:EP X pins σ Q w s:=⟨z,H,I,rw',q⟩
 by_cases h0:0<=i
 · have hj:i.toNat=j:=by
     rw [seqIndex_of h0 h5] at h1
     exact Option.some.inj h1
   exact item_listR pl.isList h0 (by omega) (by rw [hj]; simpa using ew) fin hs
 · have hj:(i + (its.toArray.size:Int)).toNat=j:=by
     rw [seqIndex_neg (by omega) h4] at h1
     rw [List.size_toArray,<- hl]
     exact Option.some.inj h1
   exact subscriptTail_builtinR (x:=w) pl.isList.typeIs slot_list_getitem.lookup
     (wpAny_getItem_list_neg (Q:=λr s'=>r=w/\EP X pins σ Q r s') pl.isList (by omega) (by rw [List.size_toArray] <;> omega) (by omega) (by rw [hj]; simpa using ew) ⟨rfl,fin⟩) hs
theorem cL:IxR X (uQ X.K):=by
 intro value slice pins s σ H x y v u Q I rx ry h hs
 obtain ⟨p,xs,i,z,rfl,rfl,hq,he,q⟩:=h
 cases rx
 obtain ⟨t,rfl⟩:=ry
 obtain ⟨its,r,pl,hz⟩:=I.tuple hq
 obtain ⟨j,h1,h2,h3,h4,h5⟩:=kr he
 obtain ⟨w,ew,rw'⟩:=r.get h2
 have hl:=r.length
 have hn:=jZ
 have fin:EP X pins σ Q w s:=⟨z,H,I,rw',q⟩
 exact subscriptTail_builtinR (x:=w) pl.typeIs slot_tuple_getitem.lookup
   (getItem_tuple (j:=j) (Q:=λr s'=>r=w/\EP X pins σ Q r s') pl (by omega) (by omega) (by rw [List.size_toArray,<- hl]; exact h1) (by simpa using ew) ⟨rfl,fin⟩) hs
theorem iw (lo hi:Option Int) (n:Nat):(sliceBounds lo hi none n).1=((HT.sIx n 0 lo:Nat):Int)/\(sliceBounds lo hi none n).2.1=((HT.sIx n n hi:Nat):Int)/\(sliceBounds lo hi none n).2.2=1:=by
 refine ⟨?_,?_,rfl⟩
 · cases lo with
   | none=>simp [sliceBounds,HT.sIx]
   | some i=>
     simp only [sliceBounds,HT.sIx,Option.getD_none,show (1:Int) > 0 by decide,if_true]
     by_cases h:i < 0
     · simp only [h,if_true] <;> omega
     · simp only [h,if_false] <;> omega
 · cases hi with
   | none=>simp [sliceBounds,HT.sIx]
   | some i=>
     simp only [sliceBounds,HT.sIx,Option.getD_none,show (1:Int) > 0 by decide,if_true]
     by_cases h:i < 0
     · simp only [h,if_true] <;> omega
     · simp only [h,if_false] <;> omega
theorem gC (its:List Value) (lo hi:Option Int):slicePick its.toArray lo hi none=((its.drop (HT.sIx its.length 0 lo)).take (HT.sIx its.length its.length hi - HT.sIx its.length 0 lo)).toArray:=by
 obtain ⟨h1,h2,h3⟩:=iw lo hi its.toArray.size
 unfold slicePick
 rw [h1,h2,h3]
 simp only [sliceRange_one,pick_run,List.size_toArray] <;> rfl
noncomputable def uw (K:PySem.W.Frag):V->Option Int->Option Int->Hp->VK->Prop:=λx lo hi H Q=>∃ a xs,x=.ref a/\SqL K H a xs/\∀ p,H p=none->Q (.ref p) (upd H p (.lst (lz xs lo hi)))
theorem pe:SlR X (uw X.K):=by
 intro pins s σ H x v vl vu lo hi sl Q I rx hs pl pu h
 obtain ⟨a,xs,rfl,hx,q⟩:=h
 cases rx
 obtain ⟨its,r,ht,hz⟩:=I.list hx
 have hlen:=r.length
 refine ⟨"list",_,slot_list_getitem.lookup,ht.isList.typeIs,?_⟩
 refine wpAny_getItem_list_slice ht.isList hs pl pu .none (by simp) ?_ (by rw [List.size_toArray] <;> omega)
 rw [gC,<- hlen]
 refine ⟨.ref s.heap.objs.size,_,I.laid (t':=s.toks) (o:=.lst (lz xs lo hi)) (λb ob q=>Heap.get?_push_of_some _ q) (Nat.le_refl _) ?_,rfl,q _ (I.hok.fresh (Nat.le_refl _))⟩
 exact ⟨Nat.le_trans (jl xs lo hi) hz,_,0,(r.drop (HT.sIx xs.length 0 lo)).take (HT.sIx xs.length xs.length hi - HT.sIx xs.length 0 lo),Heap.get?_push_size _ rfl⟩
theorem iO:cR X (.builtin "len") (λxs H Q=>∃ p ys,xs=[.ref p]/\(SqL X.K H p ys\/SqT X.K H p ys)/\Q (.int ys.length) H):=by
 intro pins s σ H xs us Q I r h
 obtain ⟨p,ys,rfl,hq,q⟩:=h
 obtain ⟨u,rfl,rx⟩:=vals1 r
 cases rx
 have hn:=jZ
 rcases hq with hq | hq
 · obtain ⟨its,r',pl,hz⟩:=I.list hq
   have hlen:=r'.length
   exact Calls.call_len_list pl.isList (by simp only [List.size_toArray] <;> omega) ⟨.int ys.length,H,I.tok _,⟨s.toks + 1,by rw [List.size_toArray,hlen]⟩,q⟩
 · obtain ⟨its,r',pl,hz⟩:=I.tuple hq
   have hlen:=r'.length
   exact len_tuple pl (by simp only [List.size_toArray] <;> omega) ⟨.int ys.length,H,I.tok _,⟨s.toks + 1,by rw [List.size_toArray,hlen]⟩,q⟩
theorem iR:cR X (.type "list") (λxs H Q=>∃ p ys,xs=[.ref p]/\(SqL X.K H p ys\/SqT X.K H p ys)/\∀ l,H l=none->Q (.ref l) (upd H l (.lst ys))):=by
 intro pins s σ H xs us Q I r h
 obtain ⟨p,ys,rfl,hq,q⟩:=h
 obtain ⟨u,rfl,rx⟩:=vals1 r
 cases rx
 have fin:∀ (its:List Value),Vals ys its->ys.length<=sizeLine->∀ (h':Heap) (c':Nat),(∀ b o',s.heap.get? b=some o'->h'.get? b=some o') ->
     h'.get? s.heap.objs.size=some { cls:=.type "list",dict:=none,data:=.seq its.toArray c',slots:=#[] }->EP X pins σ Q (.ref s.heap.objs.size) { s with heap:=h' }:=λits r' hz h' c' kp e=>
   ⟨.ref s.heap.objs.size,_,I.laid (t':=s.toks) kp (Nat.le_refl _) (show br X.prog X.w _ h' _ (.lst ys) from ⟨hz,its,c',r',e⟩),rfl,q _ (I.hok.fresh (Nat.le_refl _))⟩
 rcases hq with hq | hq
 · obtain ⟨its,r',pl,hz⟩:=I.list hq
   have hlen:=r'.length
   obtain ⟨o,ho,hc,n,hd⟩:=pl.isList
   exact call_list_seq p (.inl rfl) ho hc hd (λh' c' kp e=>fin its r' hz h' c' kp e) (by simp only [List.size_toArray] <;> omega)
 · obtain ⟨its,r',pl,hz⟩:=I.tuple hq
   have hlen:=r'.length
   obtain ⟨o,ho,hc,n,hd⟩:=pl
   exact call_list_seq p (.inr rfl) ho hc hd (λh' c' kp e=>fin its r' hz h' c' kp e) (by simp only [List.size_toArray] <;> omega)
noncomputable def tyV (K:PySem.W.Frag) (T:String) (x:V) (H:Hp):Prop:=match x with
 | .str _=>T = "str"
 | .int _=>T = "int"
 | .ref p=>(T = "list" /\ ∃ xs,SqL K H p xs)\/(T = "tuple" /\ ∃ o,K.lookup p=some o/\o.cls=.type "tuple" /\ o.dict=none) \/
     (T = "dict" /\ ((∃ kvs,H p=some (.dK kvs))\/∃ kvs,H p=some (.dT kvs)))\/(T = "set" /\ ∃ S n,H p=some (.set S n))
 | _=>False
theorem nJ {pins:List (Addr × Obj)} {σ:St} {H:Hp} {s:Shared} {T:String} {x:V} {v:Value} (I:Inv X pins σ H s) (r:RelV x v) (ty:tyV X.K T x H) :
   s.TypeIs v T/\∀ a,v=.ref a->∃ ob,s.heap.get? a=some ob/\ob.dict=none:=by
 cases x with
 | str z=>
   obtain ⟨t,rfl⟩:=r
   cases (show T = "str" from ty)
   exact ⟨typeIs_str s z t,λ_ e=>nomatch e⟩
 | int i=>
   obtain ⟨t,rfl⟩:=r
   cases (show T = "int" from ty)
   exact ⟨typeIs_int s i t,λ_ e=>nomatch e⟩
 | ref p=>
   cases r
   rcases ty with ⟨rfl,xs,hq⟩ | ⟨rfl,o,hk,hc,hd⟩ | ⟨rfl,hk⟩ | ⟨rfl,S,n,hk⟩
   · obtain ⟨its,_,pl,_⟩:=I.list hq
     refine ⟨pl.isList.typeIs,λa e=>?_⟩
     cases e
     obtain ⟨o,n,e,c,hd,_⟩:=pl
     exact ⟨o,e,hd⟩
   · refine ⟨⟨o,I.kIn p o hk,hc⟩,λa e=>?_⟩
     cases e
     exact ⟨o,I.kIn _ o hk,hd⟩
   · have z:∃ o,s.heap.get? p=some o/\o.ExactDict:=by
       rcases hk with ⟨kvs,hk⟩ | ⟨kvs,hk⟩
       · obtain ⟨_,_,_,_,o,_,_,e,ex,_⟩:=I.hok p _ hk
         exact ⟨o,e,ex⟩
       · obtain ⟨_,_,_,_,o,_,_,e,ex,_⟩:=I.hok p _ hk
         exact ⟨o,e,ex⟩
     obtain ⟨o,e,ex⟩:=z
     refine ⟨⟨o,e,ex.1⟩,λa e2=>?_⟩
     cases e2
     exact ⟨o,e,ex.2.1⟩
   · obtain ⟨o,_,_,_,e,ex,_⟩:=I.hok p _ hk
     refine ⟨⟨o,e,ex.1⟩,λa e2=>?_⟩
     cases e2
     exact ⟨o,e,ex.2.1⟩
 | _=>exact False.elim ty
noncomputable def um (K:PySem.W.Frag) (T:String) (r:V->List V->Hp->VK->Prop) (to:TE):TE:=λσ H Q=>to σ H λx H1=>tyV K T x H1/\r x [] H1 Q
noncomputable def tBM (K:PySem.W.Frag) (T:String) (r:V->List V->Hp->VK->Prop) (to:TE) (t:TA):TE:=λσ H Q=>to σ H λx H1=>tyV K T x H1/\t σ H1 λxs H2=>r x xs H2 Q
variable {o e:Expr} {es:List Expr} {to:TE} {t:TA} {name:Str} {apos cpos:Pos} {T id:String} {r:V->List V->Hp->VK->Prop}
theorem q0 (pa:PlainAttrs T) (slot:Slot T name id) (hty:typeOf (.builtin id)=pure (.type "method_descriptor")) (hm:MtR X id r) (ho:PE X o to)
   (hbase:attributeBase o name X.env (eval o X.env)=eval o X.env:=by rfl) (hline:(apos.endLine == cpos.line)=true:=by rfl):PE X (.Call (.Attribute o name apos) [] [] cpos) (um X.K T r to):=by
 intro pins s σ H Q I h
 refine wpAny_Call_method0_late hbase hline (thn (ho pins s σ H _ I h) λv s1 ⟨x,H1,I1,r1,ty,q1⟩=>?_)
 obtain ⟨h1,h2⟩:=nJ I1 r1 ty
 exact ⟨T,id,pa,slot,hty,h1,h2,Calls.callWith_builtin rfl (PySem.evalArgs_none (hm pins s1 σ H1 x [] v [] Q I1 r1 .nil q1))⟩
theorem mR (pa:PlainAttrs T) (slot:Slot T name id) (hty:typeOf (.builtin id)=pure (.type "method_descriptor")) (hm:MtR X id r) (ho:PE X o to) (ha:PA X (e :: es) t)
   (hbase:attributeBase o name X.env (eval o X.env)=eval o X.env:=by rfl)
   (hfew:((backTo cpos (starEach (e :: es) X.env)).all (λx=>!x.1) && (backToKw cpos (keywordEach [] X.env)).all (λx=>x.1.isSome)
     && decide ((e :: es).length + ([]:List Keyword).length + (if ([]:List Keyword).isEmpty then 0 else 1) < 30))=true:=by rfl)
   (hline:(apos.endLine == cpos.line)=true:=by rfl) (hs:starEach (e :: es) X.env=(false,eval e X.env) :: starEach es X.env:=by rfl) (hplain:(backTo cpos (starEach es X.env)).any (·.1)=false:=by rfl) :
   PE X (.Call (.Attribute o name apos) (e :: es) [] cpos) (tBM X.K T r to t):=by
 intro pins s σ H Q I h
 refine wpAny_Call_method_late hbase hfew hline rfl (thn (ho pins s σ H _ I h) λv s1 ⟨x,H1,I1,r1,ty,q1⟩=>?_)
 obtain ⟨h1,h2⟩:=nJ I1 r1 ty
 refine ⟨T,id,pa,slot,hty,h1,h2,?_⟩
 have hA:=ha cpos pins s1 σ H1 _ I1 q1
 rw [hs] at hA ⊢
 refine Calls.callWith_builtin (by show (false || (backTo cpos (starEach es X.env)).any (·.1))=false; rw [hplain] <;> rfl) (Calls.evalArgs_plain ?_)
 exact thn hA λus s2 ⟨vs,H2,I2,r2,q2⟩=>hm pins s2 σ H2 x vs v us Q I2 r1 r2 q2
end
noncomputable def MtM (X:Cx) (id:String) (r:V->List V->Hp->VK->Prop):Prop:=
 ∀ (pins:List (Addr × Obj)) (s:Shared) (σ:St) (H:Hp) (x:V) (xs:List V) (v:Value) (us:List Value) (Q:VK),Inv X pins σ H s->RelV x v->Vals xs us->r x xs H Q ->
   wpAny (model X.prog X.w) X.A (call (.builtin id) (v :: us)) (EP X pins σ Q) X.xe s
theorem Vals.one:∀ {x:V} {us:List Value},Vals [x] us->∃ u,us=[u]/\RelV x u
 | _,_,.cons r .nil=>⟨_,rfl,r⟩
theorem Vals.two:∀ {x y:V} {us:List Value},Vals [x,y] us->∃ u v,us=[u,v]/\RelV x u/\RelV y v
 | _,_,_,.cons r (.cons q .nil)=>⟨_,_,rfl,r,q⟩
theorem Vals.zero:∀ {us:List Value},Vals [] us->us=[]
 | _,.nil=>rfl
section
variable {X:Cx} {pins:List (Addr × Obj)} {σ:St} {H:Hp} {s:Shared} {l b:Addr} {xs ys zs:List V}
theorem Inv.sk {its its':List Value} {n:Nat} {f:Array Value->Array Value} {t':Nat} (I:Inv X pins σ H s) (hH:H l=some (.lst xs))
   (e:s.heap.get? l=some { cls:=.type "list",data:=.seq its.toArray n }) (hf:f its.toArray=its'.toArray) (hv:Vals ys its') (hz:ys.length<=sizeLine) :
   Inv X pins σ (upd H l (.lst ys)) { s with heap:=s.heap.update l (Obj.mapSeq f),toks:=t' }:=by
 have q:=PySem.IsL.update e f
 rw [hf] at q
 refine I.write (x:=l) (e:=l) (by rw [hH]; exact trivial) (.inl rfl) (λb' u hb hu=>(Heap.get?_update_other s.heap (Obj.mapSeq f) (Ne.symm hb)).trans hu) ⟨_,q⟩ ?_
 exact ⟨hz,its',_,hv,q⟩
theorem Inv.uS {its:List Value} {t':Nat} (I:Inv X pins σ H s) (hv:Vals ys its) (hz:ys.length<=sizeLine) :
   Inv X pins σ (upd H s.heap.objs.size (.lst ys)) { s with heap:=s.heap.push { cls:=.type "list",data:=.seq its.toArray },toks:=t' }:=
 I.laid (λ_ _ q=>Heap.get?_push_of_some _ q) (Nat.le_refl _) ⟨hz,its,0,hv,Heap.get?_push_size _ rfl⟩
theorem Inv.fresh (I:Inv X pins σ H s):H s.heap.objs.size=none:=I.hok.fresh (Nat.le_refl _)
theorem Inv.su (I:Inv X pins σ H s) (hH:H l=some (.lst xs)):xs.length<=sizeLine/\∃ (its:List Value) (n:Nat),Vals xs its/\xs.length=its.length/\s.heap.get? l=some { cls:=.type "list",data:=.seq its.toArray n }:=by
 obtain ⟨z,its,n,r,e⟩:=I.hok l _ hH
 exact ⟨z,its,n,r,r.length,e⟩
end
section
variable {X:Cx}
noncomputable def pS:V->List V->Hp->VK->Prop:=λx vs H Q=>∃ l xs y,x=.ref l/\vs=[y]/\H l=some (.lst xs)/\xs.length < sizeLine/\Q .non (upd H l (.lst (xs++[y])))
theorem cb:MtM X "list.append" pS:=by
 intro pins s σ H x vs v us Q I rx rv h
 obtain ⟨l,xs,y,rfl,rfl,hH,hz,q⟩:=h
 cases rx
 obtain ⟨u,rfl,ru⟩:=rv.one
 obtain ⟨z,its,n,r,hl,e⟩:=I.su hH
 refine call_meets F.slot_list_append ⟨_,e,rfl⟩ F.entry_list_append (F.args_list_append_2 _ _) (PySem.list_append l its.toArray n u (by rw [List.size_toArray]; omega)) ⟨e,?_⟩
 refine ⟨.non,_,I.sk (its':=its++[u]) hH e (by simp) (r.append (.cons ru .nil)) ?_,rfl,q⟩
 rw [List.length_append,List.length_singleton]
 omega
noncomputable def qT:V->List V->Hp->VK->Prop:=λx vs H Q=>∃ l xs,x=.ref l/\vs=[]/\H l=some (.lst xs)/\Q .non (upd H l (.lst []))
theorem mG:MtM X "list.clear" qT:=by
 intro pins s σ H x vs v us Q I rx rv h
 obtain ⟨l,xs,rfl,rfl,hH,q⟩:=h
 cases rx
 have hus:=rv.zero
 subst hus
 obtain ⟨z,its,n,r,hl,e⟩:=I.su hH
 refine call_meets F.slot_list_clear ⟨_,e,rfl⟩ F.entry_list_clear (F.args_list_clear_1 _) (AutoSeq1.list_clear_list_0 l its.toArray n (by rw [List.size_toArray]; omega)) ⟨e,?_⟩
 exact ⟨.non,_,I.sk (its':=[]) (ys:=[]) hH e rfl .nil (Nat.zero_le _),rfl,q⟩
end
section
variable {prog:Program} {w:World} {A:Around} {E:Value->Shared->Prop} {s:Shared}
end
section
variable {X:Cx}
end
end L2
namespace Att
open PySem PySem.W PySem.Calls PyProof.Rows
theorem eZ {P:Params} {h:Heap}:∀ (ns:List Int) (vs:List Value),WellAll P h vs (ns.map WData.int)->IntsAre vs ns:=by
 intro ns
 induction ns with
 | nil=>
   intro vs w
   rw [List.map_nil] at w
   cases w
   exact .nil
 | cons n ns ih=>
   intro vs w
   rw [List.map_cons] at w
   cases w with
   | cons a b=>
     cases a
     exact .cons _ _ (ih _ b)
theorem lX {l:OpenLaw} {n:Nat} (hn:l.most=some n) {P:Params} {h:Heap} {args:List WData} {vals:List Value}
   (hpre:l.row.toRowW.claim.pre args=true) (hwl:WellAll P h vals args) :
   ∃ a vs ns,vals=[Value.ref a]/\args=[WData.list (ns.map WData.int)]/\h.get? a=some { cls:=.type "list",data:=.seq vs.toArray }/\IntsAre vs ns/\ns.length<=n:=by
 have hsh:WShape.hasAll [] args [.list .int]=true:=(pre_splitW hpre).1
 have hc:l.pre.holds [] { args:=args }=true:=(pre_splitW hpre).2
 obtain ⟨d,r,rfl,h1,h2⟩:=hasAllW_cons hsh
 obtain rfl:=hasAllW_nil h2
 obtain ⟨xs,rfl,h3⟩:=hasW_list h1
 obtain ⟨ns,rfl⟩:=items_int h3
 have hlen:ns.length<=n:=by
   unfold OpenLaw.pre at hc
   have h4:(WTm.not (.lt (.lit (.int (n:Int))) (.len (.arg 0)))).holds [] { args:=[.list (ns.map .int)] }=true:=by
     have h4:=(holds_andW hc).1
     rw [hn] at h4
     exact h4
   have h5:=condW_of h4 (w_not (w_lt w_lit (w_len_list (w_arg rfl))))
   rw [List.length_map] at h5
   refine Nat.le_of_not_lt λq=>?_
   have q':(n:Int) < ((ns.length:Nat):Int):=by omega
   first
     | (rw [decide_eq_true q'] at h5; exact absurd h5 (by decide))
     | (simp at h5; omega)
 cases hwl with
 | cons w1 w2=>
   cases w2
   cases w1 with
   | list ho hall=>exact ⟨_,_,ns,rfl,rfl,ho,eZ ns _ hall,hlen⟩
theorem lE (l:OpenLaw) (args:List WData):l.row.toRowW.claim.post args (.bool true) args=true:=
 postW_of (r:=l.row.toRowW) (X:=(true == true))
   (show WShape.has [] (.bool true) .bool=true by first | rfl | decide | simp [WShape.has,WShape.arms,WShape.armsAll])
   (show (WTm.eq .res (.lit (.bool true))).value [] { args:=args,res:=some (.bool true),after:=args }=some (.bool (true == true)) from w_eq_bool (w_res rfl) w_lit) rfl
theorem jj {l:OpenLaw} {n:Nat} {q:Program} {loose:List Str} {XP:(Str->Option Value)->Heap->Prop} {YP:World->Heap->Prop} {d:DefRec}
   (hn:l.most=some n) (hdf:d.params.defaults=[])
   (call:∀ (w:World) (s₀ s₁:Shared) (mg mb:Str->Option Value) (fa:Addr) (o:Obj) (pm cd doc:Value) (a:Addr) (vs:List Value) (ns:List Int),
     Ground q loose [] XP w s₀ mg mb s₁.heap->YP w s₁.heap ->
     s₁.heap.get? fa=some o->o.data=.func (docDef d.name d.params d.body d.scope pm cd doc)->s₁.heap.CodeRec cd d.name->mg d.name=some (.ref fa) ->
     s₁.heap.get? a=some { cls:=.type "list",data:=.seq vs.toArray }->IntsAre vs ns->ns.length<=n->s₁.gens=#[] ->
     codeAny (model l.prog w) callerA (.call (.ref fa) ⟨[.ref a],[]⟩) (λr s'=>r=.ok (.ret (.bool true))/\OldK s₁.heap s'.heap/\s'.os=s₁.os/\AllBare s'.gens) s₁) :
   WalkO q loose XP YP l.row.toRowW d [] (λf vs=>PySem.call f vs):=by
 intro w s₀ s₁ mg mb G Y fa o pm cd doc dV kV ho hd hcd hD hmg hg args vals as hpre hlay hrd hwl hlo
 obtain rfl:dV=.none:=Dflts.none hD hdf
 obtain rfl:kV=.none:=Dflts.noKw hD
 obtain ⟨a,vs,ns,rfl,rfl,hobj,hints,hlen⟩:=lX hn hpre hwl
 refine enter_call (codeAny_mono (call w s₀ s₁ mg mb fa o pm cd doc a vs ns G Y ho (fd_plain hd) hcd hmg hobj hints hlen hg) λr s' hq=>?_)
 obtain ⟨rfl,h2,h3,h4⟩:=hq
 exact ⟨.inl ⟨.bool true,.bool true,[],rfl,λ_=>rfl,.bool true,lE l _,λ_=>⟨List.Pairwise.nil,λ_ hm=>(nomatch hm)⟩⟩,h2,h3,h4⟩
section
variable {prog:Program} {w:World} {A:Around} {E:Value->Shared->Prop} {s:Shared} {K:Frag}
end
end Att
namespace L2
open PySem PySem.Spec PyProof.Rows
theorem gW:∀ {vs:List Value} {ns:List Int},IntsAre vs ns->Vals (ns.map V.int) vs
 | _,_,.nil=>.nil
 | _,_,.cons n t h=>.cons ⟨t,rfl⟩ (gW h)
noncomputable def qJ (H:Hp):Prop:=∀ b,H b=none\/∃ o xs,H b=some (.frz o (.lst xs))
theorem nG {P:Program} {w:World} {K:PySem.W.Frag} {mg mb:Str->Option Value} {CX:CXT} {k:Nat} {fa a:Addr} {fd:FuncData} {x:Str} {sp:Sp} {s₁:Shared} {vs:List Value} {ns:List Int}
   (KX:K.In s₁.heap) (hns:s₁.heap.Ns mainGlobals mg) (hb:s₁.heap.Ns builtinsNs mb) (hbb:∀ x:Str,x ≠ "__name__" -> mb x=bootBuiltins x) (hlim:s₁.heap.NoLimit) (hg:s₁.gens=#[])
   (ha:s₁.heap.get? a=some { cls:=.type "list",data:=.seq vs.toArray }) (hi:IntsAre vs ns) (hl:ns.length<=sizeLine) (hr:b9 k callerA)
   (F:∀ base:Heap,K.In base->base.Ns mainGlobals mg->aP P w K mg base CX k fa fd [x] sp) (hbind:∀ (s:Shared) (u:Value),BindsTo s fd ⟨[u],[]⟩ [(x,u)])
   (hsp:∀ H:Hp,qJ H->SqL K H a (ns.map V.int)->sp [.ref a] H (λv _=>v=.bl true) λ_ _ _=>False)
   (hCX:∀ H e s',CX [] H s₁ (λ_ _ _=>False) e s'->False) :
   codeAny (model P w) callerA (.call (.ref fa) ⟨[.ref a],[]⟩) (λr s'=>r=.ok (.ret (.bool true))/\OldK s₁.heap s'.heap/\s'.os=s₁.os/\AllBare s'.gens) s₁:=by
 have rv:=gW hi
 have lenV:=hi.length
 have core:∀ H:Hp,qJ H->SqL K H a (ns.map V.int)->HOk P w H s₁.heap->(∀ b,H b ≠ none->b=a)->(H a ≠ none->K.lookup a=none) ->
     codeAny (model P w) callerA (.call (.ref fa) ⟨[.ref a],[]⟩) (λr s'=>r=.ok (.ret (.bool true))/\OldK s₁.heap s'.heap/\s'.os=s₁.os/\AllBare s'.gens) s₁:=by
   intro H hO hS hok hA hK
   have base_of:∀ {b:Addr} {o:Obj},s₁.heap.get? b=some o->H b=none->(iU s₁.heap H).get? b=some o:=λe n=>ni e n
   have noA:∀ {b:Addr} {o:Obj} {es:Array DictEntry} {ep:Nat},s₁.heap.get? b=some o->o.data=.dict es ep->H b=none:=λ{b o es ep} e d=>by
     cases q:H b with
     | none=>rfl
     | some u=>
       have e':b=a:=hA b (by rw [q]; simp)
       subst e'
       rw [ha] at e; cases e
       have d':Data.seq vs.toArray _=Data.dict es ep:=d
       cases d'
   have nsK:∀ {b:Addr} {m:Str->Option Value},s₁.heap.Ns b m->(iU s₁.heap H).Ns b m:=λ{b m} ⟨o,es,ep,e,d,r⟩=>⟨o,es,ep,base_of e (noA e d),d,r⟩
   have hKb:K.In (iU s₁.heap H):=λb o e=>base_of (KX b o e) (by
     cases q:H b with
     | none=>rfl
     | some u=>
       have e':b=a:=hA b (by rw [q]; simp)
       subst e'
       rw [hK (by rw [q]; simp)] at e; cases e)
   have hM:Mod K mg (iU s₁.heap H):=⟨hKb,nsK hns,⟨mb,nsK hb,hbb⟩,let ⟨mc,h1,h2⟩:=hlim; ⟨mc,nsK h1,h2⟩⟩
   have e0:my P w K mg (iU s₁.heap H) callerA [] s₁ H:=⟨rfl,hM,λb o e=>pZ e,Nat.le_of_eq (lA _ _),trivial,λb hb=>absurd (show b ∈ ([]:List Addr) from hb) (by simp),hok,.of_eq hg⟩
   refine codeAny_mono ((F _ hKb (nsK hns)).run callerA [] s₁ H ⟨[.ref a],[]⟩ [.ref a] [.ref a] _ _ hr e0 (hbind s₁ (.ref a)) (.cons rfl .nil) (hsp H hO hS)) λr s' h=>?_
   cases r with
   | error e=>exact (hCX H e s' h).elim
   | ok fl=>
     cases fl with
     | next=>exact False.elim h
     | brk=>exact False.elim h
     | cont=>exact False.elim h
     | ret u=>
       obtain ⟨v,H',os,bare,un,hok',r',q⟩:=h
       have q':v=.bl true:=q
       subst q'
       obtain rfl:u=Value.bool true:=r'
       refine ⟨rfl,OldK.of_keep λb o e=>?_,os,bare⟩
       cases q:H b with
       | none=>exact un.keep b o e q (by intro z; exact absurd (show b ∈ ([]:List Addr) from z) (by simp)) (by simp)
       | some u=>
         rcases hO b with z | ⟨ob,xs,z⟩
         · rw [q] at z; cases z
         · have z2:=un.frzs b ob _ z
           obtain ⟨e1,_⟩:=hok b _ z
           obtain ⟨e2,_⟩:=hok' b _ z2
           rw [e] at e1; cases e1
           exact e2
 cases hk:K.lookup a with
 | some o=>
   have e:=KX a o hk
   rw [ha] at e
   cases e
   refine core (λ_=>none) (λ_=>.inl rfl) (.inr ⟨_,vs.toArray,_,hk,rfl,rfl,rfl,by rw [List.size_toArray,lenV]; exact hl,by simpa using rv⟩) (λb u z=>by have z':(none:Option HO)=some u:=z; cases z') (λb z=>absurd rfl z) λz=>absurd rfl z
 | none=>
   refine core (λb=>if b=a then some (.frz { cls:=.type "list",data:=.seq vs.toArray } (.lst (ns.map V.int))) else none) (λb=>?_) (.inl (.inr ⟨{ cls:=.type "list",data:=.seq vs.toArray },if_pos rfl⟩)) (λb u z=>?_) (λb z=>?_) λ_=>hk
   · by_cases hb:b=a
     · exact .inr ⟨_,_,if_pos hb⟩
     · exact .inl (if_neg hb)
   · by_cases hb:b=a
     · have z':=(if_pos hb).symm.trans z
       cases z'
       subst hb
       exact ⟨ha,by rw [List.length_map]; exact hl,vs,_,rv,ha⟩
     · have z':=(if_neg hb).symm.trans z
       cases z'
   · by_cases hb:b=a
     · exact hb
     · exact absurd (if_neg hb) z
theorem pT {l:PySem.W.OpenLaw} {n k:Nat} {q:Program} {loose:List Str} {XP:(Str->Option Value)->Heap->Prop} {YP:World->Heap->Prop} {d:DefRec} {K:Params->PySem.W.Frag} {CX:World->CXT} {sp:World->Sp} {x:Str}
   (hn:l.most=some n) (hn2:n<=sizeLine) (hdf:d.params.defaults=[]) (hr:b9 k callerA)
   (hY:∀ (w:World) (h:Heap),YP w h->(K w.params).In h)
   (F:∀ (w:World) (mg:Str->Option Value) (fa:Addr) (h:Heap),(K w.params).In h->h.Ns mainGlobals mg->mg d.name=some (.ref fa) ->
     ∃ fd:FuncData,(∀ (s:Shared) (u:Value),BindsTo s fd ⟨[u],[]⟩ [(x,u)]) /\
       ∀ base:Heap,(K w.params).In base->base.Ns mainGlobals mg->aP l.prog w (K w.params) mg base (CX w) k fa fd [x] (sp w))
   (hsp:∀ (w:World) (H:Hp) (a:Addr) (ns:List Int),ns.length<=n->qJ H->SqL (K w.params) H a (ns.map V.int)->sp w [.ref a] H (λv _=>v=.bl true) λ_ _ _=>False)
   (hCX:∀ (w:World) (H:Hp) (s:Shared) (e:Value) (s':Shared),CX w [] H s (λ_ _ _=>False) e s'->False) :
   PySem.W.WalkO q loose XP YP l.row.toRowW d [] (λf vs=>PySem.call f vs):=by
 refine Att.jj hn hdf λw s₀ s₁ mg mb fa o pm cd doc a vs ns G Y ho hd hcd hmg hobj hints hlen hg=>?_
 have KX:=hY w _ Y
 obtain ⟨fd,hb,hF⟩:=F w mg fa _ KX G.T.g hmg
 exact nG KX G.T.g G.T.b G.T.builtins G.T.nolimit hg hobj hints (Nat.le_trans hlen hn2) hr hF hb (λH hO hS=>hsp w H a ns hlen hO hS) λH e s'=>hCX w H s₁ e s'
noncomputable def cg (s:Stmt):Arguments:=match s with
 | .FunctionDef _ a _ _ _ _ _ _ _ _=>a
 | _=>{ posonlyargs:=[],args:=[],vararg:=none,kwonlyargs:=[],kw_defaults:=[],kwarg:=none,defaults:=[] }
noncomputable def aT (s:Stmt):List Stmt:=match s with
 | .FunctionDef _ _ b _ _ _ _ _ _ _=>b
 | _=>[]
noncomputable def ak (s:Stmt):Scope:=match s with
 | .FunctionDef _ _ _ _ _ _ sc _ _ _=>sc
 | _=>{ kind:=.function,names:=[],isGenerator:=false,isCoroutine:=false }
noncomputable abbrev CX0:CXT:=λ_ _ _ _ _ _=>False
noncomputable abbrev E0:XK:=λ_ _ _=>False
theorem eX {X:Cx}:Passes CX0 X E0:=λ_ _ _ _ _ _ _ h=>h.elim
structure Fun (K:PySem.W.Frag) (x qual:Str) (st:Stmt) (f:Addr) (fd:FuncData):Prop where
 ex:∃ (oc:Value) (od:Option Addr) (dV kV doc pm:Value) (an:Option Addr) (cdv ct:Value) (osl:Array (Option Value)),
   fd=PySem.W.fnOf x qual (cg st) (aT st) (ak st) dV kV doc pm an cdv ct/\K.lookup f=some ⟨oc,od,.func fd,osl⟩/\PySem.W.codeIn K cdv qual=true
 kp:PySem.W.keepIn K (.ref f)=true
section
variable {P:Program} {w:World} {K:PySem.W.Frag} {mg:Str->Option Value} {base:Heap}
theorem Fun.ok {x qual:Str} {st:Stmt} {f:Addr} {fd:FuncData} {N ps:List Str} {k:Nat} {sp:Sp} (F:Fun K x qual st f fd) (S:aE N ps (ak st)) (len:∀ vs H Q E,sp vs H Q E->vs.length=ps.length)
   (hbody:∀ (cdv:Value) (A:Around) (outer:List Env) (s:Shared) (H:Hp) (vs:List V) (Q:VK) (E:XK),b9 k (A.deeper (envOfC qual (ak st) s.heap.objs.size f cdv))->sp vs H Q E ->
     ∃ t,PSs (fh CX0 P w K mg base N qual (ak st) f cdv A outer s H E).nox (aT st) t/\t { nx:=λ_ H'=>Q .non H',rt:=Q } (start N vs) H):aP P w K mg base CX0 (k + 1) f fd ps sp:=by
 obtain ⟨oc,od,dV,kV,doc,pm,an,cdv,ct,osl,rfl,lk,hcd⟩:=F.ex
 refine qr lk hcd S len λA outer s H vs Q E hr hsp=>?_
 obtain ⟨t,h,q⟩:=hbody cdv A outer s H vs Q E hr hsp
 exact ⟨t,h.nox,q⟩
theorem Fun.binds {x qual:Str} {st:Stmt} {f:Addr} {fd:FuncData} {ps:List Str} (_:Fun K x qual st f fd) (h:∀ us:List Value,us.length=ps.length->bindArgs fd ⟨us,[]⟩=pure (ps.zip us)):Binds K fd ps []:=.all h
theorem mD {x qual:Str} {st:Stmt} {f:Addr} {oc:Value} {od an:Option Addr} {osl:Array (Option Value)} {dV kV doc pm cdv ct:Value} (l:K.lookup f=some ⟨oc,od,.func (PySem.W.fnOf x qual (cg st) (aT st) (ak st) dV kV doc pm an cdv ct),osl⟩)
   (c:PySem.W.codeIn K cdv qual=true) (k:PySem.W.keepIn K (.ref f)=true):Fun K x qual st f (PySem.W.fnOf x qual (cg st) (aT st) (ak st) dV kV doc pm an cdv ct):=⟨⟨oc,od,dV,kV,doc,pm,an,cdv,ct,osl,rfl,l,c⟩,k⟩
end
theorem gR {n:Nat} (h:n<=1000):n < sizeLine:=Nat.lt_of_le_of_lt h (by decide)
section
variable {X:Cx}
theorem pv (i:Nat) {x:Str} {pos:Pos} (hN:X.N[i]?=some x:=by rfl) (hv:Vis X.env.scope x:=by first | exact Or.inl rfl | exact Or.inr (Or.inl rfl) | exact Or.inr (Or.inr rfl)) (hd:(x == ("__debug__" : Str))=false:=by decide)
   (hcd:(x == ("__classdict__" : Str))=false:=by decide):PE X (.Name x pos) (fg i):=a9 hN hv hd hcd
end
theorem gy {A B:Prop} (h:B):if false=true then A else B:=by
 rw [if_neg Bool.false_ne_true]
 exact h
theorem gA {A B:Prop} (h:A):if true=true then A else B:=by
 rw [if_pos rfl]
 exact h
noncomputable def af (H H':Hp):Prop:=∀ b o,H b=some o->H' b=some o
theorem af.refl (H:Hp):af H H:=λ_ _ h=>h
theorem af.trans {H H1 H2:Hp} (a:af H H1) (b:af H1 H2):af H H2:=λc o h=>b c o (a c o h)
theorem af.free {H H':Hp} (e:af H H') {l:Addr} (h:H' l=Option.none):H l=Option.none:=by
 cases q:H l with
 | none=>rfl
 | some o=>
   rw [e l o q] at h
   cases h
theorem af.seq {K:PySem.W.Frag} {H H':Hp} {a:Addr} {xs:List V} (e:af H H') (h:SqL K H a xs):SqL K H' a xs:=by
 rcases h with (h | ⟨o,h⟩) | h
 · exact .inl (.inl (e _ _ h))
 · exact .inl (.inr ⟨o,e _ _ h⟩)
 · exact .inr h
end L2
set_option linter.all false
set_option maxRecDepth 100000
namespace Hx
open PySem PySem.Spec PyProof.Rows
noncomputable def Fly (old:Addr->Prop) (e C:Addr) (fl:Value) (h:Heap):Prop:=
 ∃ oe vs T oT ts,(¬ old e/\∀ b,old b->∃ u,h.get? b=some u)/\h.get? e=some oe/\(oe.cls=.ref C/\oe.dict=none)/\oe.data=.fields vs/\vs[2]?=some .none/\vs[1]?=some (.ref T)/\¬ old T/\T ≠ e/\h.get? T=some oT/\oT.data=.fields ts/\ts[3]?=some fl
structure Kp (old:Addr->Prop) (fs:List Addr) (h h':Heap):Prop where
 keep:∀ b o,old b->b ∉ fs->h.get? b=some o->h'.get? b=some o
 slot:∀ b o,old b->h.get? b=some o->∃ sl,h'.get? b=some { o with slots:=sl }
theorem mB (f:Array Value->Array Value) (o:Obj):(Obj.mapFields f o).dict=o.dict:=by
 obtain ⟨c,d,dt,sl⟩:=o
 cases dt <;> rfl
theorem Kp.trans {old:Addr->Prop} {fs:List Addr} {h h1 h2:Heap} (a:Kp old fs h h1) (b:Kp old fs h1 h2):Kp old fs h h2:=
 ⟨λx o q n e=>b.keep x o q n (a.keep x o q n e),λx o q e=>let ⟨_,e1⟩:=a.slot x o q e; let ⟨sl,e2⟩:=b.slot x _ q e1; ⟨sl,e2⟩⟩
theorem Kp.of {old:Addr->Prop} {fs:List Addr} {h h':Heap} (k:∀ b o,old b->h.get? b=some o->h'.get? b=some o):Kp old fs h h':=⟨λb o q _ e=>k b o q e,λb o q e=>⟨o.slots,k b o q e⟩⟩
section
variable {M:Model} {A:Around} {E:Value->Shared->Prop} {s:Shared}
theorem hU {old:Addr->Prop} {base:Heap} {env:Env} {outer:List Env} {L e C:Addr} {oe:Obj} {vs:Array Value} {head:Value} {more:Bool} {Q:Unit->Shared->Prop} (fr:A.frames=some (env :: outer)) (ff:s.heap.FunFrames base (env :: outer)) (fl:env.frame=some L)
   (he:s.heap.get? e=some oe) (hc:oe.cls=.ref C/\oe.dict=none) (hd:oe.data=.fields vs) (h1:1 < vs.size) (h2:vs[2]?=some .none) (l1:¬ old e/\∀ b,old b->∃ u,s.heap.get? b=some u)
   (k:∀ h',Kp old ((env :: outer).filterMap (·.frame)) s.heap h'->Fly old e C (rawInt L) h'->Q () { s with heap:=h' }) :
   wpAny M A (do let f <- frameOf env; let p <- entryPlaceOf L more; let t <- EntryCells.newEntry head f .none (rawInt L) .none p; setField (.ref e) 1 t) Q E s:=by
 have ne:e ∉ (env :: outer).filterMap (·.frame):=λm=>by
   obtain ⟨_,o,g,d⟩:=ff.mem m
   rw [he] at g; cases g
   exact d vs hd
 refine wpAny_bind (wpAny_frameOf_fun fr ff fl λg1 sl=>wpAny_bind (wpAny_entryPlaceOf λp hp=>?_))
 unfold EntryCells.newEntry newFields
 refine wpAny_bind (wpAny_newObj_type ?_ (hp.sizeOk5 _ _ _ _ _))
 have e1:g1.get? e=some oe:=(sl.2.1 e ne).trans he
 have lT:¬ old g1.objs.size:=λz=>by
   obtain ⟨u,g⟩:=l1.2 _ z
   have:=Heap.lt_size g
   rw [<- sl.1] at this
   exact Nat.lt_irrefl _ this
 generalize hT:({ cls:=.type "traceback",dict:=none,data:=.fields ([head,.ref L,.none,rawInt L,.none]++(if p.isEmpty then List.replicate 6 Value.none else p)).toArray }:Obj)=oT
 have e2:(g1.push oT).get? e=some oe:=Heap.get?_push_of_some oT e1
 refine wpAny_setField e2 hd h1 ?_
 have nT:g1.objs.size ≠ e:=Nat.ne_of_gt (Heap.lt_size e1)
 have d3:=Obj.data_mapFields hd (·.setIfInBounds 1 (Value.ref g1.objs.size))
 have cE:∀ b o,old b->g1.get? b=some o->((g1.push oT).update e (Obj.mapFields (·.setIfInBounds 1 (Value.ref g1.objs.size)))).get? b=some o:=λb o q g=>by
   rw [Heap.get?_update_other _ _ (show e ≠ b from λz=>l1.1 (by rw [z]; exact q))]
   exact Heap.get?_push_of_some oT g
 refine k _ ⟨λb o q n g=>cE b o q ((sl.2.1 b n).trans g),λb o q g=>?_⟩ ?_
 · obtain ⟨z,w⟩:=sl.2.2 b o g
   exact ⟨z,cE b _ q w⟩
 · refine ⟨_,_,g1.objs.size,oT,_,⟨l1.1,λb q=>?_⟩,Heap.get?_update_self _ e2 (Obj.isFreed_of_fields d3),⟨(Obj.cls_mapFields _ _).trans hc.1,(mB _ _).trans hc.2⟩,d3,?_,?_,lT,nT,?_,by rw [<- hT],?_⟩
   · obtain ⟨u,g⟩:=l1.2 b q
     obtain ⟨z,w⟩:=sl.2.2 b u g
     exact ⟨_,cE b _ q w⟩
   · rw [Array.getElem?_setIfInBounds_ne (by decide)]; exact h2
   · simp [h1]
   · rw [Heap.get?_update_other _ _ (Ne.symm nT)]
     exact Heap.get?_push_size g1 (by rw [<- hT]; rfl)
   · first | (simp; done) | (rcases hp with rfl | ⟨_,_,_,_,_,_,_,rfl⟩ <;> simp)
theorem jE {old:Addr->Prop} {base:Heap} {env:Env} {outer:List Env} {L e C:Addr} {oe:Obj} {vs:Array Value} {Q:Unit->Shared->Prop} (fr:A.frames=some (env :: outer)) (ff:s.heap.FunFrames base (env :: outer)) (fl:env.frame=some L)
   (he:s.heap.get? e=some oe) (hc:oe.cls=.ref C/\oe.dict=none) (hd:oe.data=.fields vs) (h1:vs[1]?=some .none) (h2:vs[2]?=some .none) (l1:¬ old e/\∀ b,old b->∃ u,s.heap.get? b=some u)
   (k:∀ h',Kp old ((env :: outer).filterMap (·.frame)) s.heap h'->Fly old e C (rawInt L) h'->Q () { s with heap:=h' }):wpAny M A (noteFrame (.ref e) env) Q E s:=by
 unfold noteFrame
 simp only [fl]
 refine wpAny_bind (wpAny_field he hd h1 ?_)
 rw [if_neg (by decide)]
 exact hU fr ff fl he hc hd (Array.getElem?_eq_some_iff.mp h1).1 h2 l1 k
theorem gN {old:Addr->Prop} {base:Heap} {env:Env} {outer:List Env} {L e C:Addr} {Q:Unit->Shared->Prop} (fr:A.frames=some (env :: outer)) (ff:s.heap.FunFrames base (env :: outer)) (fl:env.frame=some L) (y:Fly old e C .none s.heap)
   (k:∀ h',Kp old ((env :: outer).filterMap (·.frame)) s.heap h'->Fly old e C (rawInt L) h'->Q () { s with heap:=h' }):wpAny M A (noteFrame (.ref e) env) Q E s:=by
 obtain ⟨oe,vs,T,oT,ts,l1,he,hc,hd,h2,h1,lT,nT,gT,dT,h3⟩:=y
 unfold noteFrame
 simp only [fl]
 refine wpAny_bind (wpAny_field he hd h1 ?_)
 rw [if_pos (by simp)]
 refine wpAny_bind (wpAny_field gT dT h3 ?_)
 rw [if_neg (by simp [rawInt])]
 refine wpAny_bind (wpAny_setField gT dT (Array.getElem?_eq_some_iff.mp h3).1 ?_)
 have oth:∀ b,b ≠ T->(s.heap.update T (Obj.mapFields (·.setIfInBounds 3 Value.none))).get? b=s.heap.get? b:=λb n=>Heap.get?_update_other _ _ (Ne.symm n)
 have kp:Kp old ((env :: outer).filterMap (·.frame)) s.heap (s.heap.update T (Obj.mapFields (·.setIfInBounds 3 Value.none))):=Kp.of λb o q g=>(oth b λz=>lT (z ▸ q)).trans g
 refine hU (base:=base) fr (ff.of_keeps λb o g d=>⟨o,(oth b λz=>?_).trans g,rfl⟩) fl ((oth e (Ne.symm nT)).trans he) hc hd (Array.getElem?_eq_some_iff.mp h1).1 h2 ⟨l1.1,λb q=>let ⟨u,g⟩:=l1.2 b q; ⟨u,(oth b λz=>lT (z ▸ q)).trans g⟩⟩ λh' a y'=>k h' (kp.trans a) y'
 rw [z,gT] at g; cases g
 exact d ts dT
theorem land {old:Addr->Prop} {fs:List Addr} {e C:Addr} {f:Value} {Q:Unit->Shared->Prop} (y:Fly old e C f s.heap) (k:∀ h',Kp old fs s.heap h'->Fly old e C .none h'->Q () { s with heap:=h' }):wpAny M A (setFlight (.ref e) none) Q E s:=by
 obtain ⟨oe,vs,T,oT,ts,l1,he,hc,hd,h2,h1,lT,nT,gT,dT,h3⟩:=y
 have z3:=(Array.getElem?_eq_some_iff.mp h3).1
 refine wpAny_setFlight_none he hd h1 gT dT z3 ?_
 have oth:∀ b,b ≠ T->(s.heap.update T (Obj.mapFields (·.setIfInBounds 3 Value.none))).get? b=s.heap.get? b:=λb n=>Heap.get?_update_other _ _ (Ne.symm n)
 refine k _ (Kp.of λb o q g=>(oth b λz=>lT (z ▸ q)).trans g) ?_
 exact ⟨oe,vs,T,_,_,⟨l1.1,λb q=>let ⟨u,g⟩:=l1.2 b q; ⟨u,(oth b λz=>lT (z ▸ q)).trans g⟩⟩,(oth e (Ne.symm nT)).trans he,hc,hd,h2,h1,lT,nT,Heap.get?_update_self _ gT (Obj.isFreed_of_fields (Obj.data_mapFields dT _)),Obj.data_mapFields dT _,by simp [z3]⟩
theorem jv {old:Addr->Prop} {base:Heap} {env:Env} {outer:List Env} {L e C:Addr} {oe:Obj} {vs:Array Value} {Q:Unit->Shared->Prop} (fr:A.frames=some (env :: outer)) (ff:s.heap.FunFrames base (env :: outer)) (fl:env.frame=some L)
   (he:s.heap.get? e=some oe) (hc:oe.cls=.ref C/\oe.dict=none) (hd:oe.data=.fields vs) (h1:vs[1]?=some .none) (h2:vs[2]?=some .none) (l1:¬ old e/\∀ b,old b->∃ u,s.heap.get? b=some u)
   (k:∀ h',Kp old ((env :: outer).filterMap (·.frame)) s.heap h'->Fly old e C .none h'->Q () { s with heap:=h' }):wpAny M A (leaving env (.ref e)) Q E s:=by
 unfold leaving
 refine wpAny_bind (jE fr ff fl he hc hd h1 h2 l1 λh' a y=>?_)
 exact land (s:={ s with heap:=h' }) y λh'' b y'=>k h'' (a.trans b) y'
theorem j9 {old:Addr->Prop} {base:Heap} {env:Env} {outer:List Env} {L e C:Addr} {Q:Unit->Shared->Prop} (fr:A.frames=some (env :: outer)) (ff:s.heap.FunFrames base (env :: outer)) (fl:env.frame=some L) (y:Fly old e C .none s.heap)
   (k:∀ h',Kp old ((env :: outer).filterMap (·.frame)) s.heap h'->Fly old e C .none h'->Q () { s with heap:=h' }):wpAny M A (leaving env (.ref e)) Q E s:=by
 unfold leaving
 refine wpAny_bind (gN fr ff fl y λh' a y'=>?_)
 exact land (s:={ s with heap:=h' }) y' λh'' b y2=>k h'' (a.trans b) y2
theorem Fly.at {old:Addr->Prop} {e C:Addr} {f:Value} {h:Heap} (y:Fly old e C f h):∃ o vs,h.get? e=some o/\(o.cls=.ref C/\o.dict=none)/\o.data=.fields vs/\vs[2]?=some .none/\¬ old e:=by
 obtain ⟨oe,vs,T,oT,ts,l1,he,hc,hd,h2,_⟩:=y
 exact ⟨oe,vs,he,hc,hd,h2,l1.1⟩
end
end Hx
namespace Hx
open PySem PySem.Spec PySem.Calls PyProof.Rows PySem.W
structure bT (K:Frag) (D:Addr):Prop where
 cls:(clsIn K D).isSome=true
 ga:findIn K (.ref D) "__getattribute__" = some (some (.builtin "BaseException.__getattribute__"))
 gt:findIn K (.ref D) "__getattr__" = some none
 at_:findIn K (.ref D) "__class__" = some (some (.builtin "object.__class__"))
 get:specialIn K (.builtin "object.__class__") "__get__" = some (some (.builtin "getset_descriptor.__get__"))
 tk:takesIn K (.builtin "object.__class__")=some true
 obj:mroIn K D (.type "object")=some true
 exc:mroIn K D (.type "BaseException")=some true
section
variable {prog:Program} {w:World} {A:Around} {E:Value->Shared->Prop} {s:Shared} {K:Frag} {x D:Addr} {ox:Obj}
theorem pj:builtinKind "BaseException.__getattribute__" = some .slot:=by decide +kernel
theorem nU:splitId "BaseException.__getattribute__" = some ("BaseException","__getattribute__"):=by decide +kernel
theorem jr (c:bT K D):findObj K D none "__class__" = some (.bind (.builtin "getset_descriptor.__get__") (.builtin "object.__class__")):=by
 obtain ⟨cd,h⟩:=Option.isSome_iff_exists.mp c.cls
 unfold findObj
 rw [h,Option.bind_some,c.at_,Option.bind_some]
 simp [c.get,c.tk]
theorem nW {tk:Tok} {R:Result->Shared->Prop} (c:bT K D) (X:K.In s.heap) (I:InstAt s.heap x ox D none) (q:R (.ok (.ret (.ref D))) s) :
   wpAny (model prog w) A (Builtin.«object.__getattribute__» ⟨[.ref x,.str "__class__" tk],[]⟩) (λfin s'=>match fin with | .done f=>R (.ok f) s' | .again _=>False) E s:=by
 have lt:=I.type (M:=model prog w)
 have L3:=looks_find (M:=model prog w) X I (jr c)
 unfold Builtin.«object.__getattribute__»
 refine wpAny_bind (wpAny_pure ?_)
 dsimp only
 refine wpAny_bind (wpAny_pure ?_)
 refine wpAny_bind (lt.here (wpAny_bind (L3.here ?_)))
 dsimp only
 show wpAny _ _ (do let v <- holding [.builtin "object.__class__"] (call (.builtin "getset_descriptor.__get__") [.builtin "object.__class__",.ref x,.ref D]); ret v) _ _ _
 refine wpAny_bind (wpAny_holding (wpAny_call (class_get X I c.obj ?_)))
 exact wpAny_pure q
theorem p8 (a b:Value):argsOk "BaseException.__getattribute__" ⟨a :: [b],[]⟩:=PySem.F.args_bexc_ga a b
theorem mO {tk:Tok} {Q:Unit->Shared->Prop} (L4:Looks (model prog w) s.heap (isInstance (.ref x) (.type "BaseException")) true) (q:Q () s):wpAny (model prog w) A (checkBuiltinCall "BaseException.__getattribute__" ⟨Value.ref x :: [.str "__class__" tk],[]⟩) Q E s:=
 check_slot (M:=model prog w) (A:=A) (E:=E) (s:=s) (i:="BaseException.__getattribute__") (owner:="BaseException") (n:="__getattribute__") (self:=.ref x) (rest:=[.str "__class__" tk]) (kw:=[]) (Q:=Q) pj nU L4 (p8 _ _) q
theorem oM {tk:Tok} {R:Result->Shared->Prop} (c:bT K D) (X:K.In s.heap) (I:InstAt s.heap x ox D none) (q:R (.ok (.ret (.ref D))) s) :
   codeAny (model prog w) A (.call (.builtin "BaseException.__getattribute__") ⟨[.ref x,.str "__class__" tk],[]⟩) R s:=by
 refine codeAny_call_builtin PySem.F.attr_ValueError.ga.plain PySem.F.entry_bexc_ga (mO ((I.type (M:=model prog w)).andThen (looks_mroIn X c.exc)) ?_)
 refine wpAny_mono (nW (R:=R) (E:=λe s'=>R (.error e) s') c X I q) (λfin s' z=>?_) λ_ _ z=>z
 cases fin with
 | done f=>exact z
 | again c'=>exact z.elim
theorem lZ {Q:Option Value->Shared->Prop} (c:bT K D) (X:K.In s.heap) (I:InstAt s.heap x ox D none) (q:Q (some (.ref D)) { s with toks:=s.toks + 1 }):wpAny (model prog w) A (getAttr? (.ref x) "__class__") Q E s:=by
 obtain ⟨hh,g,d,t,os⟩:=s
 have lt:=I.type (M:=model prog w)
 have lg:=looks_findIn (M:=model prog w) X c.ga; have lh:=looks_findIn (M:=model prog w) X c.gt
 have L3:=looks_find (M:=model prog w) X I (jr c)
 have L4:Looks (model prog w) hh (isInstance (.ref x) (.type "BaseException")) true:=lt.andThen (looks_mroIn X c.exc)
 unfold getAttr? getAttrBy? getAttrBy; refine wpAny_bind (wpAny_mkText (wpAny_bind (wpAny_attempt (wpAny_holding (wpAny_bind (lt.at (wpAny_bind (lg.at ?_))))))))
 dsimp only
 have no:(Value.builtin "BaseException.__getattribute__" == Value.builtin "object.__getattribute__")=false:=by decide +kernel
 rw [no,Bool.and_false,if_neg Bool.false_ne_true]
 unfold getAttrByItsOwn hookBefore
 rw [if_pos (show onTheHeap (Value.ref D)=true from rfl)]
 refine wpAny_bind (lh.at (wpAny_bind (wpAny_attempt (wpAny_holding ?_))))
 unfold callGetattribute boundAndCalled
 rw [if_neg (show ¬ ((false && onTheHeap (Value.builtin "BaseException.__getattribute__"))=true) by decide),PySem.F.attr_ValueError.ga.bind]
 refine wpAny_bind (wpAny_pure ?_)
 show wpAny (model prog w) A (call (.builtin "BaseException.__getattribute__") [.ref x,.str "__class__" t]) _ _ _
 refine wpAny_call (oM c X I ?_)
 exact handed_on rfl (wpAny_pure q)
theorem nX (c:bT K D):KitX K (.ref x) (.ref D) (λh=>∃ ox,InstAt h x ox D none) where
 ty:=λ_ _ _ ⟨_,I⟩=>I.type
 it:=λ_ _ X _=>by
   obtain ⟨cd,h⟩:=Option.isSome_iff_exists.mp c.cls
   unfold clsIn at h
   split at h
   · rename_i ho
     intro B R F s1 kp z
     unfold isType loadHead; exact wpAny_bind (wpAny_loadPart (kp _ _ (X _ _ ho)) (wpAny_pure z))
   · cases h
 ne:=λg t od xs m ws X e=>by
   obtain ⟨cd,h⟩:=Option.isSome_iff_exists.mp c.cls
   refine Bool.eq_false_iff.mpr λq=>(?_:False)
   obtain rfl:D=t:=Value.ref.inj (beq_iff_eq.mp q)
   unfold clsIn at h
   split at h
   · rename_i ho
     cases (X _ _ ho).symm.trans e
   · cases h
 ca:=λX ⟨_,I⟩ k=>lZ c X I k
end
end Hx
namespace Hx
open PySem PySem.Spec PySem.Calls PyProof.Rows PySem.W L2
noncomputable def nsO (o:Obj):Bool:=match o.data with | .dict es _=>es.toList.all (λe=>match e.key with | .str _ _=>true | _=>false) | _=>false
noncomputable abbrev bmV:List Value:=[.type "ValueError",.type "Exception",.type "BaseException",.type "object"]
structure rz (K:Frag) (C S:Addr):Prop where
 obj:∃ nm q N bs hdct sn sub ab col dd k0 k1 k2 k3 k5 oN,K.lookup C=some (excClassObj nm q C N bs (.ref S :: bmV) hdct sn sub ab col dd k0 k1 k2 k3 k5 "ValueError.__new__")/\K.lookup N=some oN/\nsO oN=true/\nsIn K N "__init__" = some none
 sup:∃ c0 dd cd sl oN,K.lookup S=some ⟨c0,dd,.cls cd,sl⟩/\K.lookup cd.ns=some oN/\nsO oN=true/\nsIn K cd.ns "__init__" = some none
 at_:bT K C
theorem sP {K:Frag} {h:Heap} {N:Addr} {o:Obj} {x:Str} (X:K.In h) (e:K.lookup N=some o) (n:nsO o=true) (i:nsIn K N x=some none):∃ m,h.Ns N m/\m x=none:=by
 have e':=X _ _ e
 have q:h.isNs N=true:=by
   unfold Heap.isNs
   rw [e']
   obtain ⟨c,d,dt,sl⟩:=o
   cases dt with
   | dict es ep=>
     show es.all _=true
     rw [<- Array.all_toList]
     exact n
   | _=>cases n
 refine ⟨_,.of_isNs q,?_⟩
 unfold nsIn at i
 rw [e] at i
 unfold Heap.nsMap
 rw [e']
 obtain ⟨c,d,dt,sl⟩:=o
 cases dt with
 | dict es ep=>
   dsimp only at i ⊢
   unfold nsFind findBy
   rw [<- Array.find?_toList]
   split at i
   · cases i
   · rename_i z
     rw [z]; rfl
 | _=>rfl
section
variable {X:Cx} {x:Str} {C S:Addr} {np cpos pos:Pos} {e:Expr} {es:List Expr} {t:TA}
theorem nM (hc:X.calm=true) (hg:Gl X x) (hm:X.mg x=some (.ref C)) (O:rz X.K C S) (ha:PA X (e :: es) t) (hdb:(x == ("__debug__" : Str))=false)
   (he:starEach (e :: es) X.env=(false,eval e X.env) :: starEach es X.env) (hpl:(backTo cpos (starEach es X.env)).any (·.1)=false) :
   PS X (.Raise (some (.Call (.Name x np) (e :: es) [] cpos)) none pos) (λ_ σ H=>t σ H λvs H1=>vs.length<=sizeLine/\∀ pins s us,Inv X pins σ H1 s->∀ h' a,Heap.MadeExcOf s.heap h' a (.ref C) us->X.xe (.ref a) { s with heap:=h' }):=by
 intro pins s σ H D I q
 obtain ⟨nm,qn,N,bs,hdct,sn,sub,ab,col,dd,k0,k1,k2,k3,k5,oN,hC,hN,hn,hi⟩:=O.obj
 obtain ⟨c0,dd',cd,sl,oS,hS,hNS,hnS,hiS⟩:=O.sup
 obtain ⟨mN,nN,iN⟩:=sP I.mod.kin hN hn hi
 obtain ⟨mS,nS,iS⟩:=sP I.mod.kin hNS hnS hiS
 refine wpAny_Raise_call_subU (C:=C) (nm:=nm) (q:=qn) (N:=N) (bs:=bs) (bm:=.ref S :: bmV) (hdct:=hdct) (sn:=sn) (sub:=sub) (ab:=ab) (col:=col) (dd:=dd) (k0:=k0) (k1:=k1) (k2:=k2) (k3:=k3) (k5:=k5) (mN:=mN) PySem.F.excBase_ValueError (by decide) PySem.F.excBase_ValueError
   (by rw [List.contains_cons]; rw [show bmV.contains (.type "BaseException")=true by decide]; rw [Bool.or_true]) (I.ok.hd hc) (by rw [he]; exact hpl) iN (eG I hg hm ⟨rfl,?_⟩ hdb)
 rw [he]
 refine Calls.evalArgs_plain ?_
 have q':=ha cpos pins s σ H _ I q
 rw [he] at q'
 refine thn q' λus s1 ⟨vs,H1,I1,r1,l1,q1⟩=>?_
 exact ⟨rfl,by rw [<- r1.length]; exact l1,I1.kIn _ _ hC,nN.keeps I1.bk,.own (I1.kIn _ _ hS) (nS.keeps I1.bk) iS .base,λh' a m=>q1 pins s1 us I1 h' a m⟩
end
section
variable {fs fs' ch:List Addr} {H H1:Hp} {h h1 h2:Heap} {old:Addr->Prop} {P:Program} {w:World} {a:Addr}
theorem kG (u:Un fs ch H H1 h h1) (k:Kp old fs' h1 h2) (ho:∀ b o,h.get? b=some o->old b) (hf:∀ b o,h.get? b=some o->b ∈ fs'->b ∈ fs):Un fs ch H H1 h h2 where
 keep:=λb o e n nf nx=>k.keep b o (ho b o e) (λz=>nf (hf b o e z)) (u.keep b o e n nf nx)
 slot:=λb o e n f nx=>let ⟨_,z⟩:=u.slot b o e n f nx; let ⟨sl,z2⟩:=k.slot b _ (ho b o e) z; ⟨sl,z2⟩
 free:=u.free
 there:=λb o e nx=>let ⟨o',z⟩:=u.there b o e nx; let ⟨_,z2⟩:=k.slot b o' (ho b o e) z; ⟨_,z2⟩
 tups:=u.tups
 frzs:=u.frzs
 tbls:=u.tbls
theorem iI (x:HOk P w H h1) (k:Kp old fs h1 h2) (q:∀ b o,H b=some o->old b/\b ∉ fs):HOk P w H h2:=λb o e=>by
 refine (x b o e).cE (λd v hd z=>?_) (λ_ z=>z) λ_ _ z=>z
 rcases hd with rfl | hd
 · exact k.keep _ v (q _ _ e).1 (q _ _ e).2 z
 · exact k.keep d v (q _ _ hd).1 (q _ _ hd).2 z
theorem rE {o:Obj} {x:HO} (u:Un fs [] H H1 h h2) (ha:h.get? a=none) (hn:H1 a=none):Un fs [] H (upd H1 a (.frz o x)) h h2 where
 keep:=u.keep
 slot:=u.slot
 free:=λb ob e n nx=>by
   rw [ai (λz=>by rw [z,ha] at e; cases e)]
   exact u.free b ob e n nx
 there:=u.there
 tups:=λb xs e=>by have z:=u.tups b xs e; rw [ai (au z hn)]; exact z
 frzs:=λb ob v e=>by have z:=u.frzs b ob v e; rw [ai (au z hn)]; exact z
 tbls:=λb ps e=>by obtain ⟨m,z⟩:=u.tbls b ps e; exact ⟨m,by rw [ai (au z hn)]; exact z⟩
theorem pd {o:Obj} (x:HOk P w H h) (hn:H a=none) (e:h.get? a=some o):HOk P w (upd H a (.frz o (.ext λ_=>True))) h:=λb ob z=>by
 by_cases hb:b=a
 · subst hb
   rw [az] at z; cases z
   exact ⟨e,trivial,⟨o,e⟩,λ_ _ _ _=>trivial⟩
 · rw [ai hb] at z
   exact (x b ob z).cE (λ_ _ _ q=>q) (λc q=>by rw [ai (au q hn)]; exact q) λc xs q=>by rw [ai (au q hn)]; exact q
end
theorem there {P:Program} {w:World} {H:Hp} {h:Heap} {a:Addr} {o:HO} (x:br P w H h a o):∃ u,h.get? a=some u:=by
 cases o with
 | lst xs=>obtain ⟨_,_,_,_,e⟩:=x; exact ⟨_,e⟩
 | tup xs=>obtain ⟨_,_,_,o,e,_⟩:=x; exact ⟨_,e⟩
 | dK kvs=>obtain ⟨_,_,_,_,o,_,_,e,_⟩:=x; exact ⟨_,e⟩
 | dT kvs=>obtain ⟨_,_,_,_,o,_,_,e,_⟩:=x; exact ⟨_,e⟩
 | set S n=>obtain ⟨o,_,_,_,e,_⟩:=x; exact ⟨_,e⟩
 | ins C dx fs=>obtain ⟨_,_,_,e,_⟩:=x; exact ⟨_,e⟩
 | own y=>exact x
 | xd fs=>obtain ⟨_,⟨o,_,_,e,_⟩,_⟩:=x; exact ⟨_,e⟩
 | met f y=>exact ⟨_,x⟩
 | rng lo hi=>obtain ⟨_,_,_,e⟩:=x; exact ⟨_,e⟩
 | frz o u=>exact ⟨_,x.1⟩
 | tbl ps=>exact ⟨_,x⟩
 | ext φ=>exact x.2.1
noncomputable def CXe (P:Program) (w:World) (cl:Nat->Addr):CXT:=λouter H s E e s'=>∃ a c H',∃ old:Addr->Prop,e=.ref a/\s'.os=s.os/\AllBare s'.gens/\Un (frs outer) [] H H' s.heap s'.heap/\HOk P w H' s'.heap/\Fly old a (cl c) .none s'.heap /\
 (∀ b o,s.heap.get? b=some o->old b)/\(∀ b o,H' b=some o->old b)/\E (.ref (cl c)) none H'
section
variable {P:Program} {w:World} {K:Frag} {mg:Str->Option Value} {base:Heap} {N:List Str} {qual:Str} {scope:Scope} {f:Addr} {cd:Value} {A:Around} {outer:List Env} {s0:Shared} {H0:Hp} {E:XK} {cl:Nat->Addr}
noncomputable abbrev cxE (P:Program) (w:World) (K:Frag) (mg:Str->Option Value) (base:Heap) (N:List Str) (qual:Str) (scope:Scope) (f:Addr) (cd:Value) (A:Around) (outer:List Env) (s0:Shared) (H0:Hp) (E:XK) (cl:Nat->Addr):Cx:=fh (CXe P w cl) P w K mg base N qual scope f cd A outer s0 H0 E
theorem jA {pins:List (Addr × Obj)} {σ:L2.St} {H:Hp} {s:Shared} {c:Nat} (I:Inv (cxE P w K mg base N qual scope f cd A outer s0 H0 E cl) pins σ H s) (q:E (.ref (cl c)) none H) {h':Heap} {a:Addr} {us:List Value} (m:Heap.MadeExcOf s.heap h' a (.ref (cl c)) us) :
   (cxE P w K mg base N qual scope f cd A outer s0 H0 E cl).xe (.ref a) { s with heap:=h' }:=by
 obtain ⟨t,he,_,_⟩:=m.there
 have kp:∀ b o,s.heap.get? b=some o->h'.get? b=some o:=m.keeps
 refine jv (old:=λb=>∃ o,s.heap.get? b=some o) (base:=base) (s:={ s with heap:=h' }) I.ok.frames (I.stack.of_keeps λb o g _=>⟨o,kp b o g,rfl⟩) rfl he ⟨rfl,rfl⟩ rfl rfl rfl ⟨λ⟨o,z⟩=>(by rw [m.new] at z; cases z),λb ⟨o,z⟩=>⟨o,kp b o z⟩⟩ λh2 k y=>?_
 have k0:Kp (λb=>∃ o,s.heap.get? b=some o) (frs (cxE P w K mg base N qual scope f cd A outer s0 H0 E cl).stack) s.heap h2:=(Kp.of λb o _ z=>kp b o z).trans k
 refine ⟨a,c,H,_,rfl,I.os,I.bare,kG I.base k0 (λb o e=>I.base.there b o e (by intro z; exact absurd (show b ∈ ([]:List Addr) from z) (by simp))) (λb o e z=>?_),iI I.hok k0 λb o e=>⟨?_,λz=>?_⟩,y,λb o e=>I.base.there b o e (by intro z; exact absurd (show b ∈ ([]:List Addr) from z) (by simp)),λb o e=>?_,q⟩
 · rcases List.mem_cons.mp (I.fB b z) with z | z
   · exact absurd (Heap.lt_size e) (by rw [z]; exact Nat.lt_irrefl _)
   · exact z
 · exact there (I.hok b o e)
 · rw [I.eg b z] at e; cases e
 · exact there (I.hok b o e)
theorem lD {Ex:Nat->Hp->Prop} (hE:∀ c H,Ex c H->E (.ref (cl c)) none H):Passes (CXe P w cl) (cxE P w K mg base N qual scope f cd A outer s0 H0 E cl) (λC _ H'=>∃ c,C=.ref (cl c)/\Ex c H'):=by
 intro pins σ H s e s' I ⟨a,c,H',old,he,os,bare,un,hok,y,o1,o2,c',ec,q⟩
 subst he
 have ec:cl c=cl c':=Value.ref.inj ec
 have I':Inv (cxE P w K mg base N qual scope f cd A outer s0 H0 E cl) pins σ H' s':=I.gZ os un hok bare λb z=>absurd z (by simp)
 have oth:∀ b o,s0.heap.get? b=some o->old b:=λb o e=>by
   obtain ⟨u,g⟩:=I.base.there b o e (by intro z; exact absurd (show b ∈ ([]:List Addr) from z) (by simp))
   exact o1 b u g
 refine j9 (base:=base) I'.ok.frames I'.stack rfl y λh2 k y2=>?_
 refine ⟨a,c',H',old,rfl,I'.os,I'.bare,kG I'.base k oth (λb o e z=>?_),iI I'.hok k λb o e=>⟨o2 b o e,λz=>?_⟩,by rw [<- ec]; exact y2,oth,o2,hE c' H' q⟩
 · rcases List.mem_cons.mp (I'.fB b z) with z | z
   · exact absurd (Heap.lt_size e) (by rw [z]; exact Nat.lt_irrefl _)
   · exact z
 · have:=I'.eg b z
   rw [this] at e; cases e
end
noncomputable abbrev XH (X:Cx) (a:Addr):Cx:={ X with A:=X.A.mark (some (.ref a)),calm:=false,xe:=λ_ _=>False }
section
variable {X:Cx} {pins:List (Addr × Obj)} {σ:L2.St} {H:Hp} {s:Shared} {a:Addr}
theorem pE (ok:X.Ok):(XH X a).Ok:=⟨ok.mod,ok.kind,ok.glob,ok.blt,ok.above,ok.inj,ok.has,ok.cab,(λz=>nomatch z),ok.frames,ok.stk,ok.exf,ok.bs,ok.bsz,ok.noex,ok.exfs,ok.eT,ok.frf⟩
theorem jf (I:Inv X pins σ H s):Inv (XH X a) pins σ H s:=⟨pE I.ok,I.os,I.bare,I.base,I.loc,I.cell,I.free,I.freeC,I.pin,I.hok,I.len⟩
theorem jX (ok:X.Ok) (I:Inv (XH X a) pins σ H s):Inv X pins σ H s:=⟨ok,I.os,I.bare,I.base,I.loc,I.cell,I.free,I.freeC,I.pin,I.hok,I.len⟩
noncomputable abbrev XP (X:Cx) (pins:List (Addr × Obj)) (E:Value->Shared->Prop):Cx:={ X with pn:=X.pn++pins,xe:=E }
theorem so {E:Value->Shared->Prop} (ok:X.Ok):(XP X pins E).Ok:=⟨ok.mod,ok.kind,ok.glob,ok.blt,ok.above,ok.inj,ok.has,ok.cab,ok.hd,ok.frames,ok.stk,ok.exf,ok.bs,ok.bsz,ok.noex,ok.exfs,ok.eT,ok.frf⟩
theorem rd {E:Value->Shared->Prop} (I:Inv X pins σ H s):Inv (XP X pins E) [] σ H s:=⟨so I.ok,I.os,I.bare,I.base,I.loc,I.cell,I.free,I.freeC,λp hp=>I.pin p (by simpa using hp),I.hok,I.len⟩
theorem cT {E:Value->Shared->Prop} {pl:List (Addr × Obj)} (ok:X.Ok) (I:Inv (XP X pins E) pl σ H s):Inv X pins σ H s:=⟨ok,I.os,I.bare,I.base,I.loc,I.cell,I.free,I.freeC,λp hp=>I.pin p (List.mem_append_left _ hp),I.hok,I.len⟩
theorem p9 {E:Value->Shared->Prop} {D:Ends} {f:Flow} (ok:X.Ok) (h:SP (XP X pins E) [] D f s):SP X pins D f s:=by
 cases f with
 | next=>obtain ⟨σ',H',I,q⟩:=h; exact ⟨σ',H',cT ok I,q⟩
 | brk=>obtain ⟨σ',H',I,q⟩:=h; exact ⟨σ',H',cT ok I,q⟩
 | cont=>obtain ⟨σ',H',I,q⟩:=h; exact ⟨σ',H',cT ok I,q⟩
 | ret u=>obtain ⟨v,σ',H',I,r,q⟩:=h; exact ⟨v,σ',H',cT ok I,r,q⟩
theorem rK {E:Value->Shared->Prop} {M:Model} {A:Around} {i:Nat} {n:Str} {v:V} {Q:Unit->Shared->Prop} (I:Inv X pins σ H s) (hN:X.N.Nodup) (hi:X.N[i]?=some n) (hn:X.env.scope.names.lookup n=some .local) (hv:σ[i]?=some (some v))
   (k:∀ s',Inv X pins (σ.set i none) H s'->Q () s'):wpAny M A (unbindName X.env n) Q E s:=by
 obtain ⟨m,ns,look⟩:=id I.loc
 obtain ⟨u,_,lu⟩:=look i n v hi hv (.inl hn)
 have mu:m n=some u:=by
   rcases lu with z | ⟨z | z,_⟩
   · exact z.2
   · have z:X.env.scope.names.lookup n=some .cell:=z
     rw [hn] at z; cases z
   · have z:X.env.scope.names.lookup n=some .free:=z
     rw [hn] at z; cases z
 have hcls:(X.env.scope.kind == .class || (X.env.scope.kind == .module && X.env.locals != X.env.globals))=false:=by rw [I.ok.kind]; rfl
 refine wpAny_unbindName_local hn ns mu hcls λh' x ns' sb=>?_
 obtain ⟨oL,_,_,gL,_⟩:=id ns
 have far:∀ b o,X.s₀.heap.get? b=some o->h'.get? b=s.heap.get? b:=λb o e=>sb.2 b (Nat.ne_of_lt (Nat.lt_of_lt_of_le (Heap.lt_size e) I.ok.above))
 refine k { s with heap:=h' } ⟨I.ok,I.os,I.bare,⟨λb o e n0 nf nx=>(far b o e).trans (I.base.keep b o e n0 nf nx),λb o e n0 f nx=>?_,I.base.free,λb o e nx=>?_,I.base.tups,I.base.frzs,I.base.tbls⟩,⟨_,ns',λj y w e1 e2 e3=>?_⟩,λy c e=>?_,I.free,I.freeC,λp hp=>?_,λb ob e=>?_,by simpa using I.len⟩
 · obtain ⟨sl,z⟩:=I.base.slot b o e n0 f nx
   exact ⟨sl,(far b o e).trans z⟩
 · obtain ⟨o',z⟩:=I.base.there b o e nx
   exact ⟨o',(far b o e).trans z⟩
 · have hj:j ≠ i:=λz=>by
     subst z
     rw [List.getElem?_set_self (by rw [I.len]; exact (List.getElem?_eq_some_iff.mp hi).1)] at e2
     cases e2
   rw [List.getElem?_set_ne (Ne.symm hj)] at e2
   obtain ⟨u',r',q⟩:=look j y w e1 e2 e3
   refine ⟨u',r',?_⟩
   have ne:y ≠ n:=λe=>hj (fU hN e1 (e ▸ hi))
   rcases q with ⟨z,e⟩ | ⟨z,c,e,g⟩
   · exact .inl ⟨z,by simp [ne,e]⟩
   · exact .inr ⟨z,c,e,g.sameBut sb (I.cne y c e)⟩
 · obtain ⟨w,z⟩:=I.cell y c e
   exact ⟨w,z.sameBut sb (I.cne y c e)⟩
 · obtain ⟨e,n0,ne,nf,d⟩:=I.pin p hp
   exact ⟨(sb.2 p.1 ne).trans e,n0,ne,nf,d⟩
 · refine (I.hok b ob e).cE (λc w hc q=>(sb.2 c ?_).trans q) (λ_ q=>q) λ_ _ q=>q
   rcases hc with rfl | hc
   · exact au e I.free
   · exact au hc I.free
end
noncomputable def mr (o:Obj) (C:Addr):Prop:=(o.cls=.ref C/\o.dict=none)/\∃ vs,o.data=.fields vs/\vs[2]?=some .none
noncomputable abbrev lN (o:Obj):HO:=.frz o (.ext λ_=>True)
section
variable {X:Cx} {cl:Nat->Addr} {ks:List Nat} {n sm:Str} {i:Nat} {S:Addr} {ret:Expr} {psm pr ph pos:Pos} {body:List Stmt} {tb:(Nat->Hp->Prop)->TS} {tr:Addr->Obj->TE}
noncomputable def ExH (ks:List Nat) (cl:Nat->Addr) (i:Nat) (tr:Addr->Obj->TE) (D:Ends):Nat->Hp->Prop:=λc H=>c ∈ ks/\∀ (σ:L2.St) a o,i < σ.length->H a=none->mr o (cl c)->tr a o (σ.set i (some (.ref a))) (upd H a (lN o)) D.rt
theorem rM (hst:X.stack=X.env :: X.outer/\X.env.frame=some X.env.locals) (nd:X.N.Nodup) (hi:X.N[i]?=some n) (hn:X.env.scope.names.lookup n=some .local) (hgS:Gl X sm) (hmS:X.mg sm=some (.ref S)) (hdb:(sm == ("__debug__" : Str))=false)
   (hx:∀ c ∈ ks,exmOne X.K (.ref (cl c)) (.ref S)=some true) (hr:∀ a o,PE (XH X a) ret (tr a o)) {pins:List (Addr × Obj)} {σ:L2.St} {H:Hp} {s s':Shared} {e:Value} {D:Ends} (I:Inv X pins σ H s)
   (h:CXe X.prog X.w cl X.stack H s (λC _ H'=>∃ c,C=.ref (cl c)/\ExH ks cl i tr D c H') e s') :
   wpAny (model X.prog X.w) X.A (noteFrame e X.env) (λ_ s2=>wpAny (model X.prog X.w) X.A (setFlight e none) (λ_ s3=>wpAny (model X.prog X.w) X.A (handleBy e X.env [.ExceptHandler (some (.Name sm psm)) (some n) [.Return (some ret) pr] ph]) (SP X pins D) X.xe s3) X.xe s2) X.xe s':=by
 obtain ⟨a,c0,H2,old,rfl,os,bare,un,hok,y,o1,o2,c,ec,hc,q⟩:=h
 have ec:cl c0=cl c:=Value.ref.inj ec
 rw [ec] at y
 have I':Inv X pins σ H2 s':=I.gZ os un hok bare λb z=>absurd z (by simp)
 have fr:X.A.frames=some (X.env :: X.outer):=by rw [<- hst.1]; exact I.ok.frames
 have ff:s'.heap.FunFrames X.base (X.env :: X.outer):=by rw [<- hst.1]; exact I'.stack
 have efs:(X.env :: X.outer).filterMap (·.frame)=frs X.stack:=by rw [hst.1]; rfl
 have tk:∀ b o,H2 b=some o->old b/\b ∉ frs X.stack:=λb o e=>⟨o2 b o e,λz=>by rw [I'.eg b z] at e; cases e⟩
 have na:s.heap.get? a=none:=by
   cases g:s.heap.get? a with
   | none=>rfl
   | some o=>exact absurd (o1 a o g) y.at.choose_spec.choose_spec.2.2.2.2
 have Ha:H2 a=none:=by
   cases g:H2 a with
   | none=>rfl
   | some o=>exact absurd (o2 a o g) y.at.choose_spec.choose_spec.2.2.2.2
 have at_:∀ {h4:Heap},Kp old (frs X.stack) s'.heap h4->Inv X pins σ H2 { s' with heap:=h4 }:=λ{h4} k=>I.gZ (s':={ s' with heap:=h4 }) os (kG un k o1 λ_ _ _ z=>z) (iI hok k tk) bare λb z=>absurd z (by simp)
 refine gN fr ff hst.2 y λh3 k3 y3=>?_
 rw [efs] at k3
 refine land (s:={ s' with heap:=h3 }) (fs:=frs X.stack) y3 λh4 k4 y4=>?_
 have k4:=k3.trans k4
 have I4:=at_ k4
 have no:∀ {α:Type} {t:Sem α} {Q:α->Shared->Prop} {A:Around} {s:Shared} {E:Value->Shared->Prop},wpAny (model X.prog X.w) A t Q (λ_ _=>False) s->wpAny (model X.prog X.w) A t Q E s:=λh=>wpAny_mono h (λ_ _ q=>q) λ_ _ q=>q.elim
 refine wpAny_handleBy_cons (codeAny_handlers_test (no (eG (X:=XH X a) (jf I4) hgS hmS ?_ hdb))) (by intro z; cases z)
 obtain ⟨oe,vs,ge,hce,hde,h2e,_⟩:=y4.at
 have LT:Looks (model X.prog X.w) h4 (typeOf (.ref a)) (.ref (cl c)):=hce.1 ▸ (Looks.ld ge).andThen .now
 refine (exm_one I4.kIn LT (hx c hc)).here ?_
 refine codeAny_handlers_suite_as (land (s:={ s' with heap:=h4 }) (fs:=frs X.stack) y4 λh5 k5 y5=>?_)
 obtain ⟨o5,vs5,g5,hc5,hd5,h25,_⟩:=y5.at
 have k5:=k4.trans k5
 have I5:Inv X pins σ (upd H2 a (lN o5)) { s' with heap:=h5 }:=I.gZ (s':={ s' with heap:=h5 }) os (rE (kG un k5 o1 λ_ _ _ z=>z) na Ha) (pd (iI hok k5 tk) Ha g5) bare λb z=>absurd z (by simp)
 refine dJ (X:=XH X a) (jf I5) nd hi (.inl hn) (v:=.ref a) rfl (λs6 I6=>?_) (.inr hn)
 refine no (thn (bA (bL (hr a o5)) pins s6 _ _ { nx:=λ_ _=>False,rt:=D.rt } I6 (q σ a o5 (by rw [I.len]; exact (List.getElem?_eq_some_iff.mp hi).1) Ha ⟨hc5,vs5,hd5,h25⟩)) λf s7 q7=>?_)
 cases f with
 | next=>obtain ⟨_,_,_,z⟩:=q7; exact z.elim
 | brk=>obtain ⟨_,_,_,z⟩:=q7; exact z.elim
 | cont=>obtain ⟨_,_,_,z⟩:=q7; exact z.elim
 | ret u=>
   obtain ⟨v,σ7,H7,I7,r7,z7⟩:=q7
   have I7:=jX I.ok I7
   refine wpAny_bind (wpAny_bindName (dJ I7 nd hi (.inl hn) (v:=.non) rfl (λs8 I8=>?_) (.inr hn)))
   unfold unbindBehindTheSuite
   refine wpAny_onRaise (rK I8 nd hi hn (v:=.non) (List.getElem?_set_self (by rw [I7.len]; exact (List.getElem?_eq_some_iff.mp hi).1)) λs9 I9=>?_)
   exact ⟨v,_,H7,I9,r7,z7⟩
theorem rF (hst:X.stack=X.env :: X.outer/\X.env.frame=some X.env.locals) (nd:X.N.Nodup) (hi:X.N[i]?=some n) (hn:X.env.scope.names.lookup n=some .local) (hgS:Gl X sm) (hmS:X.mg sm=some (.ref S)) (hdb:(sm == ("__debug__" : Str))=false)
   (hx:∀ c ∈ ks,exmOne X.K (.ref (cl c)) (.ref S)=some true) (hr:∀ a o,PE (XH X a) ret (tr a o))
   (hb:∀ (Ex:Nat->Hp->Prop) (pins:List (Addr × Obj)) (E:Value->Shared->Prop),Passes (CXe X.prog X.w cl) (XP X pins E) (λC _ H'=>∃ c,C=.ref (cl c)/\Ex c H')->PSs (XP X pins E) body (tb Ex)) :
   PS X (.Try body [.ExceptHandler (some (.Name sm psm)) (some n) [.Return (some ret) pr] ph] [] [] pos) (λD σ H=>tb (ExH ks cl i tr D) D σ H):=by
 intro pins s σ H D I h
 refine wpAny_Try_except ?_
 refine wpAny_mono (hb (ExH ks cl i tr D) pins (λe s1=>wpAny (model X.prog X.w) X.A (noteFrame e X.env) (λ_ s2=>wpAny (model X.prog X.w) X.A (setFlight e none) (λ_ s3=>wpAny (model X.prog X.w) X.A (handleBy e X.env [.ExceptHandler (some (.Name sm psm)) (some n) [.Return (some ret) pr] ph]) (SP X pins D) X.xe s3) X.xe s2) X.xe s1)
   (λpl σ1 H1 s1 e s2 I1 z=>rM hst nd hi hn hgS hmS hdb hx hr (cT I.ok I1) z) [] s σ H D (rd I) h) (λf s1 q=>?_) λ_ _ z=>z
 have q:=p9 I.ok q
 cases f with
 | next=>exact wpAny_execs_nil q
 | _=>exact q
end
end Hx
namespace Ev
open PySem PySem.Spec PyProof.Rows L2
structure Bx where
 p:PySem.W.Frag->Hp->Addr->Prop
 mono:∀ {K:PySem.W.Frag} {H H':Hp} {a:Addr},af H H'->p K H a->p K H' a
 isd:∀ {K:PySem.W.Frag} {H:Hp} {a:Addr},p K H a->∃ o:HO,H a=some o/\∀ (P:Program) (w:World) (H':Hp) (h:Heap),br P w H' h a o->∃ ob,h.get? a=some ob/\ob.cls=.type "dict"
inductive D where
 | non | bl (b:Bool) | int (i:Int) | str (x:Str) | tup (xs:List D) | lst (xs:List D) | box (x:Bx)
noncomputable instance:Inhabited D:=⟨.non⟩
mutual
inductive Den (K:PySem.W.Frag) (H:Hp):V->D->Prop where
 | non:Den K H .non .non
 | bl {b:Bool}:Den K H (.bl b) (.bl b)
 | int {i:Int}:Den K H (.int i) (.int i)
 | str {x:Str}:Den K H (.str x) (.str x)
 | tup {a:Addr} {vs:List V} {ds:List D} (h:SqT K H a vs) (r:aq K H vs ds):Den K H (.ref a) (.tup ds)
 | lst {a:Addr} {vs:List V} {ds:List D} (h:SqL K H a vs) (r:aq K H vs ds):Den K H (.ref a) (.lst ds)
 | box {a:Addr} {x:Bx} (h:x.p K H a):Den K H (.ref a) (.box x)
inductive aq (K:PySem.W.Frag) (H:Hp):List V->List D->Prop where
 | nil:aq K H [] []
 | cons {v:V} {d:D} {vs:List V} {ds:List D} (h:Den K H v d) (r:aq K H vs ds):aq K H (v :: vs) (d :: ds)
end
section
variable {K:PySem.W.Frag} {H H':Hp}
theorem aC (e:af H H') {a:Addr} {xs:List V} (h:SqT K H a xs):SqT K H' a xs:=by
 rcases h with (h | ⟨o,h⟩) | h
 · exact .inl (.inl (e _ _ h))
 · exact .inl (.inr ⟨o,e _ _ h⟩)
 · exact .inr h
theorem ay (e:af H H') {a:Addr} {xs:List V} (h:SqL K H a xs):SqL K H' a xs:=e.seq h
mutual
theorem Den.mono (e:af H H'):∀ {v:V} {d:D},Den K H v d->Den K H' v d
 | _,_,.non=>.non
 | _,_,.bl=>.bl
 | _,_,.int=>.int
 | _,_,.str=>.str
 | _,_,.tup h r=>.tup (aC e h) (aq.mono e r)
 | _,_,.lst h r=>.lst (ay e h) (aq.mono e r)
 | _,_,.box (x:=x) h=>.box (x.mono e h)
theorem aq.mono (e:af H H'):∀ {vs:List V} {ds:List D},aq K H vs ds->aq K H' vs ds
 | _,_,.nil=>.nil
 | _,_,.cons h r=>.cons (Den.mono e h) (aq.mono e r)
end
theorem aq.length:∀ {vs:List V} {ds:List D},aq K H vs ds->vs.length=ds.length
 | _,_,.nil=>rfl
 | _,_,.cons _ r=>congrArg (· + 1) r.length
theorem aq.get:∀ {vs:List V} {ds:List D} {i:Nat} {d:D},aq K H vs ds->ds[i]?=some d->∃ v,vs[i]?=some v/\Den K H v d
 | _,_,_,_,.nil,e=>by simp at e
 | _,_,0,_,.cons h _,e=>by simp at e; subst e; exact ⟨_,rfl,h⟩
 | _,_,i + 1,d,.cons _ r,e=>by
   obtain ⟨v,h1,h2⟩:=aq.get (i:=i) (d:=d) r (by simpa using e)
   exact ⟨v,by simpa using h1,h2⟩
theorem aq.append:∀ {xs ys:List V} {ds es:List D},aq K H xs ds->aq K H ys es->aq K H (xs++ys) (ds++es)
 | _,_,_,_,.nil,s=>s
 | _,_,_,_,.cons h r,s=>.cons h (aq.append r s)
theorem aq.take:∀ {xs:List V} {ds:List D} (n:Nat),aq K H xs ds->aq K H (xs.take n) (ds.take n)
 | _,_,0,_=>.nil
 | _,_,_ + 1,.nil=>.nil
 | _,_,n + 1,.cons h r=>.cons h (aq.take n r)
theorem aq.drop:∀ {xs:List V} {ds:List D} (n:Nat),aq K H xs ds->aq K H (xs.drop n) (ds.drop n)
 | _,_,0,r=>r
 | _,_,_ + 1,.nil=>.nil
 | _,_,n + 1,.cons _ r=>aq.drop n r
end
noncomputable def aK (i j:Int):Prop:=i.natAbs.log2 < 64\/j.natAbs.log2 < 64\/(i.natAbs.log2 < 1000000/\j.natAbs.log2 < 1000000)
noncomputable def a5 (j:Int):Prop:=j ≠ 0/\j.natAbs.log2 < 9000
theorem ah {H:Hp} {p:Addr} (h:H p=none) (o:HO):af H (upd H p o):=λb u q=>by rw [ai (au q h)]; exact q
noncomputable def Ite (K:PySem.W.Frag) (a:Addr):L2.It:=
 ⟨λi H=>∃ xs x,SqL K H a xs/\xs[i]?=some x,λi H v H'=>∃ p x,H p=none/\v=.ref p/\H'=upd H p (.tup [.int (i:Nat),x])/\∀ xs,SqL K H a xs->xs[i]?=some x,λi H=>∃ xs,SqL K H a xs/\xs.length<=i⟩
theorem lO {P:Program} {w:World} {K:PySem.W.Frag} {ts:List Expr} {q:Nat} {tp:Pos} (a e it:Addr) (hne:e ≠ it) :
   Turn P w K false (.Tuple ts q tp) (Ite K a) [e,it] e (λi h=>(∃ old,IsEnum h e it (i:Nat) old)/\h.IsListIter it a i) where
 mem:=by simp
 obj:=λi h st b hb=>by
   obtain ⟨⟨old,h1⟩,o,h2,h3,h4⟩:=st
   rcases List.mem_cons.mp hb with rfl | hb
   · exact ⟨_,h1,λv z=>nomatch z⟩
   · have z:b=it:=by simpa using hb
     subst z
     exact ⟨o,h2,λv z=>by rw [h4] at z; cases z⟩
 keep:=λi h h' st k=>by
   obtain ⟨⟨old,h1⟩,o,h2,h3,h4⟩:=st
   exact ⟨⟨old,k e (by simp) _ h1⟩,o,k it (by simp) o h2,h3,h4⟩
 item:=by
   intro X hP hw hK hc i pins s σ H E I hf st hg
   subst hP hw hK
   obtain ⟨xs,x,hq,hx⟩:=hg
   obtain ⟨its,rv,p,hz⟩:=I.list hq
   obtain ⟨u,hu,ru⟩:=rv.get hx
   obtain ⟨⟨old,h1⟩,h2⟩:=st
   have fe:=hf e (by simp)
   have fi:=hf it (by simp)
   refine wpAny_pyNext_enum_item h1 h2 p.isList (x:=u) (by simpa using hu) hne λh' g1 g2 g3 g4 g5=>⟨_,rfl,?_⟩
   refine wpAny_letOwnedTupleGo_enum (s:={ s with heap:=h',toks:=s.toks + 1 }) g1 λh2' k1 k2=>?_
   have hn:H s.heap.objs.size=none:=I.hok.fresh (Nat.le_refl _)
   have le1:e < s.heap.objs.size:=Heap.lt_size h1
   have le2:it < s.heap.objs.size:=by obtain ⟨o,z,_⟩:=h2; exact Heap.lt_size z
   have kp:∀ b o,b ≠ e->b ≠ it->s.heap.get? b=some o->h2'.get? b=some o:=λb o b1 b2 z=>(k2.2 b b1).trans (g5 b o b1 b2 z)
   have nt:h2'.get? s.heap.objs.size=some { cls:=.type "tuple",data:=.seq #[.int (i:Nat) s.toks,u] }:=(k2.2 _ (Nat.ne_of_gt le1)).trans g3
   have ne1:∀ b v,H b=some v->b ≠ e:=λb v z q=>by rw [q,fe.1] at z; cases z
   have ne2:∀ b v,H b=some v->b ≠ it:=λb v z q=>by rw [q,fi.1] at z; cases z
   have hok0:HOk X.prog X.w H h2':=λb v z=>(I.hok b v z).cE (λc v' hc' q=>kp c v' (by
       rcases hc' with hc' | hc'
       · rw [hc']; exact ne1 b v z
       · exact ne1 c _ hc') (by
       rcases hc' with hc' | hc'
       · rw [hc']; exact ne2 b v z
       · exact ne2 c _ hc') q) (λ_ q=>q) λ_ _ q=>q
   have hok1:HOk X.prog X.w (upd H s.heap.objs.size (.tup [.int (i:Nat),x])) h2':=λb v z=>by
     by_cases hb:b=s.heap.objs.size
     · subst hb
       rw [az] at z; cases z
       exact ⟨(by show 2<=sizeLine; decide),[.int (i:Nat) s.toks,u],.cons ⟨_,rfl⟩ (.cons ru .nil),_,nt,rfl,_,rfl⟩
     · rw [ai hb] at z
       exact (hok0 b v z).cE (λc v' _ q=>q) (λc q=>by rw [ai (au q hn)]; exact q) λc ys q=>by rw [ai (au q hn)]; exact q
   have I1:Inv X pins σ (upd H s.heap.objs.size (.tup [.int (i:Nat),x])) { s with heap:=h2',toks:=s.toks + 1 }:=by
     refine I.step (g':=s.gens) (d':=s.drawn) (ch:=[e,it]) (λb hb=>?_) (λb o _ _ hc' z _=>kp b o (λq=>hc' (by simp [q])) (λq=>hc' (by simp [q])) z)
       (λb o _ _ hc' z _=>⟨o.slots,kp b o (λq=>hc' (by simp [q])) (λq=>hc' (by simp [q])) z⟩)
       (λb o hc' z n=>by rw [ai (Nat.ne_of_lt (Heap.lt_size z))]; exact n) (λb o hc' z=>⟨o,kp b o (λq=>hc' (by simp [q])) (λq=>hc' (by simp [q])) z⟩)
       (λb ys z=>by rw [ai (au z hn)]; exact z) (λb o u z=>by rw [ai (au z hn)]; exact z) (λb ps z=>⟨#[],by rw [ai (au z hn),z]; simp⟩) (λm hm=>?_) hok1 I.bare
     · rcases List.mem_cons.mp hb with rfl | hb
       · exact ⟨fe.2.2.2.1,fe.2.1,fe.2.2.2.2.1,fe.2.2.2.2.2⟩
       · have z:b=it:=by simpa using hb
         subst z
         exact ⟨fi.2.2.2.1,fi.2.1,fi.2.2.2.2.1,fi.2.2.2.2.2⟩
     · obtain ⟨o,es,ep,ho,r⟩:=hm
       exact ⟨o,es,ep,kp _ o (Ne.symm fe.2.1) (Ne.symm fi.2.1) ho,r⟩
   refine ⟨.ref s.heap.objs.size,_,I1,rfl,⟨s.heap.objs.size,x,hn,rfl,rfl,λys hy=>by rw [I.eo hy hq]; exact hx⟩,⟨⟨_,k1⟩,?_⟩,λb hb=>?_⟩
   · obtain ⟨o,z1,z2,z3⟩:=g2
     exact ⟨o,(k2.2 it (Ne.symm hne)).trans z1,z2,z3⟩
   · rcases List.mem_cons.mp hb with rfl | hb
     · rw [ai (Nat.ne_of_lt le1)]; exact fe.1
     · have z:b=it:=by simpa using hb
       subst z
       rw [ai (Nat.ne_of_lt le2)]; exact fi.1
 done:=by
   intro X hP hw hK hc i pins s σ H E I hf st hg
   subst hP hw hK
   obtain ⟨xs,hq,hx⟩:=hg
   obtain ⟨its,rv,p,hz⟩:=I.list hq
   obtain ⟨⟨old,h1⟩,h2⟩:=st
   obtain ⟨f0,f1,f2,f3,f4,f5⟩:=hf it (by simp)
   have hl:=rv.length
   exact wpAny_pyNext_enum_end (I.ok.hd hc.calm) h1 h2 p.isList (by simp; omega) λh' eb=>⟨rfl,I.turned (t':=s.toks) (λb o hb z=>eb b o hb z) f0 f1 f3 f4 f5⟩
 self:=λ_ _ _ _ _ st h=>by
   obtain ⟨⟨old,h1⟩,_⟩:=st
   exact wpAny_pyIter_enum h1 h
section
variable {X:Cx}
noncomputable def qY (K:PySem.W.Frag) (ta:TA):TI:=λσ H R=>ta σ H λvs H1=>∃ a,vs=[.ref a]/\(∃ xs,SqL K H1 a xs)/\R (Ite K a) H1
theorem lU:bootBuiltins "enumerate" = some (.type "enumerate"):=by decide +kernel
theorem fy {ts:List Expr} {q:Nat} {tp:Pos} {a:Expr} {ta:TA} {p pos:Pos} (hc:X.calm=true) (hg:Gl X "enumerate") (hm:X.mg "enumerate" = none) (ha:PA X [a] ta) (hs:starEach [a] X.env=[(false,eval a X.env)]) :
   PI X (.Tuple ts q tp) (.Call (.Name "enumerate" p) [a] [] pos) (qY X.K ta):=by
 intro pins s σ H R I h
 refine Call_ (dq I hg hm lU (PyProof.Rows.callWith_type1 (thn (ha pos pins s σ H _ I h) λus s1 ⟨vs,H1,I1,r1,q1⟩=>?_) hs rfl))
 obtain ⟨l,e,⟨xs,hq⟩,q⟩:=q1
 subst e
 obtain ⟨u,rfl,ru⟩:=vals1 r1
 cases ru
 obtain ⟨its,rv,pl,hz⟩:=I1.list hq
 refine call_enumerate_list pl.isList λh' g1 g2 g3 g4=>?_
 refine wpAny_pyIter_enum (s:={ s1 with heap:=h' }) g1 ?_
 have I2:Inv X pins σ H1 { s1 with heap:=h' }:=I1.kept (t':=s1.toks) g4
 have n1:H1 (s1.heap.objs.size + 1)=none:=I1.hok.fresh (by omega)
 have n2:H1 s1.heap.objs.size=none:=I1.hok.fresh (Nat.le_refl _)
 refine ⟨false,s1.heap.objs.size + 1,[s1.heap.objs.size + 1,s1.heap.objs.size],_,_,H1,rfl,I2,.inl hc,lO l (s1.heap.objs.size + 1) s1.heap.objs.size (Nat.succ_ne_self _),⟨⟨_,g1⟩,g2⟩,λb hb=>?_,q⟩
 rcases List.mem_cons.mp hb with rfl | hb
 · exact I1.ly (by omega) n1
 · have z:b=s1.heap.objs.size:=by simpa using hb
   subst z
   exact I1.ly (Nat.le_refl _) n2
end
noncomputable def Itz (K:PySem.W.Frag) (a b:Addr):L2.It:=
 ⟨λi H=>∃ xs ys x y,SqL K H a xs/\SqL K H b ys/\xs[i]?=some x/\ys[i]?=some y,
  λi H v H'=>∃ p x y,H p=none/\v=.ref p/\H'=upd H p (.tup [x,y])/\(∀ xs,SqL K H a xs->xs[i]?=some x)/\∀ ys,SqL K H b ys->ys[i]?=some y,
  λi H=>∃ xs ys,SqL K H a xs/\SqL K H b ys/\(xs.length<=i\/ys.length<=i)⟩
noncomputable def zSt (a b z TI TO i1 i2:Addr) (i:Nat) (h:Heap):Prop:=
 IsZip h z TI TO .none/\IsPair h TI (.ref i1) (.ref i2)/\(∃ u v,IsPair h TO u v)/\h.IsListIter i1 a i/\h.IsListIter i2 b i
theorem gQ {h:Heap} {a b z TI TO i1 i2:Addr} {i:Nat} {xs ys:Array Value} (n:TI ≠ TO) (m:i1 ≠ i2) (s:zSt a b z TI TO i1 i2 i h) (l1:h.IsList a xs) (l2:h.IsList b ys):ZipApart z TI TO i1 i2 a b:=by
 obtain ⟨h1,h2,⟨u,v,h3⟩,⟨o4,h4,c4,d4⟩,⟨o5,h5,c5,d5⟩⟩:=s
 obtain ⟨o6,h6,c6,n6,d6⟩:=l1
 obtain ⟨o7,h7,c7,n7,d7⟩:=l2
 have kk:∀ {x y:Addr} {o p:Obj},h.get? x=some o->h.get? y=some p->o.cls ≠ p.cls->x ≠ y:=λe1 e2 c q=>by subst q; rw [e1] at e2; cases e2; exact c rfl
 have cz:∀ {s t:String},s ≠ t->Value.type s ≠ Value.type t:=λn q=>n (by cases q; rfl)
 refine ⟨kk h2 h1 (cz (by decide)),kk h3 h1 (cz (by decide)),kk h4 h1 ?_,kk h5 h1 ?_,n,kk h2 h4 ?_,kk h2 h5 ?_,kk h3 h4 ?_,kk h3 h5 ?_,m,kk h6 h1 ?_,kk h6 h3 ?_,kk h6 h4 ?_,kk h6 h5 ?_,kk h7 h1 ?_,kk h7 h3 ?_,kk h7 h4 ?_,kk h7 h5 ?_⟩
 all_goals first | (rw [c4]; exact cz (by decide)) | (rw [c5]; exact cz (by decide)) | (rw [c6]; exact cz (by decide)) | (rw [c7]; exact cz (by decide)) | (rw [c6,c4]; exact cz (by decide)) | (rw [c6,c5]; exact cz (by decide)) | (rw [c7,c4]; exact cz (by decide)) | (rw [c7,c5]; exact cz (by decide))
theorem nR {P:Program} {w:World} {K:PySem.W.Frag} {ts:List Expr} {q:Nat} {tp:Pos} (a b z TI TO i1 i2:Addr) (nT:TI ≠ TO) (nI:i1 ≠ i2) :
   Turn P w K false (.Tuple ts q tp) (Itz K a b) [z,TI,TO,i1,i2] z (zSt a b z TI TO i1 i2) where
 mem:=by simp
 obj:=λi h st c hb=>by
   obtain ⟨h1,h2,⟨u,v,h3⟩,⟨o4,h4,c4,d4⟩,⟨o5,h5,c5,d5⟩⟩:=st
   simp only [List.mem_cons,List.not_mem_nil,or_false] at hb
   rcases hb with rfl | rfl | rfl | rfl | rfl
   · exact ⟨_,h1,λv z=>nomatch z⟩
   · exact ⟨_,h2,λv z=>nomatch z⟩
   · exact ⟨_,h3,λv z=>nomatch z⟩
   · exact ⟨_,h4,λv z=>by rw [d4] at z; cases z⟩
   · exact ⟨_,h5,λv z=>by rw [d5] at z; cases z⟩
 keep:=λi h h' st k=>by
   obtain ⟨h1,h2,⟨u,v,h3⟩,⟨o4,h4,c4,d4⟩,⟨o5,h5,c5,d5⟩⟩:=st
   exact ⟨k z (by simp) _ h1,k TI (by simp) _ h2,⟨u,v,k TO (by simp) _ h3⟩,⟨o4,k i1 (by simp) _ h4,c4,d4⟩,⟨o5,k i2 (by simp) _ h5,c5,d5⟩⟩
 item:=by
   intro X hP hw hK hc i pins s σ H E I hf st hg
   subst hP hw hK
   obtain ⟨xs,ys,x,y,hq1,hq2,hx,hy⟩:=hg
   obtain ⟨its1,rv1,p1,hz1⟩:=I.list hq1
   obtain ⟨its2,rv2,p2,hz2⟩:=I.list hq2
   obtain ⟨u1,hu1,ru1⟩:=rv1.get hx
   obtain ⟨u2,hu2,ru2⟩:=rv2.get hy
   have D:=gQ nT nI st p1.isList p2.isList
   obtain ⟨h1,h2,⟨u,v,h3⟩,h4,h5⟩:=st
   refine wpAny_pyNext_zip_item D h1 h2 h3 h4 h5 p1.isList p2.isList (x:=u1) (y:=u2) (by simpa using hu1) (by simpa using hu2) λh' g1 g2 g3 g4 g5 g6 g7=>⟨_,rfl,?_⟩
   refine wpAny_letOwnedTupleGo_zip (s:={ s with heap:=h' }) g1 λh2' k1 k2=>?_
   have hn:H s.heap.objs.size=none:=I.hok.fresh (Nat.le_refl _)
   have le1:z < s.heap.objs.size:=Heap.lt_size h1
   have lt2:TI < s.heap.objs.size:=Heap.lt_size h2
   have lt3:TO < s.heap.objs.size:=Heap.lt_size h3
   have lt4:i1 < s.heap.objs.size:=by obtain ⟨o,z,_⟩:=h4; exact Heap.lt_size z
   have lt5:i2 < s.heap.objs.size:=by obtain ⟨o,z,_⟩:=h5; exact Heap.lt_size z
   have kp:∀ c o,c ≠ z->c ≠ TO->c ≠ i1->c ≠ i2->s.heap.get? c=some o->h2'.get? c=some o:=λc o b1 b2 b3 b4 e=>(k2.2 c b1).trans (g7 c o b1 b2 b3 b4 e)
   have nt:IsPair h2' s.heap.objs.size u1 u2:=(k2.2 _ (Nat.ne_of_gt le1)).trans g5
   have ne:∀ c,c ∈ [z,TI,TO,i1,i2]->∀ d v,H d=some v->d ≠ c:=λc hc d v e q=>by
     have:=(hf c hc).1
     rw [q,this] at e; cases e
   have hok0:HOk X.prog X.w H h2':=λd v e=>(I.hok d v e).cE (λc v' hc' q=>kp c v'
       (by rcases hc' with hc' | hc'
           · rw [hc']; exact ne z (by simp) d v e
           · exact ne z (by simp) c _ hc')
       (by rcases hc' with hc' | hc'
           · rw [hc']; exact ne TO (by simp) d v e
           · exact ne TO (by simp) c _ hc')
       (by rcases hc' with hc' | hc'
           · rw [hc']; exact ne i1 (by simp) d v e
           · exact ne i1 (by simp) c _ hc')
       (by rcases hc' with hc' | hc'
           · rw [hc']; exact ne i2 (by simp) d v e
           · exact ne i2 (by simp) c _ hc') q) (λ_ q=>q) λ_ _ q=>q
   have hok1:HOk X.prog X.w (upd H s.heap.objs.size (.tup [x,y])) h2':=λd v e=>by
     by_cases hb:d=s.heap.objs.size
     · subst hb
       rw [az] at e; cases e
       exact ⟨(by show 2<=sizeLine; decide),[u1,u2],.cons ru1 (.cons ru2 .nil),_,nt,rfl,_,rfl⟩
     · rw [ai hb] at e
       exact (hok0 d v e).cE (λc v' _ q=>q) (λc q=>by rw [ai (au q hn)]; exact q) λc ys q=>by rw [ai (au q hn)]; exact q
   have I1:Inv X pins σ (upd H s.heap.objs.size (.tup [x,y])) { s with heap:=h2' }:=by
     refine I.step (t':=s.toks) (g':=s.gens) (d':=s.drawn) (ch:=[z,TO,i1,i2]) (λc hb=>?_) (λc o _ _ hc' e _=>kp c o (λq=>hc' (by simp [q])) (λq=>hc' (by simp [q])) (λq=>hc' (by simp [q])) (λq=>hc' (by simp [q])) e)
       (λc o _ _ hc' e _=>⟨o.slots,kp c o (λq=>hc' (by simp [q])) (λq=>hc' (by simp [q])) (λq=>hc' (by simp [q])) (λq=>hc' (by simp [q])) e⟩)
       (λc o hc' e n=>by rw [ai (Nat.ne_of_lt (Heap.lt_size e))]; exact n) (λc o hc' e=>⟨o,kp c o (λq=>hc' (by simp [q])) (λq=>hc' (by simp [q])) (λq=>hc' (by simp [q])) (λq=>hc' (by simp [q])) e⟩)
       (λc ys e=>by rw [ai (au e hn)]; exact e) (λc o u e=>by rw [ai (au e hn)]; exact e) (λc ps e=>⟨#[],by rw [ai (au e hn),e]; simp⟩) (λm hm=>?_) hok1 I.bare
     · have hb':c ∈ [z,TI,TO,i1,i2]:=by
         simp only [List.mem_cons,List.not_mem_nil,or_false] at hb ⊢
         rcases hb with h | h | h | h <;> simp [h]
       have fe:=hf c hb'
       exact ⟨fe.2.2.2.1,fe.2.1,fe.2.2.2.2.1,fe.2.2.2.2.2⟩
     · obtain ⟨o,es,ep,ho,r⟩:=hm
       exact ⟨o,es,ep,kp _ o (Ne.symm (hf z (by simp)).2.1) (Ne.symm (hf TO (by simp)).2.1) (Ne.symm (hf i1 (by simp)).2.1) (Ne.symm (hf i2 (by simp)).2.1) ho,r⟩
   refine ⟨.ref s.heap.objs.size,_,I1,rfl,⟨s.heap.objs.size,x,y,hn,rfl,rfl,λzs hy'=>by rw [I.eo hy' hq1]; exact hx,λzs hy'=>by rw [I.eo hy' hq2]; exact hy⟩,⟨k1,?_,⟨u1,u2,(k2.2 TO D.TOz).trans g2⟩,?_,?_⟩,λc hb=>?_⟩
   · exact kp TI _ D.TIz D.TITO D.TIi1 D.TIi2 h2
   · obtain ⟨o,z1,z2,z3⟩:=g3
     exact ⟨o,(k2.2 i1 D.i1z).trans z1,z2,z3⟩
   · obtain ⟨o,z1,z2,z3⟩:=g4
     exact ⟨o,(k2.2 i2 D.i2z).trans z1,z2,z3⟩
   · have fc:=(hf c hb).1
     have lt:c < s.heap.objs.size:=by
       simp only [List.mem_cons,List.not_mem_nil,or_false] at hb
       rcases hb with rfl | rfl | rfl | rfl | rfl <;> assumption
     rw [ai (Nat.ne_of_lt lt)]
     exact fc
 done:=by
   intro X hP hw hK hc i pins s σ H E I hf st hg
   subst hP hw hK
   obtain ⟨xs,ys,hq1,hq2,hx⟩:=hg
   obtain ⟨its1,rv1,p1,hz1⟩:=I.list hq1
   obtain ⟨its2,rv2,p2,hz2⟩:=I.list hq2
   have D:=gQ nT nI st p1.isList p2.isList
   obtain ⟨h1,h2,⟨u,v,h3⟩,h4,h5⟩:=st
   have hl1:=rv1.length
   have hl2:=rv2.length
   refine wpAny_pyNext_zip_end (I.ok.hd hc.calm) D h1 h2 h3 h4 h5 p1.isList p2.isList (by
     rcases hx with hx | hx
     · left; simp; omega
     · right; simp; omega) λh' eb=>⟨rfl,?_⟩
   have ne:∀ c,c ∈ [z,TI,TO,i1,i2]->∀ d v,H d=some v->d ≠ c:=λc hc d v e q=>by
     have:=(hf c hc).1
     rw [q,this] at e; cases e
   have hok0:HOk X.prog X.w H h':=λd v e=>(I.hok d v e).cE (λc v' hc' q=>eb c v'
       (by rcases hc' with hc' | hc'
           · rw [hc']; exact ne z (by simp) d v e
           · exact ne z (by simp) c _ hc')
       (by rcases hc' with hc' | hc'
           · rw [hc']; exact ne TO (by simp) d v e
           · exact ne TO (by simp) c _ hc')
       (by rcases hc' with hc' | hc'
           · rw [hc']; exact ne i1 (by simp) d v e
           · exact ne i1 (by simp) c _ hc')
       (by rcases hc' with hc' | hc'
           · rw [hc']; exact ne i2 (by simp) d v e
           · exact ne i2 (by simp) c _ hc') q) (λ_ q=>q) λ_ _ q=>q
   refine I.step (t':=s.toks) (g':=s.gens) (d':=s.drawn) (ch:=[z,TO,i1,i2]) (λc hb=>?_) (λc o _ _ hc' e _=>eb c o (λq=>hc' (by simp [q])) (λq=>hc' (by simp [q])) (λq=>hc' (by simp [q])) (λq=>hc' (by simp [q])) e)
       (λc o _ _ hc' e _=>⟨o.slots,eb c o (λq=>hc' (by simp [q])) (λq=>hc' (by simp [q])) (λq=>hc' (by simp [q])) (λq=>hc' (by simp [q])) e⟩)
       (λc o hc' e n=>n) (λc o hc' e=>⟨o,eb c o (λq=>hc' (by simp [q])) (λq=>hc' (by simp [q])) (λq=>hc' (by simp [q])) (λq=>hc' (by simp [q])) e⟩)
       (λc ys e=>e) (λc o u e=>e) (λc ps e=>⟨#[],by rw [e]; simp⟩) (λm hm=>?_) hok0 I.bare
   · have hb':c ∈ [z,TI,TO,i1,i2]:=by
       simp only [List.mem_cons,List.not_mem_nil,or_false] at hb ⊢
       rcases hb with h | h | h | h <;> simp [h]
     have fe:=hf c hb'
     exact ⟨fe.2.2.2.1,fe.2.1,fe.2.2.2.2.1,fe.2.2.2.2.2⟩
   · obtain ⟨o,es,ep,ho,r⟩:=hm
     exact ⟨o,es,ep,eb _ o (Ne.symm (hf z (by simp)).2.1) (Ne.symm (hf TO (by simp)).2.1) (Ne.symm (hf i1 (by simp)).2.1) (Ne.symm (hf i2 (by simp)).2.1) ho,r⟩
 self:=λ_ _ _ _ _ st h=>wpAny_pyIter_zip st.1 h
section
variable {X:Cx}
noncomputable def rD (K:PySem.W.Frag) (ta:TA):TI:=λσ H R=>ta σ H λvs H1=>∃ a b,vs=[.ref a,.ref b]/\(∃ xs,SqL K H1 a xs)/\(∃ ys,SqL K H1 b ys)/\R (Itz K a b) H1
theorem jV {ts:List Expr} {q:Nat} {tp:Pos} {a b:Expr} {ta:TA} {p pos:Pos} (hc:X.calm=true) (hg:Gl X "zip") (hm:X.mg "zip" = none) (ha:PA X [a,b] ta) (hs:starEach [a,b] X.env=(false,eval a X.env) :: starEach [b] X.env) (hs2:starEach [b] X.env=[(false,eval b X.env)]) :
   PI X (.Tuple ts q tp) (.Call (.Name "zip" p) [a,b] [] pos) (rD X.K ta):=by
 intro pins s σ H R I h
 refine Call_ (dq I hg hm boot_zip (PyProof.Rows.callWith_type1 (thn (ha pos pins s σ H _ I h) λus s1 ⟨vs,H1,I1,r1,q1⟩=>?_) hs (by rw [hs2]; rfl)))
 obtain ⟨l,l',e,⟨xs,hq1⟩,⟨ys,hq2⟩,q⟩:=q1
 subst e
 obtain ⟨u,u',rfl,ru,ru'⟩:=vals2 r1
 cases ru
 cases ru'
 obtain ⟨its1,rv1,pl1,hz1⟩:=I1.list hq1
 obtain ⟨its2,rv2,pl2,hz2⟩:=I1.list hq2
 refine call_zip_2 pl1.isList pl2.isList λh' g1 g2 g3 g4 g5 g6 g7=>?_
 refine wpAny_pyIter_zip (s:={ s1 with heap:=h' }) g1 ?_
 have I2:Inv X pins σ H1 { s1 with heap:=h' }:=I1.kept (t':=s1.toks) g7
 have nn:∀ j,H1 (s1.heap.objs.size + j)=none:=λj=>I1.hok.fresh (by omega)
 refine ⟨false,s1.heap.objs.size + 4,[s1.heap.objs.size + 4,s1.heap.objs.size + 2,s1.heap.objs.size + 3,s1.heap.objs.size,s1.heap.objs.size + 1],_,_,H1,rfl,I2,.inl hc,nR l l' (s1.heap.objs.size + 4) (s1.heap.objs.size + 2) (s1.heap.objs.size + 3) s1.heap.objs.size (s1.heap.objs.size + 1) (by simp) (Ne.symm (Nat.succ_ne_self _)),⟨g1,g2,⟨_,_,g3⟩,g4,g5⟩,λc hb=>?_,q⟩
 have hb':∃ j,c=s1.heap.objs.size + j:=by
   simp only [List.mem_cons,List.not_mem_nil,or_false] at hb
   rcases hb with h | h | h | h | h
   · exact ⟨_,h⟩
   · exact ⟨_,h⟩
   · exact ⟨_,h⟩
   · exact ⟨0,h⟩
   · exact ⟨_,h⟩
 obtain ⟨j,rfl⟩:=hb'
 exact I1.ly (Nat.le_add_right _ _) (nn j)
end
section
variable {X:Cx} {tg:Expr}
end
theorem mL:∀ (names:List (Str × NameKind)) (n:Nat) (acc:List (Str × Addr)) (x:Str) (c:Addr),(cellsFrom n names acc).lookup x=some c->n<=c\/acc.lookup x=some c
 | [],_,_,_,_,h=>.inr h
 | (y,k) :: r,n,acc,x,c,h=>by
   unfold cellsFrom at h
   split at h
   · rcases mL r (n + 1) _ x c h with q | q
     · exact .inl (by omega)
     · rw [List.lookup_cons] at q
       split at q
       · cases q; exact .inl (Nat.le_refl _)
       · exact .inr q
   · exact mL r n acc x c h
theorem fZ:∀ (names:List (Str × NameKind)) (n:Nat) (acc:List (Str × Addr)) (x:Str),(x,NameKind.cell) ∉ names->(cellsFrom n names acc).lookup x=acc.lookup x
 | [],_,_,_,_=>rfl
 | (y,k) :: r,n,acc,x,h=>by
   have h1:(x,NameKind.cell) ∉ r:=λz=>h (List.mem_cons_of_mem _ z)
   unfold cellsFrom
   split
   · rename_i hk
     rw [fZ r _ _ x h1,List.lookup_cons]
     have:(x == y)=false:=by
       rw [beq_eq_false_iff_ne]
       rintro rfl
       exact h (by rw [eq_of_beq hk]; exact List.mem_cons_self)
     rw [this]
   · exact fZ r n acc x h1
theorem ir:∀ (names:List (Str × NameKind)) (n:Nat) (acc:List (Str × Addr)) (x:Str),(x,NameKind.cell) ∈ names->∃ c,(cellsFrom n names acc).lookup x=some c/\n<=c
 | (y,k) :: r,n,acc,x,h=>by
   unfold cellsFrom
   by_cases hr:(x,NameKind.cell) ∈ r
   · split
     · obtain ⟨c,e,l⟩:=ir r (n + 1) ((y,n) :: acc) x hr
       exact ⟨c,e,by omega⟩
     · exact ir r n acc x hr
   · rcases List.mem_cons.mp h with q | q
     · cases q
       rw [if_pos (by rfl),fZ r _ _ _ hr]
       exact ⟨n,by simp [List.lookup_cons],Nat.le_refl _⟩
     · exact absurd q hr
theorem jT:∀ (names:List (Str × NameKind)) (n:Nat) (acc:List (Str × Addr)),(∀ x c,acc.lookup x=some c->c < n)->(∀ x y c,acc.lookup x=some c->acc.lookup y=some c->x=y) ->
   ∀ x y c,(cellsFrom n names acc).lookup x=some c->(cellsFrom n names acc).lookup y=some c->x=y
 | [],_,_,_,h=>h
 | (z,k) :: r,n,acc,hl,h=>by
   unfold cellsFrom
   split
   · refine jT r (n + 1) _ (λx c e=>?_) (λx y c e1 e2=>?_)
     · rw [List.lookup_cons] at e
       split at e
       · cases e; exact Nat.lt_succ_self _
       · exact Nat.lt_succ_of_lt (hl x c e)
     · rw [List.lookup_cons] at e1 e2
       split at e1
       · rename_i q1
         cases e1
         split at e2
         · rename_i q2
           exact (eq_of_beq q1).trans (eq_of_beq q2).symm
         · exact absurd (hl y _ e2) (Nat.lt_irrefl _)
       · split at e2
         · cases e2
           exact absurd (hl x _ e1) (Nat.lt_irrefl _)
         · exact h x y c e1 e2
   · exact jT r n acc hl h
theorem iT:∀ (names:List (Str × NameKind)) (h:Heap) (acc:List (Str × Addr)),(∀ x c,acc.lookup x=some c->∃ v,h.IsCell c v)->∀ x c,(cellsFrom h.objs.size names acc).lookup x=some c->∃ v,(pushCells h names).IsCell c v
 | [],_,_,ha,x,c,e=>ha x c e
 | (z,k) :: r,h,acc,ha,x,c,e=>by
   unfold cellsFrom at e
   unfold pushCells
   split at e
   · rename_i hk
     rw [if_pos hk]
     refine iT r _ ((z,h.objs.size) :: acc) (λy d q=>?_) x c (by rw [Heap.size_push]; exact e)
     rw [List.lookup_cons] at q
     split at q
     · cases q
       exact ⟨none,_,Heap.get?_push_size _ rfl,rfl⟩
     · obtain ⟨v,o,ho,hd⟩:=ha y d q
       exact ⟨v,o,Heap.get?_push_of_some _ ho,hd⟩
   · rename_i hk
     rw [if_neg hk]
     exact iT r h acc ha x c e
noncomputable def bu (env:PySem.Env):List (Str × NameKind)->List (Str × Addr)->List (Str × Addr)
 | [],acc=>acc
 | (n,k) :: r,acc=>if k == .free then (match env.cells.lookup n with | some c=>bu env r ((n,c) :: acc) | none=>bu env r acc) else bu env r acc
theorem gg (env:PySem.Env):∀ (names:List (Str × NameKind)) (acc:List (Str × Addr)),(∀ x ∈ names,x.2=.free->∃ c,env.cells.lookup x.1=some c) ->
   (forIn (m:=Sem) names acc λx cs=>do
     let (name,kind):=x
     if kind == .free then do
       let c <- cellOf env name
       pure (ForInStep.yield ((name,c) :: cs))
     else pure (ForInStep.yield cs))=pure (bu env names acc)
 | [],acc,_=>rfl
 | (n,k) :: r,acc,h=>by
   rw [List.forIn_cons]
   unfold bu
   by_cases hk:(k == .free)=true
   · obtain ⟨c,hc⟩:=h (n,k) List.mem_cons_self (eq_of_beq hk)
     simp only [hk,if_true,cellOf,hc,pure_bind]
     exact gg env r _ λx hx=>h x (List.mem_cons_of_mem _ hx)
   · simp only [hk,Bool.false_eq_true,if_false,pure_bind]
     exact gg env r _ λx hx=>h x (List.mem_cons_of_mem _ hx)
theorem kD {env:PySem.Env} {scope:Scope} (h:∀ x ∈ scope.names,x.2=.free->∃ c,env.cells.lookup x.1=some c):closureFor scope env=pure (bu env scope.names []):=by
 unfold closureFor
 have:=gg env scope.names [] h
 simp only [bind_pure]
 exact this
theorem cq (env:PySem.Env):∀ (names:List (Str × NameKind)) (acc:List (Str × Addr)) (x:Str) (c:Addr),(∀ y d,acc.lookup y=some d->env.cells.lookup y=some d)->(bu env names acc).lookup x=some c->env.cells.lookup x=some c
 | [],_,x,c,ha,h=>ha x c h
 | (n,k) :: r,acc,x,c,ha,h=>by
   unfold bu at h
   split at h
   · split at h
     · rename_i c' hc
       refine cq env r _ x c (λy d q=>?_) h
       rw [List.lookup_cons] at q
       split at q
       · rename_i qq
         cases q
         rw [eq_of_beq qq]; exact hc
       · exact ha y d q
     · exact cq env r acc x c ha h
   · exact cq env r acc x c ha h
theorem bH (env:PySem.Env):∀ (names:List (Str × NameKind)) (acc:List (Str × Addr)) (x:Str) (c:Addr),(∀ y d,acc.lookup y=some d->env.cells.lookup y=some d)->env.cells.lookup x=some c->((x,NameKind.free) ∈ names\/acc.lookup x=some c)->(bu env names acc).lookup x=some c
 | [],_,x,c,_,_,h=>h.elim (λz=>absurd z (by simp)) id
 | (n,k) :: r,acc,x,c,ha,hc,h=>by
   unfold bu
   split
   · split
     · rename_i c' hc'
       refine bH env r _ x c (λy d q=>?_) hc ?_
       · rw [List.lookup_cons] at q
         split at q
         · rename_i qq
           cases q
           rw [eq_of_beq qq]; exact hc'
         · exact ha y d q
       · by_cases q:x=n
         · subst q
           rw [hc] at hc'; cases hc'
           exact .inr (by simp [List.lookup_cons])
         · rcases h with h | h
           · rcases List.mem_cons.mp h with z | z
             · cases z; exact absurd rfl q
             · exact .inl z
           · refine .inr ?_
             rw [List.lookup_cons,beq_eq_false_iff_ne.mpr q]
             exact h
     · rename_i hc'
       refine bH env r acc x c ha hc ?_
       rcases h with h | h
       · rcases List.mem_cons.mp h with z | z
         · cases z; rw [hc] at hc'; cases hc'
         · exact .inl z
       · exact .inr h
   · rename_i hk
     refine bH env r acc x c ha hc ?_
     rcases h with h | h
     · rcases List.mem_cons.mp h with z | z
       · cases z; exact absurd rfl hk
       · exact .inl z
     · exact .inr h
theorem gS {M:Model} {A:Around} {E:Value->Shared->Prop} {s:Shared} {scope:Scope} {cl:List (Str × Addr)} {env:PySem.Env} {Q:PySem.Env->Shared->Prop}
   (h:Q (newEnv scope s.heap.objs.size env.globals (cellsFrom (s.heap.objs.size + 1) scope.names cl) env.qual none .none (some env) builtinsNs) { s with heap:=pushCells (s.heap.push { cls:=.type "dict",data:=.dict #[] }) scope.names }) :
   wpAny M A (newFunctionEnv scope env.globals cl [] env.qual none .none (some env)) Q E s:=by
 simp only [newFunctionEnv,Option.isSome_some,if_true]
 refine wpAny_bind (wpAny_alloc ?_)
 refine wpAny_bind (wpAny_layCells _ (λname kind cells=>by cases hkc:kind == NameKind.cell <;> simp [hkc]) _ _ _ _ ?_)
 rw [show ({ s with heap:=s.heap.push { cls:=.type "dict",data:=.dict #[] } }:Shared).heap.objs.size=s.heap.objs.size + 1 from Heap.size_push ..]
 exact wpAny_bind (wpAny_pure (wpAny_pure h))
noncomputable def aw (X:Cx) (s:Shared) (H:Hp) (scope:Scope) (N:List Str) (fp:List Addr):Cx:=
 { prog:=X.prog,w:=X.w,K:=X.K,mg:=X.mg,base:=X.base,A:=X.A,N:=N,s₀:=s,H₀:=H
   env:=compEnvC scope (cellsFrom (s.heap.objs.size + 1 + 1) scope.names (bu X.env scope.names [])) (s.heap.objs.size + 1) X.env
   outer:=X.stack,stack:=X.stack,ex:=fp,fn:=λx=>decide ((x,NameKind.cell) ∈ scope.names),calm:=X.calm,pn:=[],xe:=λ_ _=>False }
noncomputable def bE (σ:L2.St) (caps:List (Option Nat)):L2.St:=caps.map λo=>o.bind λi=>(σ[i]?).join
structure bP (X:Cx) (scope:Scope) (N:List Str) (caps:List (Option Nat)):Prop where
 kind:scope.kind=.function
 loc:∀ x ∈ scope.names,x.2=.local->scope.names.lookup x.1=some .local
 fre:∀ x ∈ scope.names,x.2=.free->X.env.kindOf x.1=some .cell
 one:∀ x,(x,NameKind.free) ∈ scope.names->(x,NameKind.cell) ∉ scope.names
 noboth:∀ x,(x,NameKind.free) ∈ scope.names->(x,NameKind.local) ∉ scope.names
 len:N.length=caps.length + 1
 cap:∀ (j i:Nat),caps[j]?=some (some i)->∃ x,N[j]?=some x/\X.N[i]?=some x/\(x,NameKind.free) ∈ scope.names
 acc:∃ z,N[caps.length]?=some z/\¬ Vis (relabel scope X.env) z
section
variable {X:Cx} {pins:List (Addr × Obj)} {σ:L2.St} {H:Hp} {s:Shared} {scope:Scope} {N:List Str} {caps:List (Option Nat)} {fp:List Addr}
theorem cA {env:PySem.Env} {x:Str} {names:List (Str × NameKind)} (h:∀ y,(y,NameKind.free) ∈ names->env.kindOf y=some .cell) (hk:env.scope.kind=.function) {k:NameKind}
   (e:(names.map λ(n,k)=>if (k == NameKind.free && env.scope.kind == .function && env.kindOf n == some .cell) then (n,NameKind.cell) else (n,k)).lookup x=some k) :
   (x,k) ∈ names\/((x,NameKind.free) ∈ names/\k=.cell):=by
 induction names with
 | nil=>cases e
 | cons p r ih=>
   obtain ⟨n,q⟩:=p
   rw [List.map_cons] at e
   have hr:∀ y,(y,NameKind.free) ∈ r->env.kindOf y=some .cell:=λy hy=>h y (List.mem_cons_of_mem _ hy)
   have sub:((x,k) ∈ r\/((x,NameKind.free) ∈ r/\k=.cell))->(x,k) ∈ (n,q) :: r\/((x,NameKind.free) ∈ (n,q) :: r/\k=.cell):=λz=>
     z.elim (λy=>.inl (List.mem_cons_of_mem _ y)) λy=>.inr ⟨List.mem_cons_of_mem _ y.1,y.2⟩
   dsimp only at e
   split at e
   · rename_i c
     rw [List.lookup_cons] at e
     split at e
     · rename_i qq
       cases e
       rw [Bool.and_eq_true,Bool.and_eq_true] at c
       rw [eq_of_beq qq,eq_of_beq c.1.1]
       exact .inr ⟨List.mem_cons_self,rfl⟩
     · exact sub (ih hr e)
   · rename_i c
     rw [List.lookup_cons] at e
     split at e
     · rename_i qq
       cases e
       rw [eq_of_beq qq]
       exact .inl List.mem_cons_self
     · exact sub (ih hr e)
theorem dB (I:Inv X pins σ H s) (c:bP X scope N caps):∀ x ∈ scope.names,x.2=.free->∃ d,X.env.cells.lookup x.1=some d:=λx hx hf=>I.ok.has x.1 (.inl (c.fre x hx hf))
theorem i7 (I:Inv X pins σ H s) (hf:∀ b ∈ fp,gF X pins H b) (ho:∀ b ∈ fp,∃ o,s.heap.get? b=some o) (c:bP X scope N caps) :
   Inv (aw X s H scope N fp) [] (bE σ caps++[some (.ref s.heap.objs.size)]) (upd H s.heap.objs.size (.lst []))
     { s with heap:=pushCells ((s.heap.push { cls:=.type "list",data:=.seq ([]:List Value).toArray }).push { cls:=.type "dict",data:=.dict #[] }) scope.names }:=by
 have hcl:∀ x d,(bu X.env scope.names []).lookup x=some d->X.env.cells.lookup x=some d:=λx d=>cq X.env scope.names [] x d (λy d z=>by simp at z)
 have kp:∀ b o,s.heap.get? b=some o->(pushCells ((s.heap.push { cls:=.type "list",data:=.seq ([]:List Value).toArray }).push { cls:=.type "dict",data:=.dict #[] }) scope.names).get? b=some o:=λb o e=>
   pushCells_keeps _ _ b o (Heap.get?_push_of_some _ (Heap.get?_push_of_some _ e))
 have sz2:((s.heap.push { cls:=.type "list",data:=.seq ([]:List Value).toArray }).push { cls:=.type "dict",data:=.dict #[] }).objs.size=s.heap.objs.size + 1 + 1:=by rw [Heap.size_push,Heap.size_push]
 have oldc:∀ x d,X.env.cells.lookup x=some d->d < s.heap.objs.size:=λx d e=>by
   obtain ⟨v,o,q,_⟩:=I.cell x d e
   exact Heap.lt_size q
 have cel:∀ x d,(aw X s H scope N fp).env.cells.lookup x=some d->s.heap.objs.size + 1 + 1<=d\/X.env.cells.lookup x=some d:=λx d e=>by
   rcases mL _ _ _ x d e with q | q
   · exact .inl q
   · exact .inr (hcl x d q)
 have ok:(aw X s H scope N fp).Ok:=by
   refine ⟨I.ok.mod,c.kind,I.ok.glob,I.ok.blt,Nat.le_succ _,?_,?_,?_,I.ok.hd,I.ok.frames,.inl rfl,?_,I.bs,Nat.le_trans I.ok.bsz I.sz,?_,?_,I.stack,I.eg⟩
   · exact jT _ _ _ (λx d e=>Nat.lt_of_lt_of_le (oldc x d (hcl x d e)) (by omega)) λx y d e1 e2=>I.ok.inj x y d (hcl x d e1) (hcl y d e2)
   · intro x hx
     have hfk:∀ y,(y,NameKind.free) ∈ scope.names->X.env.kindOf y=some .cell:=λy hy=>c.fre _ hy rfl
     have fre:(x,NameKind.free) ∈ scope.names->∃ d,(aw X s H scope N fp).env.cells.lookup x=some d:=λhm=>by
       obtain ⟨d,hd⟩:=dB I c _ hm rfl
       exact ⟨d,by
         show (cellsFrom _ scope.names _).lookup x=_
         rw [fZ _ _ _ x (c.one x hm)]
         exact bH X.env scope.names [] x d (λy e z=>by simp at z) hd (.inl hm)⟩
     have own:(x,NameKind.cell) ∈ scope.names->∃ d,(aw X s H scope N fp).env.cells.lookup x=some d:=λhm=>by
       obtain ⟨d,e,_⟩:=ir scope.names (s.heap.objs.size + 1 + 1) (bu X.env scope.names []) x hm
       exact ⟨d,e⟩
     rcases hx with hx | hx
     · rcases cA hfk I.ok.kind (show (scope.names.map _).lookup x=some .cell from hx) with q | q
       · exact own q
       · exact fre q.1
     · rcases cA hfk I.ok.kind (show (scope.names.map _).lookup x=some .free from hx) with q | q
       · exact fre q
       · exact fre q.1
   · intro x d hfn e
     have hm:(x,NameKind.cell) ∈ scope.names:=of_decide_eq_true hfn
     obtain ⟨d',e',l⟩:=ir scope.names (s.heap.objs.size + 1 + 1) (bu X.env scope.names []) x hm
     have e2:(cellsFrom (s.heap.objs.size + 1 + 1) scope.names (bu X.env scope.names [])).lookup x=some d:=e
     rw [e'] at e2; cases e2
     exact Nat.le_trans (Nat.le_trans (Nat.le_succ _) (Nat.le_succ _)) l
   · intro b hb
     obtain ⟨o,q⟩:=ho b hb
     have bl:=Heap.lt_size q
     refine ⟨λz=>?_,λx d e z=>?_⟩
     · have z':b=s.heap.objs.size + 1:=z
       rw [z'] at bl
       exact absurd bl (Nat.not_lt.mpr (Nat.le_succ _))
     · subst z
       rcases cel x d e with q | q
       · exact absurd (Nat.lt_of_lt_of_le bl (Nat.le_trans (Nat.le_trans (Nat.le_succ _) (Nat.le_succ _)) q)) (Nat.lt_irrefl _)
       · exact (hf d hb).2.2.2.2.1 x d q rfl
   · intro b o e hb
     rcases (hf b hb).2.2.2.1 with q | q
     · exact I.ok.noex b o e q
     · have:=Nat.lt_of_lt_of_le (Heap.lt_size e) I.ok.bsz
       exact absurd (Nat.lt_of_lt_of_le this q) (Nat.lt_irrefl _)
   · intro b hb hm
     rcases List.mem_cons.mp (I.fB b hm) with q | q
     · exact (hf b hb).2.1 q
     · exact (hf b hb).2.2.1 q
 have hD:(pushCells ((s.heap.push { cls:=.type "list",data:=.seq ([]:List Value).toArray }).push { cls:=.type "dict",data:=.dict #[] }) scope.names).get? s.heap.objs.size=some { cls:=.type "list",data:=.seq ([]:List Value).toArray }:=
   pushCells_keeps _ _ _ _ (Heap.get?_push_of_some _ (Heap.get?_push_size _ rfl))
 have fr:∀ a,s.heap.objs.size<=a->a ≠ s.heap.objs.size->(upd H s.heap.objs.size (.lst [])) a=none:=λa h1 h2=>by rw [ai h2]; exact I.hok.fresh h1
 refine ⟨ok,rfl,I.bare,Un.laid kp (Nat.le_refl _) (I.hok.fresh (Nat.le_refl _)),⟨λ_=>none,?_,λi x v e1 e2 e3=>?_⟩,λx d e=>?_,?_,λx d e=>?_,λp hp=>absurd (show p ∈ ([]:List (Addr × Obj)) from hp) (by simp),?_,?_⟩
 · have:=Heap.Ns.new (s.heap.push { cls:=.type "list",data:=.seq ([]:List Value).toArray }) (.type "dict")
   rw [Heap.size_push] at this
   exact this.keeps (pushCells_keeps _ _)
 · by_cases hi:i < caps.length
   · rw [List.getElem?_append_left (by unfold bE; rw [List.length_map]; exact hi)] at e2
     unfold bE at e2
     rw [List.getElem?_map] at e2
     cases hc:caps[i]? with
     | none=>rw [hc] at e2; cases e2
     | some o=>
       rw [hc] at e2
       cases o with
       | none=>cases e2
       | some j=>
         have e2':(σ[j]?).join=some v:=Option.some.inj e2
         have e4:σ[j]?=some (some v):=by
           cases q:σ[j]? with
           | none=>rw [q] at e2'; cases e2'
           | some y=>rw [q] at e2'; exact congrArg some e2'
         obtain ⟨x',g1,g2,g3⟩:=c.cap i j hc
         rw [show (aw X s H scope N fp).N=N from rfl,g1] at e1
         cases e1
         have hkc:=c.fre _ g3 rfl
         obtain ⟨m,_,hl⟩:=I.loc
         obtain ⟨u,ru,look⟩:=hl j x v g2 e4 (.inr (.inl hkc))
         refine ⟨u,ru,?_⟩
         rcases look with ⟨k,_⟩ | ⟨k,d,hd,hcell⟩
         · rw [hkc] at k; cases k
         · have e5:(aw X s H scope N fp).env.cells.lookup x=some d:=by
             show (cellsFrom _ scope.names _).lookup x=_
             rw [fZ _ _ _ x (c.one x g3)]
             exact bH X.env scope.names [] x d (λy e z=>by simp at z) hd (.inl g3)
           have hcell':Heap.IsCell (pushCells ((s.heap.push { cls:=.type "list",data:=.seq ([]:List Value).toArray }).push { cls:=.type "dict",data:=.dict #[] }) scope.names) d (some u):=by
             obtain ⟨o,q1,q2⟩:=hcell
             exact ⟨o,kp _ _ q1,q2⟩
           refine .inr ⟨?_,d,e5,hcell'⟩
           rcases e3 with e3 | e3 | e3
           · exfalso
             rcases cA (λy hy=>c.fre _ hy rfl) I.ok.kind (show (scope.names.map _).lookup x=some .local from e3) with q | q
             · have q1:=c.loc _ q rfl
               exact c.noboth x g3 q
             · cases q.2
           · exact .inl e3
           · exact .inr e3
   · exfalso
     obtain ⟨z,z1,z2⟩:=c.acc
     have hl:i < N.length:=(List.getElem?_eq_some_iff.mp e1).1
     have:i=caps.length:=by have:=c.len; omega
     subst this
     rw [show (aw X s H scope N fp).N=N from rfl,z1] at e1
     cases e1
     exact z2 e3
 · rw [show (aw X s H scope N fp).env.cells=cellsFrom (s.heap.objs.size + 1 + 1) scope.names (bu X.env scope.names []) from rfl,<- sz2] at e
   refine iT scope.names _ _ (λy d' q=>?_) x d e
   obtain ⟨v,o,q1,q2⟩:=I.cell y d' (hcl y d' q)
   exact ⟨v,o,Heap.get?_push_of_some _ (Heap.get?_push_of_some _ q1),q2⟩
 · exact fr _ (Nat.le_succ _) (Nat.succ_ne_self _)
 · rcases cel x d e with q | q
   · exact fr d (by omega) (by intro z; omega)
   · rw [ai (Nat.ne_of_lt (oldc x d q))]; exact I.freeC x d q
 · exact I.hok.laid kp (Nat.le_refl _) ⟨Nat.zero_le _,[],0,.nil,hD⟩
 · rw [List.length_append]
   unfold bE
   rw [List.length_map,show (aw X s H scope N fp).N=N from rfl,c.len]
   rfl
end
noncomputable def PTs (X:Cx) (ifs:List Expr) (t:TT):Prop:=
 ∀ (pins:List (Addr × Obj)) (s:Shared) (σ:L2.St) (H:Hp) (Q:Bool->Hp->Prop),Inv X pins σ H s->t σ H Q ->
   wpAny (model X.prog X.w) X.A (forIn ifs true λc r=>if r=true then do let ok <- isTrue c X.env (eval c X.env); pure (ForInStep.yield ok) else pure (ForInStep.yield r)) (TP X pins σ Q) X.xe s
section
variable {prog:Program} {w:World} {A:Around} {R:Result->Shared->Prop} {s:Shared}
theorem fL {elt target iter:Expr} {ifs:List Expr} {scope:Scope} {pos:Pos} {it acc:Value} {env:PySem.Env} (Iv:Nat->Shared->Prop)
   (step:∀ n s,Iv n s->wpAny (model prog w) A (pyNext it) (λr s₁=>match r with
     | none=>R (.ok .next) s₁
     | some v=>wpAny (model prog w) A (letOwnedTupleGo target it v) (λ_ s₀=>wpAny (model prog w) A (assign target env v) (λ_ s₂=>
         wpAny (model prog w) A (forIn ifs true λc r=>if r=true then do let ok <- isTrue c env (eval c env); pure (ForInStep.yield ok) else pure (ForInStep.yield r)) (λok s₃=>
           if ok=true then wpAny (model prog w) A (eval elt env) (λx s₄=>
             wpAny (model prog w) A (call (.builtin "list.append") [acc,x]) (λ_ s₅=>∃ m,m < n/\Iv m s₅) (λ_ _=>False) s₄) (λ_ _=>False) s₃
           else ∃ m,m < n/\Iv m s₃) (λ_ _=>False) s₂) (λ_ _=>False) s₀) (λ_ _=>False) s₁) (λ_ _=>False) s)
   (n:Nat) (h:Iv n s):codeAny (model prog w) A (.compLoop (.ListComp elt [⟨target,iter,ifs,0⟩] scope pos) 0 it acc env) R s:=by
 have no:∀ {α:Type} {t:Sem α} {Q:α->Shared->Prop} {s:Shared} {E:Value->Shared->Prop},wpAny (model prog w) A t Q (λ_ _=>False) s->wpAny (model prog w) A t Q E s:=λh=>wpAny_mono h (λ_ _ q=>q) λ_ _ q=>q.elim
 refine codeAny_loop rfl Iv (λn s hI=>?_) n h
 show wpAny _ A (Sem.onRaise (compTurn (.ListComp elt [⟨target,iter,ifs,0⟩] scope pos) 0 it acc env) (λx=>do noteFrame x env; theTreesLotGoes x)) _ _ s
 refine wpAny_noted ?_
 rw [compTurn_list]
 refine wpAny_bind (wpAny_standAt (wpAny_bind (thn (no (step n s hI)) λr s₁ h₁=>?_)))
 cases r with
 | none=>exact wpAny_pure h₁
 | some v=>
   refine wpAny_bind (thn (no h₁) λ_ s₀ h₀=>wpAny_bind (thn (no h₀) λ_ s₂ h₂=>wpAny_bind (thn (no h₂) λok s₃ h₃=>?_)))
   cases ok with
   | false=>exact wpAny_pure ⟨rfl,h₃⟩
   | true=>exact wpAny_bind (wpAny_bind (thn (no h₃) λx s₄ h₄=>wpAny_bind (thn (no h₄) λ_ s₅ h₅=>wpAny_pure (wpAny_pure ⟨rfl,h₅⟩))))
end
theorem kf {X:Cx} {kd:Bool} {pins:List (Addr × Obj)} {σ:L2.St} {H:Hp} {s:Shared} {scope:Scope} {N:List Str} {fp:List Addr} (h:Ck kd X) (I:Inv X pins σ H s):Ck kd (aw X s H scope N fp):=by
 rcases h with h | ⟨hk,q,o,u,vs,e1,e2,e3,e4⟩
 · exact .inl h
 · exact .inr ⟨hk,q,o,u,vs,e1,I.base.frzs q o u e2,e3,e4⟩
noncomputable def bY (In:TG->TT->TE->Prop) (caps:List (Option Nat)) (wi:TI):TE:=λσ H Q=>wi σ H λJ H1=>∃ g tt te,In g tt te/\∀ D,H1 D=none ->
 ∃ Z:Nat->Nat->L2.St->Hp->Prop,(∃ m,Z 0 m (bE σ caps++[some (.ref D)]) (upd H1 D (.lst [])))/\∀ i m σ' H',Z i m σ' H' ->
   (J.stop i H'/\Q (.ref D) H')\/(J.go i H'/\∀ x H2,J.yld i H' x H2->g x σ' H2 λσ2 H3=>tt σ2 H3 λb H4=>
     if b=true then te σ2 H4 λv H5=>∃ vs m',H5 D=some (.lst vs)/\vs.length < sizeLine/\m' < m/\Z (i + 1) m' σ2 (upd H5 D (.lst (vs++[v]))) else ∃ m',m' < m/\Z (i + 1) m' σ2 H4)
theorem bc {X:Cx} {elt tg iter:Expr} {ifs:List Expr} {scope:Scope} {N:List Str} {caps:List (Option Nat)} {pos:Pos} {wi:TI} {In:TG->TT->TE->Prop} (c:bP X scope N caps) (hi:PI X tg iter wi)
   (hs:∀ x,foldedSetIterable iter X.env x=pure x)
   (hin:∀ g tt te,In g tt te->∀ s H fp,PG (aw X s H scope N fp) tg g/\PTs (aw X s H scope N fp) ifs tt/\PE (aw X s H scope N fp) elt te) :
   PE X (.ListComp elt [⟨tg,iter,ifs,0⟩] scope pos) (bY In caps wi):=by
 intro pins s σ H Q I h
 rw [eval_ListComp]
 have hcl:=kD (dB I c)
 refine wpAny_comprehension_free (use:=none) (g:=⟨tg,iter,ifs,0⟩) (gs:=[]) rfl hs hcl c.kind c.loc ?_
 show wpAny _ _ (eval iter X.env) _ _ s
 refine thn (hi pins s σ H _ I h) λv s1 h1=>thn h1 λitv s2 h2=>?_
 obtain ⟨kd,it,fp,tn,J,H2,e,I2,hck,T,st2,f2,g,tt,te,hI,q⟩:=h2
 have hc:=kf (scope:=scope) (N:=N) (fp:=fp) hck I2
 subst e
 obtain ⟨Z,⟨m0,z0⟩,turn⟩:=q s2.heap.objs.size (I2.hok.fresh (Nat.le_refl _))
 have ho:∀ b ∈ fp,∃ o,s2.heap.get? b=some o:=λb hb=>let ⟨o,e,_⟩:=T.obj _ _ st2 b hb; ⟨o,e⟩
 have I4:=i7 (scope:=scope) (N:=N) (caps:=caps) I2 f2 ho c
 obtain ⟨hg,ht,he⟩:=hin g tt te hI s2 H2 fp
 refine wpAny_newObj_type (gS ?_) (by show 0<=sizeLine; decide)
 have hC:(s2.heap.push { cls:=.type "list",dict:=none,data:=.seq ([]:List Value).toArray }).objs.size=s2.heap.objs.size + 1:=Heap.size_push ..
 dsimp only
 rw [hC]
 have kp:∀ b o,s2.heap.get? b=some o->(pushCells ((s2.heap.push { cls:=.type "list",data:=.seq ([]:List Value).toArray }).push { cls:=.type "dict",data:=.dict #[] }) scope.names).get? b=some o:=λb o e=>
   pushCells_keeps _ _ b o (Heap.get?_push_of_some _ (Heap.get?_push_of_some _ e))
 have st4:tn 0 (pushCells ((s2.heap.push { cls:=.type "list",data:=.seq ([]:List Value).toArray }).push { cls:=.type "dict",data:=.dict #[] }) scope.names):=T.keep _ _ _ st2 λb _ o e=>kp b o e
 have stat:∀ {H':Hp},(∀ b ∈ fp,H' b=none)->∀ b ∈ fp,gF (aw X s2 H2 scope N fp) [] H' b:=λhn b hb=>
   ⟨hn b hb,(I4.ok.exf b hb).1,I4.ok.exfs b hb,.inl hb,(I4.ok.exf b hb).2,λp hp=>absurd (show p ∈ ([]:List (Addr × Obj)) from hp) (by simp)⟩
 have fr4:∀ b ∈ fp,(upd H2 s2.heap.objs.size (.lst [])) b=none:=λb hb=>by
   obtain ⟨o,e⟩:=ho b hb
   rw [ai (Nat.ne_of_lt (Heap.lt_size e))]; exact (f2 b hb).1
 have loop:codeAny (model X.prog X.w) X.A (.compLoop (.ListComp elt [⟨tg,iter,ifs,0⟩] scope pos) 0 (.ref it) (.ref s2.heap.objs.size) (aw X s2 H2 scope N fp).env)
     (compPost (model X.prog X.w) X.A X.xe none (EP X pins σ Q) (.ref s2.heap.objs.size) (s2.heap.objs.size + 1))
     { s2 with heap:=pushCells ((s2.heap.push { cls:=.type "list",data:=.seq ([]:List Value).toArray }).push { cls:=.type "dict",data:=.dict #[] }) scope.names }:=by
   refine fL (λn s'=>∃ i σ' H',Inv (aw X s2 H2 scope N fp) [] σ' H' s'/\tn i s'.heap/\(∀ b ∈ fp,H' b=none)/\Z i n σ' H') ?_ m0 ⟨0,_,_,I4,st4,fr4,z0⟩
   rintro n s3 ⟨i,σ3,H3,I3,st3,fr3,w3⟩
   rcases turn i n σ3 H3 w3 with ⟨stop,qn⟩ | ⟨go,step⟩
   · refine thn (T.done (aw X s2 H2 scope N fp) rfl rfl rfl hc i [] s3 σ3 H3 _ I3 (stat fr3) st3 stop) λr s5 ⟨hr,I5⟩=>?_
     subst hr
     obtain ⟨m,hn,_⟩:=id I5.loc
     refine ⟨m,hn,λh' sb=>⟨.ref s2.heap.objs.size,H3,?_,rfl,qn⟩⟩
     have lt:∀ b o,s2.heap.get? b=some o->b ≠ s2.heap.objs.size + 1:=λb o e=>Nat.ne_of_lt (Nat.lt_succ_of_lt (Heap.lt_size e))
     have u:=I5.base
     have u':Un (frs X.stack) fp H2 H3 s2.heap h':=⟨λb o e n1 n2 n3=>(sb.2 b (lt b o e)).trans (u.keep b o e n1 n2 n3),λb o e n1 n2 n3=>let ⟨sl,z⟩:=u.slot b o e n1 n2 n3; ⟨sl,(sb.2 b (lt b o e)).trans z⟩,
       u.free,λb o e n1=>let ⟨o',z⟩:=u.there b o e n1; ⟨o',(sb.2 b (lt b o e)).trans z⟩,u.tups,u.frzs,u.tbls⟩
     have fC:H3 (s2.heap.objs.size + 1)=none:=I5.free
     refine I2.gZ (s':={ s5 with heap:=h' }) I5.os u' (λb o e=>(I5.hok b o e).cE (λd v hd z=>(sb.2 d ?_).trans z) (λ_ z=>z) λ_ _ z=>z) I5.bare λb hb=>⟨(f2 b hb).2.2.2.1,(f2 b hb).2.1,(f2 b hb).2.2.2.2.1,(f2 b hb).2.2.2.2.2⟩
     rcases hd with hd | hd
     · rw [hd]; exact au e fC
     · exact au hd fC
   · refine thn (T.item (aw X s2 H2 scope N fp) rfl rfl rfl hc i [] s3 σ3 H3 _ I3 (stat fr3) st3 go) λr s4 ⟨u,hr,h4⟩=>?_
     subst hr
     refine thn h4 λ_ s5 ⟨x,H5,I5,r5,y5,st5,fr5⟩=>?_
     have I5':=I5.pinned (stat fr5) (T.obj _ _ st5)
     refine thn (hg _ s5 σ3 H5 x u _ I5' r5 (step x H5 y5)) λ_ s6 ⟨σ6,H6,I6,q6⟩=>?_
     have again:∀ {s7:Shared} {σ7:L2.St} {H7:Hp} {m':Nat},Inv (aw X s2 H2 scope N fp) ([]++dF fp s5.heap) σ7 H7 s7->m' < n->Z (i + 1) m' σ7 H7 ->
         ∃ m,m < n/\∃ i σ' H',Inv (aw X s2 H2 scope N fp) [] σ' H' s7/\tn i s7.heap/\(∀ b ∈ fp,H' b=none)/\Z i m σ' H':=λ{s7 σ7 H7 m'} I7 hm z7=>by
       refine ⟨m',hm,i + 1,σ7,H7,I7.cc,T.keep _ _ _ st5 λb hb o e=>(I7.pin (b,o) (List.mem_append_right _ (List.mem_append_right _ (a8 hb e)))).1,λb hb=>?_,z7⟩
       obtain ⟨o,e,d⟩:=T.obj _ _ st5 b hb
       exact (I7.pin (b,o) (List.mem_append_right _ (List.mem_append_right _ (a8 hb e)))).2.1
     refine thn (ht _ s6 σ6 H6 _ I6 q6) λok s7 ⟨H7,I7,q7⟩=>?_
     cases ok with
     | false=>
       rw [if_neg (by decide)] at q7
       obtain ⟨m',hm,z7⟩:=q7
       exact again I7 hm z7
     | true=>
       rw [if_pos rfl] at q7
       refine thn (he _ s7 σ6 H7 _ I7 q7) λv' s8 ⟨v,H8,I8,r8,vs,m',q8,l8,hm,z8⟩=>?_
       refine thn (cb (X:=aw X s2 H2 scope N fp) _ s8 σ6 H8 (.ref s2.heap.objs.size) [v] (.ref s2.heap.objs.size) [v'] (λ_ H9=>H9=upd H8 s2.heap.objs.size (.lst (vs++[v]))) I8 rfl (.cons r8 .nil) ⟨_,vs,v,rfl,rfl,q8,l8,rfl⟩) λ_ s9 ⟨_,H9,I9,_,e9⟩=>?_
       subst e9
       exact again I9 hm z8
 exact codeAny_compStart_list loop (T.self _ 0 _ _ _ st4 loop)
theorem gk {X:Cx} {gT:TG} {y:Str} {py spos:Pos} {elt tg iter:Expr} {ifs:List Expr} {scope:Scope} {N:List Str} {caps:List (Option Nat)} {pos:Pos} {wi:TI} {In:TG->TT->TE->Prop} (hT:PG X (.Name y py) gT) (c:bP X scope N caps) (hi:PI X tg iter wi)
   (hs:∀ x,foldedSetIterable iter X.env x=pure x)
   (hin:∀ g tt te,In g tt te->∀ s H fp,PG (aw X s H scope N fp) tg g/\PTs (aw X s H scope N fp) ifs tt/\PE (aw X s H scope N fp) elt te)
   (hsw:swapsWith (.ListComp elt [⟨tg,iter,ifs,0⟩] scope pos) (some (.Name y py)) spos.line X.env=pure true) :
   PS X (.Assign [.Name y py] (.ListComp elt [⟨tg,iter,ifs,0⟩] scope pos) spos) (t4 (bY In caps wi) gT):=by
 intro pins s σ H D I h
 rw [exec_Assign_Name_used _ _ _ _ hsw]
 refine wpAny_bind (wpAny_standAt (wpAny_bind ?_))
 show wpAny _ _ (do let _ <- comprehension (.ListComp elt [⟨tg,iter,ifs,0⟩] scope pos) scope X.env _ (newList []) false _ (some (assign (.Name y py) X.env))) _ _ s
 refine wpAny_bind ?_
 have hcl:=kD (dB I c)
 refine wpAny_comprehension_free (use:=some (assign (.Name y py) X.env)) (Q:=λ_ s'=>wpAny (model X.prog X.w) X.A (pure ()) (λ_ s''=>wpAny (model X.prog X.w) X.A (pure Flow.next) (SP X pins D) X.xe s'') X.xe s') (g:=⟨tg,iter,ifs,0⟩) (gs:=[]) rfl hs hcl c.kind c.loc ?_
 show wpAny _ _ (eval iter X.env) _ _ s
 refine thn (hi pins s σ H _ I h) λv s1 h1=>thn h1 λitv s2 h2=>?_
 obtain ⟨kd,it,fp,tn,J,H2,e,I2,hck,T,st2,f2,g,tt,te,hI,q⟩:=h2
 have hc:=kf (scope:=scope) (N:=N) (fp:=fp) hck I2
 subst e
 obtain ⟨Z,⟨m0,z0⟩,turn⟩:=q s2.heap.objs.size (I2.hok.fresh (Nat.le_refl _))
 have ho:∀ b ∈ fp,∃ o,s2.heap.get? b=some o:=λb hb=>let ⟨o,e,_⟩:=T.obj _ _ st2 b hb; ⟨o,e⟩
 have I4:=i7 (scope:=scope) (N:=N) (caps:=caps) I2 f2 ho c
 obtain ⟨hg,ht,he⟩:=hin g tt te hI s2 H2 fp
 refine wpAny_newObj_type (gS ?_) (by show 0<=sizeLine; decide)
 have hC:(s2.heap.push { cls:=.type "list",dict:=none,data:=.seq ([]:List Value).toArray }).objs.size=s2.heap.objs.size + 1:=Heap.size_push ..
 dsimp only
 rw [hC]
 have kp:∀ b o,s2.heap.get? b=some o->(pushCells ((s2.heap.push { cls:=.type "list",data:=.seq ([]:List Value).toArray }).push { cls:=.type "dict",data:=.dict #[] }) scope.names).get? b=some o:=λb o e=>
   pushCells_keeps _ _ b o (Heap.get?_push_of_some _ (Heap.get?_push_of_some _ e))
 have st4:tn 0 (pushCells ((s2.heap.push { cls:=.type "list",data:=.seq ([]:List Value).toArray }).push { cls:=.type "dict",data:=.dict #[] }) scope.names):=T.keep _ _ _ st2 λb _ o e=>kp b o e
 have stat:∀ {H':Hp},(∀ b ∈ fp,H' b=none)->∀ b ∈ fp,gF (aw X s2 H2 scope N fp) [] H' b:=λhn b hb=>
   ⟨hn b hb,(I4.ok.exf b hb).1,I4.ok.exfs b hb,.inl hb,(I4.ok.exf b hb).2,λp hp=>absurd (show p ∈ ([]:List (Addr × Obj)) from hp) (by simp)⟩
 have fr4:∀ b ∈ fp,(upd H2 s2.heap.objs.size (.lst [])) b=none:=λb hb=>by
   obtain ⟨o,e⟩:=ho b hb
   rw [ai (Nat.ne_of_lt (Heap.lt_size e))]; exact (f2 b hb).1
 have loop:codeAny (model X.prog X.w) X.A (.compLoop (.ListComp elt [⟨tg,iter,ifs,0⟩] scope pos) 0 (.ref it) (.ref s2.heap.objs.size) (aw X s2 H2 scope N fp).env)
     (compPost (model X.prog X.w) X.A X.xe (some (assign (.Name y py) X.env)) (λ_ s'=>wpAny (model X.prog X.w) X.A (pure ()) (λ_ s''=>wpAny (model X.prog X.w) X.A (pure Flow.next) (SP X pins D) X.xe s'') X.xe s') (.ref s2.heap.objs.size) (s2.heap.objs.size + 1))
     { s2 with heap:=pushCells ((s2.heap.push { cls:=.type "list",data:=.seq ([]:List Value).toArray }).push { cls:=.type "dict",data:=.dict #[] }) scope.names }:=by
   refine fL (λn s'=>∃ i σ' H',Inv (aw X s2 H2 scope N fp) [] σ' H' s'/\tn i s'.heap/\(∀ b ∈ fp,H' b=none)/\Z i n σ' H') ?_ m0 ⟨0,_,_,I4,st4,fr4,z0⟩
   rintro n s3 ⟨i,σ3,H3,I3,st3,fr3,w3⟩
   rcases turn i n σ3 H3 w3 with ⟨stop,qn⟩ | ⟨go,step⟩
   · refine thn (T.done (aw X s2 H2 scope N fp) rfl rfl rfl hc i [] s3 σ3 H3 _ I3 (stat fr3) st3 stop) λr s5 ⟨hr,I5⟩=>?_
     subst hr
     obtain ⟨m,hn,_⟩:=id I5.loc
     have I6:Inv X pins σ H3 s5:=by
       have lt:∀ b o,s2.heap.get? b=some o->b ≠ s2.heap.objs.size + 1:=λb o e=>Nat.ne_of_lt (Nat.lt_succ_of_lt (Heap.lt_size e))
       have u:=I5.base
       have u':Un (frs X.stack) fp H2 H3 s2.heap s5.heap:=⟨λb o e n1 n2 n3=>u.keep b o e n1 n2 n3,λb o e n1 n2 n3=>u.slot b o e n1 n2 n3,u.free,λb o e n1=>u.there b o e n1,u.tups,u.frzs,u.tbls⟩
       exact I2.gZ (s':=s5) I5.os u' I5.hok I5.bare λb hb=>⟨(f2 b hb).2.2.2.1,(f2 b hb).2.1,(f2 b hb).2.2.2.2.1,(f2 b hb).2.2.2.2.2⟩
     have fC:H3 (s2.heap.objs.size + 1)=none:=I5.free
     have fk:gF X pins H3 (s2.heap.objs.size + 1):=I2.ly (Nat.le_succ _) fC
     obtain ⟨oC,es,ep,hoC,hdC,rC⟩:=id hn
     have hpin:=I6.pinned (fp:=[s2.heap.objs.size + 1]) (λb hb=>by rw [List.mem_singleton.mp hb]; exact fk) (λb hb=>by rw [List.mem_singleton.mp hb]; exact ⟨oC,hoC,λv z=>by rw [hdC] at z; cases z⟩)
     have hmem:(s2.heap.objs.size + 1,oC) ∈ dF [s2.heap.objs.size + 1] s5.heap:=a8 (List.mem_singleton_self _) hoC
     refine thn (hT _ s5 σ H3 (.ref s2.heap.objs.size) (.ref s2.heap.objs.size) _ hpin rfl qn) λ_ s6 ⟨σ6,H6,I7,q7⟩=>?_
     obtain ⟨p1,p2,p3,p4,p5⟩:=I7.pin _ (List.mem_append_right _ (List.mem_append_right _ hmem))
     refine ⟨m,⟨oC,es,ep,p1,hdC,rC⟩,λh' sb=>wpAny_pure (wpAny_pure ?_)⟩
     refine ⟨σ6,H6,?_,q7⟩
     exact (I7.cc).turned (t':=s6.toks) (it:=s2.heap.objs.size + 1) (λb o hb e=>(sb.2 b hb).trans e) p2 p3 fk.2.2.2.1 fk.2.2.2.2.1 fk.2.2.2.2.2
   · refine thn (T.item (aw X s2 H2 scope N fp) rfl rfl rfl hc i [] s3 σ3 H3 _ I3 (stat fr3) st3 go) λr s4 ⟨u,hr,h4⟩=>?_
     subst hr
     refine thn h4 λ_ s5 ⟨x,H5,I5,r5,y5,st5,fr5⟩=>?_
     have I5':=I5.pinned (stat fr5) (T.obj _ _ st5)
     refine thn (hg _ s5 σ3 H5 x u _ I5' r5 (step x H5 y5)) λ_ s6 ⟨σ6,H6,I6,q6⟩=>?_
     have again:∀ {s7:Shared} {σ7:L2.St} {H7:Hp} {m':Nat},Inv (aw X s2 H2 scope N fp) ([]++dF fp s5.heap) σ7 H7 s7->m' < n->Z (i + 1) m' σ7 H7 ->
         ∃ m,m < n/\∃ i σ' H',Inv (aw X s2 H2 scope N fp) [] σ' H' s7/\tn i s7.heap/\(∀ b ∈ fp,H' b=none)/\Z i m σ' H':=λ{s7 σ7 H7 m'} I7 hm z7=>by
       refine ⟨m',hm,i + 1,σ7,H7,I7.cc,T.keep _ _ _ st5 λb hb o e=>(I7.pin (b,o) (List.mem_append_right _ (List.mem_append_right _ (a8 hb e)))).1,λb hb=>?_,z7⟩
       obtain ⟨o,e,d⟩:=T.obj _ _ st5 b hb
       exact (I7.pin (b,o) (List.mem_append_right _ (List.mem_append_right _ (a8 hb e)))).2.1
     refine thn (ht _ s6 σ6 H6 _ I6 q6) λok s7 ⟨H7,I7,q7⟩=>?_
     cases ok with
     | false=>
       rw [if_neg (by decide)] at q7
       obtain ⟨m',hm,z7⟩:=q7
       exact again I7 hm z7
     | true=>
       rw [if_pos rfl] at q7
       refine thn (he _ s7 σ6 H7 _ I7 q7) λv' s8 ⟨v,H8,I8,r8,vs,m',q8,l8,hm,z8⟩=>?_
       refine thn (cb (X:=aw X s2 H2 scope N fp) _ s8 σ6 H8 (.ref s2.heap.objs.size) [v] (.ref s2.heap.objs.size) [v'] (λ_ H9=>H9=upd H8 s2.heap.objs.size (.lst (vs++[v]))) I8 rfl (.cons r8 .nil) ⟨_,vs,v,rfl,rfl,q8,l8,rfl⟩) λ_ s9 ⟨_,H9,I9,_,e9⟩=>?_
       subst e9
       exact again I9 hm z8
 exact codeAny_compStart_list loop (T.self _ 0 _ _ _ st4 loop)
end Ev
namespace Hy
open PySem PySem.Spec PyProof.Rows L2
open Ev (D Den aq)
open Classical in
noncomputable def hd (H:Hp) (M:Addr->Prop):Hp:=λb=>if M b then none else H b
theorem ag {H:Hp} {M:Addr->Prop} {b:Addr} {o:HO}:hd H M b=some o ↔ ¬ M b/\H b=some o:=by
 unfold hd
 by_cases h:M b
 · rw [if_pos h]; exact ⟨λz=>(nomatch z),λz=>absurd h z.1⟩
 · rw [if_neg h]; exact ⟨λz=>⟨h,z⟩,λz=>z.2⟩
theorem ao {H H':Hp} {M M':Addr->Prop} (e:af H H') (m:∀ b,M' b->M b):af (hd H M) (hd H' M'):=λb _ h=>ag.mpr ⟨λz=>(ag.mp h).1 (m b z),e b _ (ag.mp h).2⟩
theorem aD {H:Hp} {M:Addr->Prop}:af (hd H M) H:=λ_ _ h=>(ag.mp h).2
inductive Nd where
 | d (x:D) | l (xs:List Nd) | t (xs:List Nd)
structure Ex where
 p:PySem.W.Frag->Hp->HO->Addr->Prop
 mono:∀ {K:PySem.W.Frag} {G G':Hp} {o:HO} {a:Addr},af G G'->p K G o a->p K G' o a
 ext:∀ {K:PySem.W.Frag} {G:Hp} {o:HO} {a:Addr},p K G o a->(∃ φ,o=.ext φ)\/(∃ ob φ,o=.frz ob (.ext φ))\/∃ kvs,o=.dK kvs\/∃ ob,o=.frz ob (.dK kvs)
inductive Sl where
 | un | d (x:D) | o (xs:List D) | n (t:Nd) | x (E:Ex)
mutual
inductive aU (K:PySem.W.Frag) (G H:Hp):V->List Addr->Nd->Prop where
 | d {u:V} {x:D} (h:Den K G u x):aU K G H u [] (.d x)
 | l {a:Addr} {vs:List V} {bs:List Addr} {xs:List Nd} (h:H a=some (.lst vs)) (r:aB K G H vs bs xs):aU K G H (.ref a) (a :: bs) (.l xs)
 | t {a:Addr} {vs:List V} {bs:List Addr} {xs:List Nd} (h:H a=some (.tup vs)) (r:aB K G H vs bs xs):aU K G H (.ref a) (a :: bs) (.t xs)
inductive aB (K:PySem.W.Frag) (G H:Hp):List V->List Addr->List Nd->Prop where
 | nil:aB K G H [] [] []
 | cons {v:V} {vs:List V} {b1 b2:List Addr} {s:Nd} {ss:List Nd} (h:aU K G H v b1 s) (r:aB K G H vs b2 ss):aB K G H (v :: vs) (b1++b2) (s :: ss)
end
noncomputable def aY (K:PySem.W.Frag) (G H:Hp) (v:Option V) (bs:List Addr):Sl->Prop
 | .un=>bs=[]
 | .d x=>bs=[]/\∃ u,v=some u/\Den K G u x
 | .o xs=>∃ a vs,bs=[a]/\v=some (.ref a)/\H a=some (.lst vs)/\aq K G vs xs
 | .n t=>bs.Nodup/\∃ u,v=some u/\aU K G H u bs t
 | .x E=>∃ a o,bs=[a]/\v=some (.ref a)/\H a=some o/\E.p K G o a
section
variable {K:PySem.W.Frag} {G G' H H':Hp}
mutual
theorem aU.frame (g:af G G'):∀ {u:V} {bs:List Addr} {t:Nd},(∀ b ∈ bs,H' b=H b)->aU K G H u bs t->aU K G' H' u bs t
 | _,_,_,_,.d h=>.d (h.mono g)
 | _,_,_,e,.l h r=>.l (by rw [e _ (List.mem_cons_self ..)]; exact h) (aB.frame g (λb hb=>e b (List.mem_cons_of_mem _ hb)) r)
 | _,_,_,e,.t h r=>.t (by rw [e _ (List.mem_cons_self ..)]; exact h) (aB.frame g (λb hb=>e b (List.mem_cons_of_mem _ hb)) r)
theorem aB.frame (g:af G G'):∀ {vs:List V} {bs:List Addr} {xs:List Nd},(∀ b ∈ bs,H' b=H b)->aB K G H vs bs xs->aB K G' H' vs bs xs
 | _,_,_,_,.nil=>.nil
 | _,_,_,e,.cons h r=>.cons (aU.frame g (λb hb=>e b (List.mem_append_left _ hb)) h) (aB.frame g (λb hb=>e b (List.mem_append_right _ hb)) r)
end
mutual
theorem aU.some_of:∀ {u:V} {bs:List Addr} {t:Nd},aU K G H u bs t->∀ b ∈ bs,∃ o,H b=some o
 | _,_,_,.d _,_,z=>nomatch z
 | _,_,_,.l h r,b,z=>(List.mem_cons.mp z).elim (λe=>e ▸ ⟨_,h⟩) λz=>aB.some_of r b z
 | _,_,_,.t h r,b,z=>(List.mem_cons.mp z).elim (λe=>e ▸ ⟨_,h⟩) λz=>aB.some_of r b z
theorem aB.some_of:∀ {vs:List V} {bs:List Addr} {xs:List Nd},aB K G H vs bs xs->∀ b ∈ bs,∃ o,H b=some o
 | _,_,_,.nil,_,z=>nomatch z
 | _,_,_,.cons h r,b,z=>(List.mem_append.mp z).elim (λz=>aU.some_of h b z) λz=>aB.some_of r b z
end
theorem aU.mono (g:af G G') (e:af H H') {u:V} {bs:List Addr} {t:Nd} (h:aU K G H u bs t):aU K G' H' u bs t:=h.frame g λb hb=>by
 obtain ⟨o,q⟩:=h.some_of b hb
 rw [q,e b o q]
theorem aY.mono (g:af G G') (e:af H H') {v:Option V} {bs:List Addr}:∀ {s:Sl},aY K G H v bs s->aY K G' H' v bs s
 | .un,h=>h
 | .d _,⟨h,u,e1,h2⟩=>⟨h,u,e1,h2.mono g⟩
 | .o _,⟨a,vs,h1,h2,h3,h4⟩=>⟨a,vs,h1,h2,e _ _ h3,h4.mono g⟩
 | .n _,⟨h0,u,h1,h2⟩=>⟨h0,u,h1,h2.mono g e⟩
 | .x E,⟨a,o,h1,h2,h3,h4⟩=>⟨a,o,h1,h2,e _ _ h3,E.mono g h4⟩
end
noncomputable def own (A:Addr->Prop) (B:Nat->List Addr) (b:Addr):Prop:=A b\/∃ i,b ∈ B i
noncomputable def vw (C:Bool) (A:Addr->Prop) (B:Nat->List Addr):Addr->Prop:=match C with
 | true=>own A B
 | false=>A
structure Sta (K:PySem.W.Frag) (A:Addr->Prop) (H₀:Hp) (τ:List Sl) (B:Nat->List Addr) (σ:L2.St) (H:Hp):Prop where
 same:af H₀ H
 len:σ.length=τ.length
 sl:∀ i s,τ[i]?=some s->aY K (hd H (own A B)) H (σ[i]?).join (B i) s
 fr:∀ i b,b ∈ B i->H₀ b=none
 uq:∀ i j b,b ∈ B i->b ∈ B j->i=j
 ad:∀ b,A b->∃ o,H₀ b=some o
 bd:∀ i b,b ∈ B i->∃ o,H b=some o
noncomputable def upB (B:Nat->List Addr) (i:Nat) (bs:List Addr):Nat->List Addr:=λj=>if j=i then bs else B j
section
variable {K:PySem.W.Frag} {A:Addr->Prop} {H₀ H H':Hp} {τ:List Sl} {B:Nat->List Addr} {σ:L2.St}
theorem Sta.dm (S:Sta K A H₀ τ B σ H) (b:Addr) (h:own A B b):∃ o,H b=some o:=h.elim (λz=>let ⟨o,q⟩:=S.ad b z; ⟨o,S.same _ _ q⟩) λ⟨i,z⟩=>S.bd i b z
theorem Sta.mono (S:Sta K A H₀ τ B σ H) (e:af H H'):Sta K A H₀ τ B σ H' where
 same:=S.same.trans e
 len:=S.len
 sl:=λi s h=>(S.sl i s h).mono (ao e λ_ z=>z) e
 fr:=S.fr
 uq:=S.uq
 ad:=S.ad
 bd:=λi b h=>let ⟨o,q⟩:=S.bd i b h; ⟨o,e _ _ q⟩
theorem aJ {i j:Nat} {bs:List Addr} {b:Addr} (h:b ∈ upB B i bs j):(j=i/\b ∈ bs)\/(j ≠ i/\b ∈ B j):=by
 unfold upB at h
 by_cases e:j=i
 · rw [if_pos e] at h; exact .inl ⟨e,h⟩
 · rw [if_neg e] at h; exact .inr ⟨e,h⟩
theorem Sta.set (S:Sta K A H₀ τ B σ H) (e:af H H') {i:Nat} {v:V} {s:Sl} {bs:List Addr} (hf:∀ b ∈ bs,H b=none/\∃ o,H' b=some o) (h:aY K (hd H' λb=>own A B b\/b ∈ bs) H' (some v) bs s) :
   Sta K A H₀ (τ.set i s) (upB B i bs) (σ.set i (some v)) H':=by
 have sub:∀ b,own A (upB B i bs) b->own A B b\/b ∈ bs:=λb z=>z.elim (λz=>.inl (.inl z)) λ⟨j,z⟩=>(aJ z).elim (λz=>.inr z.2) λz=>.inl (.inr ⟨j,z.2⟩)
 have some_of:∀ b j,b ∈ B j->∃ o,H b=some o:=λb j z=>S.dm b (.inr ⟨j,z⟩)
 refine ⟨S.same.trans e,by rw [List.length_set,List.length_set,S.len],λj t hj=>?_,λj b hb=>?_,λj k b h1 h2=>?_,S.ad,λj b hb=>?_⟩
 · by_cases ej:j=i
   · subst ej
     have hl:j < τ.length:=by
       have:=(List.getElem?_eq_some_iff.mp hj).1
       rwa [List.length_set] at this
     rw [List.getElem?_set_self hl] at hj
     cases hj
     rw [List.getElem?_set_self (by rw [S.len]; exact hl)]
     unfold upB
     rw [if_pos rfl]
     exact h.mono (ao (af.refl _) sub) (af.refl _)
   · rw [List.getElem?_set_ne (λz=>ej z.symm)] at hj
     rw [List.getElem?_set_ne (λz=>ej z.symm)]
     unfold upB
     rw [if_neg ej]
     have q:=S.sl j t hj
     refine q.mono (λb o z=>?_) e
     obtain ⟨z1,z2⟩:=ag.mp z
     refine ag.mpr ⟨λy=>?_,e _ _ z2⟩
     rcases sub b y with y | y
     · exact z1 y
     · rw [(hf b y).1] at z2; cases z2
 · rcases aJ hb with ⟨_,z⟩ | ⟨_,z⟩
   · exact S.same.free (hf b z).1
   · exact S.fr j b z
 · rcases aJ h1 with ⟨e1,z1⟩ | ⟨e1,z1⟩ <;> rcases aJ h2 with ⟨e2,z2⟩ | ⟨e2,z2⟩
   · exact e1.trans e2.symm
   · obtain ⟨o,q⟩:=some_of b k z2; rw [(hf b z1).1] at q; cases q
   · obtain ⟨o,q⟩:=some_of b j z1; rw [(hf b z2).1] at q; cases q
   · exact S.uq j k b z1 z2
 · rcases aJ hb with ⟨_,z⟩ | ⟨_,z⟩
   · exact (hf b z).2
   · obtain ⟨o,q⟩:=S.bd j b z; exact ⟨o,e _ _ q⟩
theorem Sta.less (S:Sta K A H₀ τ B σ H) {i:Nat} {s:Sl} {bs:List Addr} (hb:∀ b ∈ bs,b ∈ B i) (h:∀ G:Hp,af (hd H (own A B)) G->(∀ b o,b ∈ B i->b ∉ bs->H b=some o->G b=some o)->aY K G H (σ[i]?).join bs s):Sta K A H₀ (τ.set i s) (upB B i bs) σ H:=by
 have sub:∀ b,own A (upB B i bs) b->own A B b:=λb z=>z.elim .inl λ⟨j,z⟩=>(aJ z).elim (λz=>.inr ⟨i,hb b z.2⟩) λz=>.inr ⟨j,z.2⟩
 refine ⟨S.same,by rw [List.length_set,S.len],λj t hj=>?_,λj b h=>?_,λj k b h1 h2=>?_,S.ad,λj b h=>(aJ h).elim (λz=>S.bd i b (hb b z.2)) λz=>S.bd j b z.2⟩
 · by_cases ej:j=i
   · subst ej
     have hl:j < τ.length:=by
       have:=(List.getElem?_eq_some_iff.mp hj).1
       rwa [List.length_set] at this
     rw [List.getElem?_set_self hl] at hj
     cases hj
     unfold upB
     rw [if_pos rfl]
     refine h _ (ao (af.refl _) sub) λb o z1 z2 z3=>ag.mpr ⟨λy=>?_,z3⟩
     rcases y with y | ⟨m,y⟩
     · obtain ⟨_,q⟩:=S.ad b y
       rw [S.fr j b z1] at q; cases q
     · rcases aJ y with ⟨e,y⟩ | ⟨e,y⟩
       · exact z2 y
       · exact e (S.uq m j b y z1)
   · rw [List.getElem?_set_ne (λz=>ej z.symm)] at hj
     unfold upB
     rw [if_neg ej]
     exact (S.sl j t hj).mono (ao (af.refl _) sub) (af.refl _)
 · rcases aJ h with ⟨e,z⟩ | ⟨_,z⟩
   · exact S.fr i b (hb b z)
   · exact S.fr j b z
 · rcases aJ h1 with ⟨e1,z1⟩ | ⟨e1,z1⟩ <;> rcases aJ h2 with ⟨e2,z2⟩ | ⟨e2,z2⟩
   · exact e1.trans e2.symm
   · exact absurd (S.uq k i b z2 (hb b z1)) e2
   · exact absurd (S.uq j i b z1 (hb b z2)) e1
   · exact S.uq j k b z1 z2
end
end Hy
namespace Hy
open PySem PySem.Spec PyProof.Rows L2
open Ev (D Den aq aK a5 ah aC ay)
noncomputable def Fr (H H':Hp) (bs:List Addr):Prop:=∀ b ∈ bs,H b=none/\∃ o,H' b=some o
noncomputable def dE (K:PySem.W.Frag) (C:Bool) (τ:List Sl) (s:Sl):TE:=λσ H Q=>∃ A H₀ B,Sta K A H₀ τ B σ H /\
 ∀ v H' bs,af H H'->Fr H H' bs->aY K (hd H' λb=>vw C A B b\/b ∈ bs) H' (some v) bs s->Q v H'
noncomputable def dA (K:PySem.W.Frag) (C:Bool) (τ:List Sl) (ds:List D):TA:=λσ H Q=>∃ A H₀ B,Sta K A H₀ τ B σ H /\
 ∀ vs H',af H H'->aq K (hd H' (vw C A B)) vs ds->Q vs H'
noncomputable def dT (K:PySem.W.Frag) (τ:List Sl) (c:Bool):TT:=λσ H Q=>∃ A H₀ B,Sta K A H₀ τ B σ H/\∀ H',af H H'->Q c H'
structure Po where
 nx:List Sl->Prop
 rt:Sl->Prop
 bk:List Sl->Prop:=λ_=>False
 ct:List Sl->Prop:=λ_=>False
 xc:Hp->Prop:=λ_=>True
structure Meets (K:PySem.W.Frag) (A:Addr->Prop) (H₀:Hp) (N:Po) (D:Ends):Prop where
 nx:∀ τ B σ H,N.nx τ->Sta K A H₀ τ B σ H->D.nx σ H
 bk:∀ τ B σ H,N.bk τ->Sta K A H₀ τ B σ H->D.bk σ H
 ct:∀ τ B σ H,N.ct τ->Sta K A H₀ τ B σ H->D.ct σ H
 rt:∀ v H bs s,N.rt s->af H₀ H->Fr H₀ H bs->aY K (hd H λb=>A b\/b ∈ bs) H (some v) bs s->D.rt v H
 xc:∀ H,af H₀ H->N.xc H
noncomputable def dS (K:PySem.W.Frag) (τ:List Sl) (N:Po):TS:=λD σ H=>∃ A H₀ B,Sta K A H₀ τ B σ H/\Meets K A H₀ N D
theorem peW {X:Cx} {e:Expr} {t t':TE} (h:PE X e t) (f:∀ σ H Q,t' σ H Q->t σ H Q):PE X e t':=λpins s σ H Q I q=>h pins s σ H Q I (f σ H Q q)
theorem ptW {X:Cx} {e:Expr} {t t':TT} (h:PT X e t) (f:∀ σ H Q,t' σ H Q->t σ H Q):PT X e t':=λpins s σ H Q I q=>h pins s σ H Q I (f σ H Q q)
theorem pwW {X:Cx} {e:Expr} {t t':TT} (h:PW X e t) (f:∀ σ H Q,t' σ H Q->t σ H Q):PW X e t':=λwh pins s σ H Q I q=>h wh pins s σ H Q I (f σ H Q q)
theorem paW {X:Cx} {e:List Expr} {t t':TA} (h:PA X e t) (f:∀ σ H Q,t' σ H Q->t σ H Q):PA X e t':=λp pins s σ H Q I q=>h p pins s σ H Q I (f σ H Q q)
theorem psW {X:Cx} {e:Stmt} {t t':TS} (h:PS X e t) (f:∀ D σ H,t' D σ H->t D σ H):PS X e t':=λpins s σ H D I q=>h pins s σ H D I (f D σ H q)
theorem jk {X:Cx} {e:List Stmt} {t t':TS} (h:PSs X e t) (f:∀ D σ H,t' D σ H->t D σ H):PSs X e t':=λpins s σ H D I q=>h pins s σ H D I (f D σ H q)
section
variable {K:PySem.W.Frag} {C:Bool} {τ:List Sl} {A:Addr->Prop} {H₀ H H':Hp} {B:Nat->List Addr} {σ:L2.St} {x y z:D} {Q:VK}
theorem iX {b:Addr} (h:vw C A B b):own A B b:=by
 cases C with
 | true=>exact h
 | false=>exact .inl h
theorem Sta.vd (S:Sta K A H₀ τ B σ H) (b:Addr) (h:vw C A B b):∃ o,H b=some o:=S.dm b (iX h)
theorem aQ (S:Sta K A H₀ τ B σ H) (k:∀ v H',af H H'->Den K (hd H' (vw C A B)) v x->Q v H'):dE K C τ (.d x) σ H Q:=
 ⟨A,H₀,B,S,λv H' bs e _ ⟨hb,u,eu,h⟩=>by
   cases eu
   exact k v H' e (h.mono (ao (af.refl _) λ_ z=>.inl z))⟩
theorem cV (h:dE K C τ (.d x) σ H Q):∃ A H₀ B,Sta K A H₀ τ B σ H/\∀ v H',af H H'->Den K (hd H' (vw C A B)) v x->Q v H':=by
 obtain ⟨A,H₀,B,S,k⟩:=h
 exact ⟨A,H₀,B,S,λv H' e d=>k v H' [] e (λ_ z=>nomatch z) ⟨rfl,v,rfl,d.mono (ao (af.refl _) λ_ z=>z.elim id λz=>nomatch z)⟩⟩
theorem bQ {ds:List D} {Q:List V->Hp->Prop} (S:Sta K A H₀ τ B σ H) (k:∀ vs H',af H H'->aq K (hd H' (vw C A B)) vs ds->Q vs H'):dA K C τ ds σ H Q:=⟨A,H₀,B,S,k⟩
theorem ij {M:Addr->Prop} {p:Addr} {o:HO} (hM:∀ b,M b->∃ o,H b=some o) (hp:H p=none):hd (upd H p o) M p=some o:=
 ag.mpr ⟨λz=>(by obtain ⟨o,q⟩:=hM p z; rw [hp] at q; cases q),az⟩
mutual
noncomputable def ndD:Nd->D
 | .d x=>x
 | .l xs=>.lst (eO xs)
 | .t xs=>.tup (eO xs)
noncomputable def eO:List Nd->List D
 | []=>[]
 | x :: xs=>ndD x :: eO xs
end
noncomputable def fzD:Sl->Option D
 | .un=>none
 | .d x=>some x
 | .o xs=>some (.lst xs)
 | .n t=>some (ndD t)
 | .x _=>none
mutual
theorem aU.den {G G':Hp} (g:af G G'):∀ {u:V} {bs:List Addr} {t:Nd},(∀ b ∈ bs,∀ o,H b=some o->G' b=some o)->aU K G H u bs t->Den K G' u (ndD t)
 | _,_,_,_,.d h=>h.mono g
 | _,_,_,e,.l h r=>.lst (SqL.of (e _ (List.mem_cons_self ..) _ h)) (aB.den g (λb hb=>e b (List.mem_cons_of_mem _ hb)) r)
 | _,_,_,e,.t h r=>.tup (SqT.of (e _ (List.mem_cons_self ..) _ h)) (aB.den g (λb hb=>e b (List.mem_cons_of_mem _ hb)) r)
theorem aB.den {G G':Hp} (g:af G G'):∀ {vs:List V} {bs:List Addr} {xs:List Nd},(∀ b ∈ bs,∀ o,H b=some o->G' b=some o)->aB K G H vs bs xs->aq K G' vs (eO xs)
 | _,_,_,_,.nil=>.nil
 | _,_,_,e,.cons h r=>.cons (aU.den g (λb hb=>e b (List.mem_append_left _ hb)) h) (aB.den g (λb hb=>e b (List.mem_append_right _ hb)) r)
end
theorem aY.den {G G':Hp} {v:Option V} {bs:List Addr} {s:Sl} (h:aY K G H v bs s) (g:af G G') (hv:∀ b ∈ bs,∀ o,H b=some o->G' b=some o) (e:fzD s=some x):∃ u,v=some u/\Den K G' u x:=by
 cases s with
 | un=>cases e
 | d y=>cases e; obtain ⟨_,u,e,q⟩:=h; exact ⟨u,e,q.mono g⟩
 | o xs=>
   cases e
   obtain ⟨a,vs,rfl,h2,h3,h4⟩:=h
   exact ⟨_,h2,.lst (SqL.of (hv a (List.mem_cons_self ..) _ h3)) (h4.mono g)⟩
 | n t=>
   cases e
   obtain ⟨_,u,e,q⟩:=h
   exact ⟨u,e,q.den g hv⟩
 | x E=>cases e
theorem slot_of {i:Nat} {u:V} (h:(σ[i]?).join=some u):σ[i]?=some (some u):=by
 cases e:σ[i]? with
 | none=>rw [e] at h; cases h
 | some o=>rw [e] at h; exact congrArg some h
end
section
variable {X:Cx} {C:Bool} {τ:List Sl} {x y z:D} {a b e:Expr} {es:List Expr} {pos:Pos}
theorem aa (i:Nat) {n:Str} {x:D} (h:τ[i]?=some (.d x):=by rfl) (hN:X.N[i]?=some n:=by rfl) (hv:Vis X.env.scope n:=by first | exact Or.inl rfl | exact Or.inr (Or.inl rfl) | exact Or.inr (Or.inr rfl))
   (hd:(n == ("__debug__" : Str))=false:=by decide) (hcd:(n == ("__classdict__" : Str))=false:=by decide):PE X (.Name n pos) (dE X.K C τ (.d x)):=peW (a9 hN hv hd hcd) λσ H Q q=>by
 obtain ⟨A,H₀,B,S,k⟩:=cV q
 obtain ⟨_,u,e,d⟩:=S.sl i _ h
 exact ⟨u,slot_of e,k u H (af.refl _) (d.mono (ao (af.refl _) λ_ z=>iX z))⟩
theorem nh (i:Nat) {n:Str} {s:Sl} {x:D} (h:τ[i]?=some s:=by rfl) (hx:fzD s=some x:=by rfl) (hN:X.N[i]?=some n:=by rfl) (hv:Vis X.env.scope n:=by first | exact Or.inl rfl | exact Or.inr (Or.inl rfl) | exact Or.inr (Or.inr rfl))
   (hd:(n == ("__debug__" : Str))=false:=by decide) (hcd:(n == ("__classdict__" : Str))=false:=by decide):PE X (.Name n pos) (dE X.K false τ (.d x)):=peW (a9 hN hv hd hcd) λσ H Q q=>by
 obtain ⟨A,H₀,B,S,k⟩:=cV q
 obtain ⟨u,e,d⟩:=(S.sl i _ h).den (G':=Hy.hd H A) (ao (af.refl _) λ_ z=>.inl z) (λb hb o ho=>ag.mpr ⟨λz=>(by obtain ⟨_,q⟩:=S.ad b z; rw [S.fr i b hb] at q; cases q),ho⟩) hx
 exact ⟨u,slot_of e,k u H (af.refl _) d⟩
theorem jC {v:V} (h:PE X e (tC v)) (d:∀ H,Den X.K H v x):PE X e (dE X.K C τ (.d x)):=peW h λσ H Q q=>by
 obtain ⟨A,H₀,B,S,k⟩:=cV q
 exact k v H (af.refl _) (d _)
theorem aj {i j}:PE X (.Constant (.int i) j pos) (dE X.K C τ (.d (.int i))):=jC aX λ_=>.int
theorem rJ {b j}:PE X (.Constant (.bool b) j pos) (dE X.K C τ (.d (.bl b))):=jC sL λ_=>.bl
theorem ba {s j}:PE X (.Constant (.str s) j pos) (dE X.K C τ (.d (.str s))):=jC mM λ_=>.str
theorem i5 {n:Str} {i:Int} (hm:∃ t,X.mg n=some (.int i t)) (hg:Gl X n:=by rfl) (hd:(n == ("__debug__" : Str))=false:=by decide):PE X (.Name n pos) (dE X.K C τ (.d (.int i))):=by
 obtain ⟨t,hm⟩:=hm
 exact jC (iZ (v:=.int i) hg hm ⟨t,rfl⟩ hd) λ_=>.int
theorem a6 {s:Sl} (h:PE X e (dE X.K C τ s)) (hx:fzD s=some x:=by rfl):PE X e (dE X.K C τ (.d x)):=peW h λσ H Q q=>by
 obtain ⟨A,H₀,B,S,k⟩:=cV q
 refine ⟨A,H₀,B,S,λv H' bs e hf q=>?_⟩
 have vd:=S.vd (C:=C)
 obtain ⟨u,e1,d⟩:=q.den (G':=Hy.hd H' (vw C A B)) (ao (af.refl _) λ_ z=>.inl z) (λb hb o ho=>ag.mpr ⟨λz=>(by obtain ⟨_,q⟩:=vd b z; rw [(hf b hb).1] at q; cases q),ho⟩) hx
 cases e1
 exact k v H' e d
noncomputable def flat:D->Bool
 | .tup _=>false
 | .lst _=>false
 | .box _=>false
 | _=>true
theorem fG {K:PySem.W.Frag} {G G':Hp} {v:V} (h:Den K G v x) (f:flat x=true):Den K G' v x:=by
 cases h with
 | non=>exact .non
 | bl=>exact .bl
 | int=>exact .int
 | str=>exact .str
 | tup _ _=>cases f
 | lst _ _=>cases f
 | box _=>cases f
noncomputable def bN (X:Cx) (f:Value->Value->Sem Value) (x y z:D):Prop:=∃ r:R2,OpR X f r /\
 ∀ (M:Addr->Prop) (v w:V) (H:Hp) (Q:VK),(∀ b,M b->∃ o,H b=some o)->Den X.K (hd H M) v x->Den X.K (hd H M) w y->(∀ u H',af H H'->Den X.K (hd H' M) u z->Q u H')->r v w H Q
theorem two {r:R2} (hr:∀ (M:Addr->Prop) (v w:V) (H:Hp) (Q:VK),(∀ b,M b->∃ o,H b=some o)->Den X.K (hd H M) v x->Den X.K (hd H M) w y->(∀ u H',af H H'->Den X.K (hd H' M) u z->Q u H')->r v w H Q) :
   ∀ σ H Q,dE X.K C τ (.d z) σ H Q->tOp r (dE X.K C τ (.d x)) (dE X.K C τ (.d y)) σ H Q:=by
 intro σ H Q h
 obtain ⟨A,H₀,B,S,k⟩:=cV h
 refine aQ S λv H1 e1 d1=>aQ (S.mono e1) λw H2 e2 d2=>hr (vw C A B) v w H2 Q ((S.mono e1).mono e2).vd (d1.mono (ao e2 λ_ z=>z)) d2 λu H' e3 d3=>k u H' (e1.trans (e2.trans e3)) d3
theorem aH {op:Operator} (ha:PE X a (dE X.K C τ (.d x))) (hb:PE X b (dE X.K C τ (.d y))) (ho:bN X (binaryOp op) x y z):PE X (.BinOp a op b pos) (dE X.K C τ (.d z)):=by
 obtain ⟨r,h1,h2⟩:=ho
 exact peW (dg h1 ha hb) (two h2)
theorem kQ {op:CmpOp} (ha:PE X a (dE X.K C τ (.d x))) (hb:PE X b (dE X.K C τ (.d y))) (ho:bN X (compareOp op) x y z) (hm:behindInMarks op b=false:=by first | exact jL _ | rfl):PE X (.Compare a [op] [b] pos) (dE X.K C τ (.d z)):=by
 obtain ⟨r,h1,h2⟩:=ho
 exact peW (kZ h1 ha hb hm) (two h2)
theorem og {t:TE} {c:Bool} (h:∀ σ H Q,dE X.K false τ (.d (.bl c)) σ H Q->t σ H Q):∀ σ H Q,dT X.K τ c σ H Q->t σ H λx H'=>∃ k,x=.bl k/\Q k H':=λσ H Q ⟨A,H₀,B,S,k⟩=>
 h σ H _ (aQ S λv H' e d=>by cases d; exact ⟨c,rfl,k H' e⟩)
theorem bo {op:CmpOp} {c:Bool} (ha:PE X a (dE X.K false τ (.d x))) (hb:PE X b (dE X.K false τ (.d y))) (ho:bN X (compareOp op) x y (.bl c)) (hm:behindInMarks op b=false:=by first | exact jL _ | rfl):PT X (.Compare a [op] [b] pos) (dT X.K τ c):=by
 obtain ⟨r,h1,h2⟩:=ho
 exact ptW (ou h1 ha hb hm) (og (two h2))
theorem cQ {c:Bool} (h:PE X e (dE X.K false τ (.d (.bl c)))) (he:∀ whole,isTrue e X.env whole=(do let v <- whole; standAt e.pos; holding [v] (truthy v)):=by intro _; rfl):PT X e (dT X.K τ c):=
 ptW (nq h he) (og λ_ _ _ q=>q)
theorem jo {g:Int->Int->V} {P:Int->Int->Prop} {i j:Int} (hc:P i j) (hz:∀ K H,Den K H (g i j) z):∀ (M:Addr->Prop) (v w:V) (H:Hp) (Q:VK),(∀ b,M b->∃ o,H b=some o)->Den X.K (hd H M) v (.int i)->Den X.K (hd H M) w (.int j) ->
   (∀ u H',af H H'->Den X.K (hd H' M) u z->Q u H')->rI P g v w H Q:=λ_ v w H Q _ d1 d2 k=>by
 cases d1
 cases d2
 exact ⟨i,j,rfl,rfl,hc,k _ H (af.refl _) (hz _ _)⟩
theorem gf {g:Int->Int->V} {i j:Int} (hz:∀ K H,Den K H (g i j) z):∀ (M:Addr->Prop) (v w:V) (H:Hp) (Q:VK),(∀ b,M b->∃ o,H b=some o)->Den X.K (hd H M) v (.int i)->Den X.K (hd H M) w (.int j) ->
   (∀ u H',af H H'->Den X.K (hd H' M) u z->Q u H')->rI0 g v w H Q:=λ_ v w H Q _ d1 d2 k=>by
 cases d1
 cases d2
 exact ⟨i,j,rfl,rfl,k _ H (af.refl _) (hz _ _)⟩
variable {i j:Int}
theorem aR:bN X (binaryOp .Add) (.int i) (.int j) (.int (i + j)):=⟨_,iH,gf λ_ _=>.int⟩
theorem qB:bN X (binaryOp .Sub) (.int i) (.int j) (.int (i - j)):=⟨_,rW,gf λ_ _=>.int⟩
theorem uO:bN X (binaryOp .BitOr) (.int i) (.int j) (.int (Builtin.bitOr i j)):=⟨_,t8,gf λ_ _=>.int⟩
theorem aK.ok' {i j:Int} (h:aK i j):IntMulOk i j:=by
 have b:∀ {k:Int} {n:Nat},k.natAbs.log2 < n->Builtin.Int.intBits k<=n:=λ{k n} q=>by
   unfold Builtin.Int.intBits
   split
   · exact Nat.zero_le _
   · exact q
 rcases h with h | h | ⟨h1,h2⟩
 · exact .of_left (b h)
 · exact .of_right (b h)
 · exact .of_bits (Nat.le_trans (b h1) (by decide)) (Nat.le_trans (b h2) (by decide))
theorem b8 (h:aK i j):bN X (binaryOp .Mult) (.int i) (.int j) (.int (i * j)):=⟨rI aK λi j=>.int (i * j),opI λ_ _ _ _ _ _ _ hc q=>mul_int q (aK.ok' hc),jo h λ_ _=>.int⟩
theorem mV (h:a5 j):bN X (binaryOp .FloorDiv) (.int i) (.int j) (.int (i.fdiv j)):=⟨rI (λ_ j=>a5 j) λi j=>.int (i.fdiv j),opI λ_ _ _ _ _ _ _ hc q=>floordiv_int hc.1 q (.inl (PyProof.noPylong_of_log2 hc.2)),jo h λ_ _=>.int⟩
theorem dZ (h:j ≠ 0):bN X (binaryOp .Mod) (.int i) (.int j) (.int (i.fmod j)):=⟨_,kL,jo h λ_ _=>.int⟩
theorem sQ (h:pK i j):bN X (binaryOp .Pow) (.int i) (.int j) (.int (i ^ j.toNat)):=⟨_,qS,jo h λ_ _=>.int⟩
theorem tZ (h:pK i j):bN X (binaryOp .LShift) (.int i) (.int j) (.int (i * 2 ^ j.toNat)):=⟨_,rV,jo h λ_ _=>.int⟩
theorem qR:bN X (compareOp .Lt) (.int i) (.int j) (.bl (decide (i < j))):=⟨_,sG,gf λ_ _=>.bl⟩
theorem oF:bN X (compareOp .LtE) (.int i) (.int j) (.bl (decide (i<=j))):=⟨_,sj,gf λ_ _=>.bl⟩
theorem k9:bN X (compareOp .Gt) (.int i) (.int j) (.bl (decide (j < i))):=⟨_,sA,gf λ_ _=>.bl⟩
theorem uM:bN X (compareOp .GtE) (.int i) (.int j) (.bl (decide (j<=i))):=⟨_,t9,gf λ_ _=>.bl⟩
theorem p7:bN X (compareOp .Eq) (.int i) (.int j) (.bl (decide (i=j))):=⟨_,qk,λ_ v w H Q _ d1 d2 k=>by
 cases d1
 cases d2
 exact ⟨rfl,by rw [show decide (V.int i=V.int j)=decide (i=j) by simp]; exact k _ H (af.refl _) .bl⟩⟩
theorem oD:bN X (compareOp .NotEq) (.int i) (.int j) (.bl (!decide (i=j))):=⟨_,tq,λ_ v w H Q _ d1 d2 k=>by
 cases d1
 cases d2
 exact ⟨rfl,by rw [show decide (V.int i=V.int j)=decide (i=j) by simp]; exact k _ H (af.refl _) .bl⟩⟩
theorem ti (h:PE X a (dE X.K C τ (.d (.int i)))):PE X (.UnaryOp .USub a pos) (dE X.K C τ (.d (.int (-i)))):=peW (sU rA h) λσ H Q q=>by
 obtain ⟨A,H₀,B,S,k⟩:=cV q
 refine aQ S λv H1 e1 d1=>?_
 cases d1
 exact ⟨i,rfl,k _ H1 e1 .int⟩
theorem kN {e:Expr}:PE X e λ_ _ _=>False:=λ_ _ _ _ _ _ h=>h.elim
theorem pw_no {e:Expr}:PW X e λ_ _ _=>False:=λ_ _ _ _ _ _ _ h=>h.elim
variable {p q:Bool} {c:Expr} {rest:List Expr}
theorem fK {op} {s:Sl} (h:PE X a (dE X.K C τ s)):PE X (.BoolOp op [a] pos) (dE X.K C τ s):=rH h
theorem gM (ha:PE X a (dE X.K C τ (.d (.bl p)))) (hb:p=true->PE X (.BoolOp .And (b :: rest) pos) (dE X.K C τ (.d (.bl q)))):PE X (.BoolOp .And (a :: b :: rest) pos) (dE X.K C τ (.d (.bl (p && q)))):=by
 cases p with
 | false=>
   refine peW (nP ha kN) λσ H Q z=>?_
   obtain ⟨A,H₀,B,S,k⟩:=cV z
   exact aQ S λv H' e d=>by cases d; exact ⟨_,rfl,k _ H' e .bl⟩
 | true=>
   refine peW (nP ha (hb rfl)) λσ H Q z=>?_
   obtain ⟨A,H₀,B,S,k⟩:=cV z
   exact aQ S λv H' e d=>by cases d; exact ⟨_,rfl,aQ (S.mono e) λv H2 e2 d2=>k v H2 (e.trans e2) d2⟩
theorem uu (ha:PE X a (dE X.K C τ (.d (.bl p)))) (hb:p=false->PE X (.BoolOp .Or (b :: rest) pos) (dE X.K C τ (.d (.bl q)))):PE X (.BoolOp .Or (a :: b :: rest) pos) (dE X.K C τ (.d (.bl (p || q)))):=by
 cases p with
 | true=>
   refine peW (qw ha kN) λσ H Q z=>?_
   obtain ⟨A,H₀,B,S,k⟩:=cV z
   exact aQ S λv H' e d=>by cases d; exact ⟨_,rfl,k _ H' e .bl⟩
 | false=>
   refine peW (qw ha (hb rfl)) λσ H Q z=>?_
   obtain ⟨A,H₀,B,S,k⟩:=cV z
   exact aQ S λv H' e d=>by cases d; exact ⟨_,rfl,aQ (S.mono e) λv H2 e2 d2=>k v H2 (e.trans e2) d2⟩
theorem qh (ha:PE X a (dE X.K C τ (.d (.bl p)))):PE X (.UnaryOp .Not a pos) (dE X.K C τ (.d (.bl (!p)))):=peW (ri ha) λσ H Q z=>by
 obtain ⟨A,H₀,B,S,k⟩:=cV z
 exact aQ S λv H' e d=>by cases d; exact ⟨_,rfl,k _ H' e .bl⟩
theorem nH (ha:PT X a (dT X.K τ p)):PW X (.BoolOp .And [a] pos) (dT X.K τ p):=pw_and1 ha
theorem gX (ha:PT X a (dT X.K τ p)):PW X (.BoolOp .Or [a] pos) (dT X.K τ p):=pw_or1 ha
theorem nF (ha:PT X a (dT X.K τ p)) (hb:p=true->PW X (.BoolOp .And (b :: rest) pos) (dT X.K τ q)):PW X (.BoolOp .And (a :: b :: rest) pos) (dT X.K τ (p && q)):=by
 cases p with
 | false=>exact pwW (pw_and ha pw_no) λσ H Q ⟨A,H₀,B,S,k⟩=>⟨A,H₀,B,S,λH' e=>gy (k H' e)⟩
 | true=>exact pwW (pw_and ha (hb rfl)) λσ H Q ⟨A,H₀,B,S,k⟩=>⟨A,H₀,B,S,λH' e=>gA (⟨A,H₀,B,S.mono e,λH2 e2=>k H2 (e.trans e2)⟩)⟩
theorem lF (ha:PT X a (dT X.K τ p)) (hb:p=false->PW X (.BoolOp .Or (b :: rest) pos) (dT X.K τ q)):PW X (.BoolOp .Or (a :: b :: rest) pos) (dT X.K τ (p || q)):=by
 cases p with
 | true=>exact pwW (pw_or ha pw_no) λσ H Q ⟨A,H₀,B,S,k⟩=>⟨A,H₀,B,S,λH' e=>gA (k H' e)⟩
 | false=>exact pwW (pw_or ha (hb rfl)) λσ H Q ⟨A,H₀,B,S,k⟩=>⟨A,H₀,B,S,λH' e=>gy (⟨A,H₀,B,S.mono e,λH2 e2=>k H2 (e.trans e2)⟩)⟩
theorem df (ha:PT X a (dT X.K τ p)):PT X (.UnaryOp .Not a pos) (dT X.K τ (!p)):=ptW (qH ha) λσ H Q ⟨A,H₀,B,S,k⟩=>⟨A,H₀,B,S,λH' e=>k H' e⟩
theorem tm {s:Sl} (hc:PT X c (dT X.K τ p)) (ha:p=true->PE X a (dE X.K C τ s)) (hb:p=false->PE X b (dE X.K C τ s)):PE X (.IfExp c a b pos) (dE X.K C τ s):=by
 have fin:∀ {σ H H' Q} {A:Addr->Prop} {H₀ B},Sta X.K A H₀ τ B σ H->(∀ v H' bs,af H H'->Fr H H' bs->aY X.K (hd H' λb=>vw C A B b\/b ∈ bs) H' (some v) bs s->Q v H')->af H H'->dE X.K C τ s σ H' Q:=λS k e=>
   ⟨_,_,_,S.mono e,λv H2 bs e2 hf h=>k v H2 bs (e.trans e2) (λb hb=>⟨e.free (hf b hb).1,(hf b hb).2⟩) h⟩
 cases p with
 | true=>exact peW (jm hc (ha rfl) kN) λσ H Q ⟨A,H₀,B,S,k⟩=>⟨A,H₀,B,S,λH' e=>gA (fin S k e)⟩
 | false=>exact peW (jm hc kN (hb rfl)) λσ H Q ⟨A,H₀,B,S,k⟩=>⟨A,H₀,B,S,λH' e=>gy (fin S k e)⟩
theorem kJ {op op':CmpOp} (ha:PE X a (dE X.K C τ (.d x))) (hb:PE X b (dE X.K C τ (.d y))) (hc:PE X c (dE X.K C τ (.d z))) (h1:bN X (compareOp op) x y (.bl p)) (h2:bN X (compareOp op') y z (.bl q))
   (hm:lastMarks [op,op'] [b,c]=false:=by with_unfolding_all rfl):PE X (.Compare a [op,op'] [b,c] pos) (dE X.K C τ (.d (.bl (p && q))))/\(C=false->PT X (.Compare a [op,op'] [b,c] pos) (dT X.K τ (p && q))):=by
 obtain ⟨r,o1,k1⟩:=h1
 obtain ⟨r',o2,k2⟩:=h2
 have key:∀ σ H Q,dE X.K C τ (.d (.bl (p && q))) σ H Q->jH r r' (dE X.K C τ (.d x)) (dE X.K C τ (.d y)) (dE X.K C τ (.d z)) σ H Q:=λσ H Q h=>by
   obtain ⟨A,H₀,B,S,k⟩:=cV h
   refine aQ S λv H1 e1 d1=>aQ (S.mono e1) λw H2 e2 d2=>k1 (vw C A B) v w H2 _ ((S.mono e1).mono e2).vd (d1.mono (ao e2 λ_ z=>z)) d2 λu H3 e3 d3=>?_
   cases d3
   refine ⟨p,rfl,?_⟩
   cases p with
   | false=>exact gy (k _ H3 (e1.trans (e2.trans e3)) .bl)
   | true=>exact gA (aQ (((S.mono e1).mono e2).mono e3) λw' H4 e4 d4=>k2 (vw C A B) w w' H4 Q ((((S.mono e1).mono e2).mono e3).mono e4).vd (d2.mono (ao (e3.trans e4) λ_ z=>z)) d4 λu H5 e5 d5=>k u H5 (e1.trans (e2.trans (e3.trans (e4.trans e5)))) d5)
 exact ⟨peW (nO o1 o2 ha hb hc hm) key,λhC=>by subst hC; exact ptW (nY o1 o2 ha hb hc hm) (og key)⟩
theorem ar:PA X [] (dA X.K C τ []):=paW aV λσ H Q ⟨A,H₀,B,S,k⟩=>k [] H (af.refl _) .nil
theorem ae {ds:List D} (ha:PE X e (dE X.K C τ (.d x))) (hr:PA X es (dA X.K C τ ds)) (hs:starEach (e :: es) X.env=(false,eval e X.env) :: starEach es X.env:=by rfl):PA X (e :: es) (dA X.K C τ (x :: ds)):=paW (av ha hr hs) λσ H Q ⟨A,H₀,B,S,k⟩=>
 aQ S λv H1 e1 d1=>bQ (S.mono e1) λvs H2 e2 d2=>k _ H2 (e1.trans e2) (.cons (d1.mono (ao e2 λ_ z=>z)) d2)
theorem mE {ds:List D} {m} (h:PA X es (dA X.K C τ ds)) (hl:Nat.ble ds.length 1000=true:=by rfl):PE X (.Tuple es m pos) (dE X.K C τ (.d (.tup ds))):=peW (iE h) λσ H Q q=>by
 obtain ⟨A,H₀,B,S,k⟩:=cV q
 refine bQ S λvs H1 e1 d1=>⟨by rw [d1.length]; exact Nat.le_of_lt (gR (Nat.le_of_ble_eq_true hl)),λp hp=>k _ _ (e1.trans (ah hp _)) ?_⟩
 exact .tup (SqT.of (ij (S.mono e1).vd hp)) (d1.mono (ao (ah hp _) λ_ z=>z))
theorem aW {ds:List D} (h:PA X es (dA X.K C τ ds)) (hl:Nat.ble ds.length 1000=true:=by rfl):PE X (.List es pos) (dE X.K C τ (.o ds)):=peW (r6 h) λσ H Q ⟨A,H₀,B,S,k⟩=>
 bQ S λvs H1 e1 d1=>⟨by rw [d1.length]; exact Nat.le_of_lt (gR (Nat.le_of_ble_eq_true hl)),λp hp=>k _ _ [p] (e1.trans (ah hp _)) (λb hb=>by
   obtain rfl:=List.mem_singleton.mp hb
   exact ⟨e1.free hp,_,az⟩) ⟨p,vs,rfl,rfl,az,d1.mono λb o z=>by
     obtain ⟨z1,z2⟩:=ag.mp z
     refine ag.mpr ⟨λy=>?_,ah hp _ _ _ z2⟩
     rcases y with y | y
     · exact z1 y
     · rw [List.mem_singleton.mp y] at z2; rw [hp] at z2; cases z2⟩⟩
end
noncomputable def spD (K:PySem.W.Frag) (Φ:List D->Sl->Prop):Sp:=λvs H Q _=>∃ A ds s,(∀ b,A b->∃ o,H b=some o)/\aq K (hd H A) vs ds/\Φ ds s /\
 ∀ v H' bs,af H H'->Fr H H' bs->aY K (hd H' λb=>A b\/b ∈ bs) H' (some v) bs s->Q v H'
noncomputable def Cal (P:Program) (w:World) (K:PySem.W.Frag) (mg:Str->Option Value) (base:Heap) (k:Nat) (n:Str) (Φ:List D->Sl->Prop):Prop:=
 ∃ f fd ps,aP P w K mg base CX0 k f fd ps (spD K Φ)/\mg n=some (.ref f)/\PySem.W.keepIn K (.ref f)=true/\Binds K fd ps []
theorem Cal.mono {P:Program} {w:World} {K:PySem.W.Frag} {mg:Str->Option Value} {base:Heap} {j k:Nat} {n:Str} {Φ:List D->Sl->Prop} (c:Cal P w K mg base j n Φ) (h:j<=k):Cal P w K mg base k n Φ:=
 let ⟨f,fd,ps,F,r⟩:=c; ⟨f,fd,ps,F.mono h,r⟩
noncomputable def aA:List Str:=["len","abs","max","min","int","bool","list","tuple","str","isinstance","range","enumerate","all","zip","sorted","sum","any","reversed"]
structure Bk (X:Cx) (k:Nat):Prop where
 room:b9 k X.A
 calm:X.calm=true
 blt:∀ x ∈ aA,X.mg x=none
 po:PassesOwn (model X.prog X.w) X.A X.env X.xe
section
variable {X:Cx} {C:Bool} {τ:List Sl} {x y z:D} {a b e:Expr} {es:List Expr} {pos p:Pos} {k:Nat} {s:Sl} {ds:List D} {i j:Int}
theorem x_call {n:Str} {Φ:List D->Sl->Prop} (B:Bk X k) (c:Cal X.prog X.w X.K X.mg X.base k n Φ) (ha:PA X (e :: es) (dA X.K C τ ds)) (h:Φ ds s) (hg:Gl X n:=by rfl) (hdb:(n == ("__debug__" : Str))=false:=by decide)
   (he:starEach (e :: es) X.env=(false,eval e X.env) :: starEach es X.env:=by rfl) (hpl:(backTo pos (starEach es X.env)).any (·.1)=false:=by rfl):PE X (.Call (.Name n p) (e :: es) [] pos) (dE X.K C τ s):=by
 obtain ⟨f,fd,ps,F,hm,hk,hb⟩:=c
 refine peW (bx F B.room hg hm hk hb .nil eX ha hdb he hpl) λσ H Q ⟨A,H₀,B,S,q⟩=>bQ S λvs H1 e1 d1=>?_
 rw [List.append_nil]
 exact ⟨vw C A B,ds,s,(S.mono e1).vd,d1,h,λv H' bs e2 hf h2=>q v H' bs (e1.trans e2) (λb hb=>⟨e1.free (hf b hb).1,(hf b hb).2⟩) h2⟩
noncomputable def jw (X:Cx) (f:Value) (ds:List D) (s:Sl):Prop:=∃ r:List V->Hp->VK->Prop,cR X f r /\
 ∀ (M:Addr->Prop) (vs:List V) (H:Hp) (Q:VK),(∀ b,M b->∃ o,H b=some o)->aq X.K (hd H M) vs ds->(∀ u H' bs,af H H'->Fr H H' bs->aY X.K (hd H' λb=>M b\/b ∈ bs) H' (some u) bs s->Q u H')->r vs H Q
theorem jP {r:List V->Hp->VK->Prop} (hr:∀ (M:Addr->Prop) (vs:List V) (H:Hp) (Q:VK),(∀ b,M b->∃ o,H b=some o)->aq X.K (hd H M) vs ds->(∀ u H' bs,af H H'->Fr H H' bs->aY X.K (hd H' λb=>M b\/b ∈ bs) H' (some u) bs s->Q u H')->r vs H Q) :
   ∀ σ H Q,dE X.K C τ s σ H Q->tCB r (dA X.K C τ ds) σ H Q:=λσ H Q ⟨A,H₀,B,S,q⟩=>
 bQ S λvs H1 e1 d1=>hr (vw C A B) vs H1 Q (S.mono e1).vd d1 λv H' bs e2 hf h2=>q v H' bs (e1.trans e2) (λb hb=>⟨e1.free (hf b hb).1,(hf b hb).2⟩) h2
theorem eJ {n:Str} {id:String} (B:Bk X k) (ha:PA X (e :: es) (dA X.K C τ ds)) (c:jw X (.builtin id) ds s) (hn:n ∈ aA:=by decide) (hg:Gl X n:=by rfl) (hv:bootBuiltins n=some (.builtin id):=by decide +kernel) (h1:n ≠ "__name__":=by decide) (hdb:(n == ("__debug__" : Str))=false:=by decide)
   (he:starEach (e :: es) X.env=(false,eval e X.env) :: starEach es X.env:=by rfl) (hpl:(backTo pos (starEach es X.env)).any (·.1)=false:=by rfl):PE X (.Call (.Name n p) (e :: es) [] pos) (dE X.K C τ s):=by
 obtain ⟨r,h1,h2⟩:=c
 exact peW (cU h1 hg (B.blt _ hn) hv ha (by assumption) hdb he hpl) (jP h2)
theorem ux {n:Str} {T:String} (B:Bk X k) (ha:PA X (e :: es) (dA X.K C τ ds)) (c:jw X (.type T) ds s) (hn:n ∈ aA:=by decide) (hg:Gl X n:=by rfl) (hv:bootBuiltins n=some (.type T):=by decide +kernel) (h1:n ≠ "__name__":=by decide) (hdb:(n == ("__debug__" : Str))=false:=by decide)
   (he:starEach (e :: es) X.env=(false,eval e X.env) :: starEach es X.env:=by rfl) (hpl:(backTo pos (starEach es X.env)).any (·.1)=false:=by rfl):PE X (.Call (.Name n p) (e :: es) [] pos) (dE X.K C τ s):=by
 obtain ⟨r,h1,h2⟩:=c
 exact peW (lP h1 hg (B.blt _ hn) hv ha (by assumption) hdb he hpl) (jP h2)
theorem eN {K:PySem.W.Frag} {H:Hp} {M:Addr->Prop} {v:V} (h:Den K (hd H M) v x):aY K (hd H λb=>M b\/b ∈ ([]:List Addr)) H (some v) [] (.d x):=⟨rfl,v,rfl,h.mono (ao (af.refl _) λ_ z=>z.elim id λz=>nomatch z)⟩
theorem dz {H H':Hp}:Fr H H' []:=λ_ z=>nomatch z
theorem d0 {xs:List D}:jw X (.builtin "len") [.lst xs] (.d (.int xs.length)):=⟨_,iO,λM vs H Q _ d q=>by
 cases d with
 | cons d r=>
   cases r
   cases d with
   | lst h r=>
     refine ⟨_,_,rfl,.inl (ay aD h),?_⟩
     rw [r.length]
     exact q _ H [] (af.refl _) dz (eN .int)⟩
noncomputable def sT (i:Int):Int:=if i < 0 then -i else i
theorem tL:jw X (.builtin "abs") [.int i] (.d (.int (sT i))):=⟨_,mT,λM vs H Q _ d q=>by
 cases d with
 | cons d r=>
   cases r
   cases d
   exact ⟨_,rfl,q _ H [] (af.refl _) dz (eN .int)⟩⟩
theorem sC (hc:X.calm=true):jw X (.builtin "min") [.int i,.int j] (.d (.int (if j < i then j else i))):=⟨_,lG hc,λM vs H Q _ d q=>by
 cases d with
 | cons d r=>
   cases r with
   | cons d' r=>
     cases r
     cases d
     cases d'
     exact ⟨_,_,rfl,q _ H [] (af.refl _) dz (eN .int)⟩⟩
theorem jU {K:PySem.W.Frag} {H:Hp} {M:Addr->Prop} {p:Addr} {vs:List V} {xs:List D} (hp:H p=none) (d:aq K (hd H M) vs xs) :
   af H (upd H p (.lst vs))/\Fr H (upd H p (.lst vs)) [p]/\aY K (hd (upd H p (.lst vs)) λb=>M b\/b ∈ [p]) (upd H p (.lst vs)) (some (.ref p)) [p] (.o xs):=
 ⟨ah hp _,λb hb=>by
   obtain rfl:=List.mem_singleton.mp hb
   exact ⟨hp,_,az⟩,p,vs,rfl,rfl,az,d.mono λb o z=>by
     obtain ⟨z1,z2⟩:=ag.mp z
     refine ag.mpr ⟨λy=>?_,ah hp _ _ _ z2⟩
     rcases y with y | y
     · exact z1 y
     · rw [List.mem_singleton.mp y] at z2; rw [hp] at z2; cases z2⟩
theorem rY {xs:List D}:jw X (.type "list") [.lst xs] (.o xs):=⟨_,iR,λM vs H Q _ d q=>by
 cases d with
 | cons d r=>
   cases r
   cases d with
   | lst h r=>
     refine ⟨_,_,rfl,.inl (ay aD h),λp hp=>?_⟩
     obtain ⟨z1,z2,z3⟩:=jU (K:=X.K) (M:=M) hp r
     exact q _ _ [p] z1 z2 z3⟩
theorem l5 {K:PySem.W.Frag} {H:Hp} {vs:List V} {ds:List D} {i:Int} {d:D} (r:aq K H vs ds) (h:atI ds i=some d):∃ v,atI vs i=some v/\Den K H v d:=by
 unfold atI at h ⊢
 rw [r.length]
 cases e:ixN ds.length i with
 | none=>rw [e] at h; cases h
 | some j=>rw [e] at h; exact r.get h
noncomputable def rX (X:Cx) (x y z:D):Prop:=∃ r:R2,IxR X r /\
 ∀ (M:Addr->Prop) (v w:V) (H:Hp) (Q:VK),(∀ b,M b->∃ o,H b=some o)->Den X.K (hd H M) v x->Den X.K (hd H M) w y->(∀ u H',af H H'->Den X.K (hd H' M) u z->Q u H')->r v w H Q
theorem bg (ha:PE X a (dE X.K C τ (.d x))) (hb:PE X b (dE X.K C τ (.d y))) (ho:rX X x y z) (hs:fq b:=by exact λ_ _=>rfl):PE X (.Subscript a b pos) (dE X.K C τ (.d z)):=by
 obtain ⟨r,h1,h2⟩:=ho
 exact peW (dh h1 ha hb hs) (two h2)
theorem a0 {xs:List D} (h:atI xs i=some z):rX X (.lst xs) (.int i) z:=⟨_,iW,λM v w H Q _ d1 d2 q=>by
 cases d2
 cases d1 with
 | lst hs r=>
   obtain ⟨v,e,d⟩:=l5 r h
   exact ⟨_,_,_,_,rfl,rfl,ay aD hs,e,q _ H (af.refl _) d⟩⟩
theorem fH {xs:List D} (h:atI xs i=some z):rX X (.tup xs) (.int i) z:=⟨_,cL,λM v w H Q _ d1 d2 q=>by
 cases d2
 cases d1 with
 | tup hs r=>
   obtain ⟨v,e,d⟩:=l5 r h
   exact ⟨_,_,_,_,rfl,rfl,aC aD hs,e,q _ H (af.refl _) d⟩⟩
noncomputable def dO (K:PySem.W.Frag) (τ:List Sl) (c:Option Int):TO:=λσ H Q=>∃ A H₀ B,Sta K A H₀ τ B σ H/\∀ H',af H H'->Q c H'
theorem sM {e:Option Expr} {t t':TO} (h:PO X e t) (f:∀ σ H Q,t' σ H Q->t σ H Q):PO X e t':=λpins s σ H Q I q=>h pins s σ H Q I (f σ H Q q)
theorem jN:PO X none (dO X.K τ none):=sM pO λσ H Q ⟨A,H₀,B,S,k⟩=>k H (af.refl _)
theorem j4 (h:PE X e (dE X.K false τ (.d (.int i)))):PO X (some e) (dO X.K τ (some i)):=sM (oy h) λσ H Q ⟨A,H₀,B,S,k⟩=>aQ S λv H1 e1 d1=>by
 cases d1
 exact ⟨_,rfl,k H1 e1⟩
noncomputable def cutD (xs:List D) (lo hi:Option Int):List D:=(xs.drop (HT.sIx xs.length 0 lo)).take (HT.sIx xs.length xs.length hi - HT.sIx xs.length 0 lo)
theorem qL {lo hi:Option Expr} {l u:Option Int} {xs:List D} {p2:Pos} (ha:PE X a (dE X.K C τ (.d (.lst xs)))) (hl:PO X lo (dO X.K τ l)) (hu:PO X hi (dO X.K τ u)):PE X (.Subscript a (.Slice lo hi none p2) pos) (dE X.K C τ (.o (cutD xs l u))):=
 peW (mU pe ha hl hu) λσ H Q ⟨A,H₀,B,S,k⟩=>aQ S λv H1 e1 d1=>⟨A,H₀,B,S.mono e1,λH2 e2=>⟨A,H₀,B,(S.mono e1).mono e2,λH3 e3=>by
   cases d1 with
   | @lst _ ws _ h r=>
     have h:=ay (e2.trans e3) (ay aD h)
     refine ⟨_,_,rfl,h,λp hp=>?_⟩
     have r:=r.mono (ao (e2.trans e3) λ_ z=>z)
     have r':aq X.K (hd H3 (vw C A B)) (lz ws l u) (cutD xs l u):=by
       unfold lz cutD
       rw [r.length]
       exact (r.drop _).take _
     obtain ⟨z1,z2,z3⟩:=jU (K:=X.K) hp r'
     exact k _ _ [p] (e1.trans (e2.trans (e3.trans z1))) (λb hb=>⟨(e1.trans (e2.trans e3)).free (z2 b hb).1,(z2 b hb).2⟩) z3⟩⟩
inductive Ty where
 | int | bool | str | list | tuple
noncomputable def tyN:Ty->String
 | .int=>"int" | .bool=>"bool" | .str=>"str" | .list=>"list" | .tuple=>"tuple"
noncomputable def tG:D->String
 | .non=>"NoneType" | .bl _=>"bool" | .int _=>"int" | .str _=>"str" | .tup _=>"tuple" | .lst _=>"list" | .box _=>"dict"
noncomputable def jq:Ty->D->Bool
 | .int,.int _=>true
 | .int,.bl _=>true
 | .bool,.bl _=>true
 | .str,.str _=>true
 | .list,.lst _=>true
 | .tuple,.tup _=>true
 | _,_=>false
theorem qF (K:PySem.W.Frag) (d:D) (t:Ty):PySem.W.kitOne K (.type (tG d)) (.type (tyN t))=some (jq t d):=by
 cases d <;> cases t <;> (show PySem.W.kitOne K (.type _) (.type _)=some _) <;> with_unfolding_all rfl
theorem ro (t:Ty):cR X (.builtin "isinstance") (λxs H Q=>∃ G x d,af G H/\xs=[x,.ty (tyN t)]/\Den X.K G x d/\Q (.bl (jq t d)) H):=by
 intro pins s σ H xs us Q I r q
 obtain ⟨G,x,d,sg,rfl,dx,q⟩:=q
 obtain ⟨u,w,rfl,rx,rt⟩:∃ u w,us=[u,w]/\RelV x u/\RelV (.ty (tyN t)) w:=by
   cases r with
   | cons r1 r=>cases r with
     | cons r2 r=>cases r; exact ⟨_,_,rfl,r1,r2⟩
 cases (show w=Value.type (tyN t) from rt)
 have kt:=qF X.K d t
 have fin:∀ tk,EP X pins σ Q (.bool (jq t d)) { s with toks:=tk }:=λtk=>⟨.bl _,H,I.tok _,rfl,q⟩
 cases dx with
 | non=>cases (show u=Value.none from rx); exact PySem.W.kia_one PySem.W.kitx_none I.kIn True.intro kt (λz=>nomatch z) fin
 | bl=>cases (show u=Value.bool _ from rx); exact PySem.W.kia_one PySem.W.kitx_bool I.kIn True.intro kt (λz=>nomatch z) fin
 | int=>obtain ⟨t',z⟩:=(show ∃ t,u=Value.int _ t from rx); cases z; exact PySem.W.kia_one PySem.W.kitx_int I.kIn True.intro kt (λz=>nomatch z) fin
 | str=>obtain ⟨t',z⟩:=(show ∃ t,u=Value.str _ t from rx); cases z; exact PySem.W.kia_one PySem.W.kitx_str I.kIn True.intro kt (λz=>nomatch z) fin
 | tup h r1=>
   cases (show u=Value.ref _ from rx)
   obtain ⟨its,_,⟨o,h1,h2,_⟩,_⟩:=I.tuple (aC sg h)
   exact PySem.W.kia_one PySem.W.kitx_tuple I.kIn ⟨o,h1,h2⟩ kt (λz=>nomatch z) fin
 | lst h r1=>
   cases (show u=Value.ref _ from rx)
   obtain ⟨its,_,⟨o,n,h1,h2,_⟩,_⟩:=I.list (ay sg h)
   exact PySem.W.kia_one PySem.W.kitx_list I.kIn ⟨o,h1,h2⟩ kt (λz=>nomatch z) fin
 | @box a x h=>
   cases (show u=Value.ref _ from rx)
   obtain ⟨o',h1,h2⟩:=x.isd h
   obtain ⟨o,h3,h4⟩:=h2 _ _ _ _ (I.hok a _ (sg _ _ h1))
   exact PySem.W.kia_one PySem.W.kitx_dict I.kIn ⟨o,h3,h4⟩ kt (λz=>nomatch z) fin
theorem fF {n:Str} {q:Pos} (t:Ty) (B:Bk X k) (ha:PE X a (dE X.K false τ (.d x))) (hn:n ∈ aA:=by decide) (ht:bootBuiltins n=some (.type (tyN t)):=by decide +kernel) (hg:Gl X "isinstance":=by rfl) (hg':Gl X n:=by rfl) (h1:n ≠ "__name__":=by decide) (hdb:(n == ("__debug__" : Str))=false:=by decide)
   (he:starEach [a,.Name n q] X.env=(false,eval a X.env) :: starEach [.Name n q] X.env:=by rfl) (hpl:(backTo pos (starEach [.Name n q] X.env)).any (·.1)=false:=by rfl):PE X (.Call (.Name "isinstance" p) [a,.Name n q] [] pos) (dE X.K C τ (.d (.bl (jq t x)))):=by
 refine peW (cU (ro t) hg (B.blt _ (by decide)) (by decide +kernel) (av ha (av (kA (v:=.ty (tyN t)) hg' (B.blt _ hn) ht rfl h1 hdb) aV) he) (by decide) (by decide) he hpl) λσ H Q q=>?_
 obtain ⟨A,H₀,B,S,k⟩:=cV q
 exact aQ S λv H1 e1 d1=>⟨_,v,x,aD,rfl,d1,k _ H1 e1 .bl⟩
end
section
variable {K:PySem.W.Frag} {A:Addr->Prop} {H₀ H H':Hp} {τ:List Sl} {B:Nat->List Addr} {σ:L2.St}
theorem Sta.put (S:Sta K A H₀ τ B σ H) {i:Nat} {a:Addr} {xs ys:List D} {vs:List V} (hi:τ[i]?=some (.o xs)) (hB:B i=[a]) (d:aq K (hd H (own A B)) vs ys):Sta K A H₀ (τ.set i (.o ys)) B σ (upd H a (.lst vs)):=by
 have ha:own A B a:=.inr ⟨i,by rw [hB]; exact List.mem_singleton.mpr rfl⟩
 have ne:∀ b,b ≠ a->upd H a (.lst vs) b=H b:=λb h=>ai h
 have sm:af (hd H (own A B)) (hd (upd H a (.lst vs)) (own A B)):=λb o z=>by
   obtain ⟨z1,z2⟩:=ag.mp z
   exact ag.mpr ⟨z1,by rw [ne b (λe=>z1 (e ▸ ha))]; exact z2⟩
 have f0:H₀ a=none:=S.fr i a (by rw [hB]; exact List.mem_singleton.mpr rfl)
 have hs:af H₀ (upd H a (.lst vs)):=λb o z=>by rw [ne b (λe=>by rw [e,f0] at z; cases z)]; exact S.same b o z
 refine ⟨hs,by rw [List.length_set,S.len],λj t hj=>?_,S.fr,S.uq,S.ad,λj b hb=>?_⟩
 · by_cases ej:j=i
   · subst ej
     have hl:=(List.getElem?_eq_some_iff.mp hi).1
     rw [List.getElem?_set_self hl] at hj
     cases hj
     obtain ⟨a',vs',e1,e2,_,_⟩:=S.sl j _ hi
     rw [hB] at e1
     cases e1
     exact ⟨a,vs,hB,e2,az,d.mono sm⟩
   · rw [List.getElem?_set_ne (λz=>ej z.symm)] at hj
     have q:=S.sl j t hj
     have off:∀ b ∈ B j,b ≠ a:=λb hb e=>ej (S.uq j i a (e ▸ hb) (by rw [hB]; exact List.mem_singleton.mpr rfl))
     cases t with
     | un=>exact q
     | d x=>obtain ⟨z,u,e,d⟩:=q; exact ⟨z,u,e,d.mono sm⟩
     | o zs=>
       obtain ⟨c,ws,z1,z2,z3,z4⟩:=q
       exact ⟨c,ws,z1,z2,by rw [ne c (off c (by rw [z1]; exact List.mem_singleton.mpr rfl))]; exact z3,z4.mono sm⟩
     | n t=>
       obtain ⟨z0,u,z1,z2⟩:=q
       exact ⟨z0,u,z1,z2.frame sm λb hb=>ne b (off b hb)⟩
     | x E=>
       obtain ⟨c,o,z1,z2,z3,z4⟩:=q
       exact ⟨c,o,z1,z2,by rw [ne c (off c (by rw [z1]; exact List.mem_singleton.mpr rfl))]; exact z3,E.mono sm z4⟩
 · by_cases e:b=a
   · subst e; exact ⟨_,az⟩
   · rw [ne b e]; exact S.bd j b hb
theorem Sta.fz (S:Sta K A H₀ τ B σ H) {i:Nat} {s:Sl} {x:D} (hi:τ[i]?=some s) (hx:fzD s=some x):Sta K A H₀ (τ.set i (.d x)) (upB B i []) σ H:=
 S.less (λ_ z=>nomatch z) λG g hv=>by
   obtain ⟨u,e,d⟩:=(S.sl i s hi).den (G':=G) g (λb hb o ho=>hv b o hb (λz=>nomatch z) ho) hx
   exact ⟨rfl,u,e,d⟩
end
section
variable {X:Cx} {C:Bool} {τ:List Sl} {x y z:D} {a b e c:Expr} {es:List Expr} {pos p:Pos} {k:Nat} {s:Sl} {ds:List D} {N:Po} {st:Stmt} {rest body els:List Stmt}
theorem a7 (h:N.nx τ):PSs X [] (dS X.K τ N):=jk cy λD σ H ⟨A,H₀,B,S,M⟩=>M.nx τ B σ H h S
theorem aN {M:List Sl->Prop} (h1:PS X st (dS X.K τ { N with nx:=M })) (h2:∀ τ',M τ'->PSs X rest (dS X.K τ' N)):PSs X (st :: rest) (dS X.K τ N):=by
 have h:PSs X rest λD σ H=>∃ τ',M τ'/\dS X.K τ' N D σ H:=λpins s σ H D I ⟨τ',m,q⟩=>h2 τ' m pins s σ H D I q
 exact jk (bq h1 h) λD σ H ⟨A,H₀,B,S,Me⟩=>⟨A,H₀,B,S,λτ' B' σ' H' m S'=>⟨τ',m,A,H₀,B',S',Me⟩,Me.bk,Me.ct,Me.rt,Me.xc⟩
theorem gu (i:Nat) {s:Sl} {x:D} (h:PSs X rest (dS X.K (τ.set i (.d x)) N)) (hi:τ[i]?=some s:=by rfl) (hx:fzD s=some x:=by rfl):PSs X rest (dS X.K τ N):=jk h λD σ H ⟨A,H₀,B,S,Me⟩=>⟨A,H₀,_,S.fz hi hx,Me⟩
theorem aF (i:Nat) {n:Str} {p:Pos} (hN:X.N.Nodup) (he:PE X e (dE X.K true τ s)) (hr:PSs X rest (dS X.K (τ.set i s) N)) (hi:X.N[i]?=some n:=by rfl) (hx:Loc X.env.scope n:=by first | exact .inl rfl | exact .inr rfl) (hs:swapsWith e (some (.Name n p)) pos.line X.env=pure false:=by rfl)
   (hf:X.fn n=true\/X.env.scope.names.lookup n=some .local:=by first | exact .inl rfl | exact .inr rfl | assumption):PSs X (.Assign [.Name n p] e pos :: rest) (dS X.K τ N):=
 aN (M:=(·=τ.set i s)) (psW (iy hN hi hx he hs hf) λD σ H ⟨A,H₀,B,S,Me⟩=>⟨A,H₀,B,S,λv H' bs e hf h=>Me.nx _ _ _ _ rfl (S.set e hf h)⟩) λ_ e=>e ▸ hr
theorem mq (he:PE X e (dE X.K true τ s)) (hr:PSs X rest (dS X.K τ N)) (hs:swapsWith e none pos.line X.env=pure false:=by rfl):PSs X (.Expr e pos :: rest) (dS X.K τ N):=
 aN (M:=(·=τ)) (psW (cX he hs) λD σ H ⟨A,H₀,B,S,Me⟩=>⟨A,H₀,B,S,λv H' bs e hf h=>Me.nx _ _ _ _ rfl (S.mono e)⟩) λ_ e=>e ▸ hr
theorem bK (he:PE X e (dE X.K false τ s)) (h:N.rt s):PSs X (.Return (some e) pos :: rest) (dS X.K τ N):=
 aN (M:=λ_=>False) (psW (bL he) λD σ H ⟨A,H₀,B,S,Me⟩=>⟨A,H₀,B,S,λv H' bs e hf q=>Me.rt v H' bs s h (S.same.trans e) (λb hb=>⟨S.same.free (hf b hb).1,(hf b hb).2⟩) q⟩) λ_ e=>e.elim
theorem mK (i:Nat) {n:Str} (h:N.rt s) (hi:τ[i]?=some s:=by rfl) (h0:s ≠ .un:=by exact nofun) (hN:X.N[i]?=some n:=by rfl) (hv:Vis X.env.scope n:=by first | exact Or.inl rfl | exact Or.inr (Or.inl rfl) | exact Or.inr (Or.inr rfl))
   (hd:(n == ("__debug__" : Str))=false:=by decide) (hcd:(n == ("__classdict__" : Str))=false:=by decide):PSs X (.Return (some (.Name n p)) pos :: rest) (dS X.K τ N):=
 aN (M:=λ_=>False) (psW (bL (a9 hN hv hd hcd)) λD σ H ⟨A,H₀,B,S,Me⟩=>by
   have q:=S.sl i s hi
   obtain ⟨u,e⟩:∃ u,(σ[i]?).join=some u:=by
     cases s with
     | un=>exact absurd rfl h0
     | d x=>obtain ⟨_,u,e,_⟩:=q; exact ⟨u,e⟩
     | o xs=>obtain ⟨_,_,_,e,_⟩:=q; exact ⟨_,e⟩
     | n t=>obtain ⟨_,u,e,_⟩:=q; exact ⟨u,e⟩
     | x E=>obtain ⟨_,_,_,e,_⟩:=q; exact ⟨_,e⟩
   rw [e] at q
   exact ⟨u,slot_of e,Me.rt u H (B i) s h S.same (λb hb=>⟨S.fr i b hb,S.bd i b hb⟩) (q.mono (ao (af.refl _) λb z=>z.elim .inl λz=>.inr ⟨i,z⟩) (af.refl _))⟩) λ_ e=>e.elim
theorem qd {H H':Hp} {σ:L2.St} {D:Ends} {A:Addr->Prop} {H₀:Hp} {B:Nat->List Addr} (S:Sta X.K A H₀ τ B σ H) (Me:Meets X.K A H₀ N D) (e:af H H'):dS X.K τ N D σ H':=⟨A,H₀,B,S.mono e,Me⟩
theorem uC {t:Bool} (hc:PT X c (dT X.K τ t)) (ha:t=true->PSs X body (dS X.K τ N)) (hb:t=false->PSs X els (dS X.K τ N)):PS X (.If c body els pos) (dS X.K τ N):=by
 cases t with
 | true=>exact psW (gh hc (ha rfl) cW) λD σ H ⟨A,H₀,B,S,Me⟩=>⟨A,H₀,B,S,λH' e=>gA (qd S Me e)⟩
 | false=>exact psW (gh hc cW (hb rfl)) λD σ H ⟨A,H₀,B,S,Me⟩=>⟨A,H₀,B,S,λH' e=>gy (qd S Me e)⟩
theorem nc {t:Bool} {M:List Sl->Prop} (hc:PT X c (dT X.K τ t)) (ha:t=true->PSs X body (dS X.K τ { N with nx:=M })) (hb:t=false->PSs X els (dS X.K τ { N with nx:=M })) (hr:∀ τ',M τ'->PSs X rest (dS X.K τ' N)):PSs X (.If c body els pos :: rest) (dS X.K τ N):=
 aN (uC hc ha hb) hr
theorem jt {t:Bool} (hc:PT X c (dT X.K τ t)) (ha:t=true->PSs X body (dS X.K τ { N with nx:=λ_=>False })) (hr:t=false->PSs X rest (dS X.K τ N)):PSs X (.If c body [] pos :: rest) (dS X.K τ N):=by
 cases t with
 | true=>exact nc (M:=λ_=>False) hc ha (λz=>nomatch z) λ_ z=>z.elim
 | false=>exact nc (M:=(·=τ)) hc (λz=>nomatch z) (λ_=>a7 rfl) λ_ e=>e ▸ hr rfl
theorem er {t:Bool} (hc:PT X c (dT X.K τ t)) (ht:t=false) (hr:PSs X rest (dS X.K τ N)):PSs X (.If c body [] pos :: rest) (dS X.K τ N):=jt hc (λz=>by rw [ht] at z; cases z) λ_=>hr
theorem gJ (i:Nat) {n:Str} {xs:List D} {ap cp:Pos} (he:PE X e (dE X.K true τ (.d x))) (hl:xs.length < 1000000) (hr:PSs X rest (dS X.K (τ.set i (.o (xs++[x]))) N)) (hi:τ[i]?=some (.o xs):=by rfl) (hN:X.N[i]?=some n:=by rfl)
   (hv:Vis X.env.scope n:=by first | exact Or.inl rfl | exact Or.inr (Or.inl rfl) | exact Or.inr (Or.inr rfl)) (hd:(n == ("__debug__" : Str))=false:=by decide) (hcd:(n == ("__classdict__" : Str))=false:=by decide)
   (hfew:((backTo cp (starEach [e] X.env)).all (λx=>!x.1) && (backToKw cp (keywordEach [] X.env)).all (λx=>x.1.isSome) && decide (([e]:List Expr).length + ([]:List Keyword).length + (if ([]:List Keyword).isEmpty then 0 else 1) < 30))=true:=by rfl)
   (hline:(ap.endLine == cp.line)=true:=by rfl) (hst:starEach [e] X.env=(false,eval e X.env) :: starEach [] X.env:=by rfl) (hpl:(backTo cp (starEach [] X.env)).any (·.1)=false:=by rfl)
   (hs:swapsWith (.Call (.Attribute (.Name n p) "append" ap) [e] [] cp) none pos.line X.env=pure false:=by rfl) (hbase:attributeBase (.Name n p) "append" X.env (eval (.Name n p) X.env)=eval (.Name n p) X.env:=by rfl) :
   PSs X (.Expr (.Call (.Attribute (.Name n p) "append" ap) [e] [] cp) pos :: rest) (dS X.K τ N):=
 aN (M:=(·=τ.set i (.o (xs++[x])))) (psW (cX (mR PySem.F.plainAttrs_list PySem.F.slot_list_append PySem.F.type_list_append cb (a9 hN hv hd hcd) (av he aV hst) hbase hfew hline hst hpl) hs) λD σ H ⟨A,H₀,B,S,Me⟩=>by
   obtain ⟨l,vs,hb,e1,e2,d⟩:=S.sl i _ hi
   refine ⟨_,slot_of e1,.inl ⟨rfl,_,SqL.of e2⟩,aQ S λv H1 e3 d1=>⟨l,vs,v,rfl,rfl,e3 _ _ e2,by rw [d.length]; exact Nat.lt_trans hl (by decide),?_⟩⟩
   exact Me.nx _ _ _ _ rfl ((S.mono e3).put hi hb ((d.mono (ao e3 λ_ z=>z)).append (.cons d1 .nil)))) λ_ e=>e ▸ hr
end
end Hy
namespace Hy
open PySem PySem.Spec PyProof.Rows L2
open Ev (D Den aq ah aC ay Ite Itz qY rD fy jV aw bE bP PTs bc bY)
noncomputable def Yl (K:PySem.W.Frag) (J:L2.It) (xs:List D) (G:Hp):Prop:=∀ H,af G H->(∀ i,xs.length<=i->J.stop i H)/\∀ (i:Nat) (h:i < xs.length),J.go i H /\
 ∀ x H',J.yld i H x H'->af H H'/\∀ M:Addr->Prop,(∀ b,M b->∃ o,H b=some o)->af G (hd H M)->Den K (hd H' M) x xs[i]
noncomputable def dI (K:PySem.W.Frag) (τ:List Sl) (xs:List D):TI:=λσ H R=>∃ A H₀ B,Sta K A H₀ τ B σ H/\∀ J H',af H H'->Yl K J xs (hd H' (own A B))->R J H'
noncomputable def dG (K:PySem.W.Frag) (τ:List Sl) (x:D) (τ':List Sl):TG:=λv σ H Q=>∃ A H₀ B,Sta K A H₀ τ B σ H/\Den K (hd H (own A B)) v x/\∀ σ' B',Sta K A H₀ τ' B' σ' H->Q σ' H
theorem piW {X:Cx} {tg e:Expr} {t t':TI} (h:PI X tg e t) (f:∀ σ H Q,t' σ H Q->t σ H Q):PI X tg e t':=λpins s σ H Q I q=>h pins s σ H Q I (f σ H Q q)
theorem pgW {X:Cx} {e:Expr} {t t':TG} (h:PG X e t) (f:∀ v σ H Q,t' v σ H Q->t v σ H Q):PG X e t':=λpins s σ H v u Q I r q=>h pins s σ H v u Q I r (f v σ H Q q)
section
variable {K:PySem.W.Frag} {G:Hp} {a:Addr} {vs:List V} {xs:List D}
theorem oH (h:SqL K G a vs) (r:aq K G vs xs):Yl K (Itl K a) xs G:=by
 intro H sg
 have hl:=r.length
 refine ⟨λi hi=>⟨vs,ay sg h,by omega⟩,λi hi=>?_⟩
 obtain ⟨v,hv,dv⟩:=r.get (List.getElem?_eq_getElem hi)
 refine ⟨⟨vs,v,ay sg h,hv⟩,λx H' ⟨e1,e2⟩=>?_⟩
 subst e1
 have ex:x=v:=by have:=e2 vs (ay sg h); rw [hv] at this; exact (Option.some.inj this).symm
 subst ex
 exact ⟨af.refl _,λM _ sv=>dv.mono sv⟩
noncomputable def dD (lo:Int) (n:Nat):List D:=(List.range n).map λk=>D.int (lo + (k:Nat))
theorem ax (lo:Int) (n:Nat):(dD lo n).length=n:=by simp [dD]
theorem iz (lo:Int) (n i:Nat) (h:i < (dD lo n).length):(dD lo n)[i]=.int (lo + (i:Nat)):=by simp [dD]
theorem jD (lo:Int) (n:Nat):Yl K (Itr lo n) (dD lo n) G:=by
 intro H sg
 refine ⟨λi hi=>by rw [ax] at hi; exact hi,λi hi=>?_⟩
 have hi':i < n:=by rw [ax] at hi; exact hi
 refine ⟨hi',λx H' ⟨e1,e2⟩=>?_⟩
 subst e1 e2
 refine ⟨af.refl _,λM _ sv=>?_⟩
 rw [iz]
 exact .int
noncomputable def ic (xs:List D):List D:=(List.range xs.length).map λi=>D.tup [.int (i:Nat),xs.getD i .non]
theorem dU (xs:List D):(ic xs).length=xs.length:=by simp [ic]
theorem kR (xs:List D) (i:Nat) (h:i < (ic xs).length):(ic xs)[i]=.tup [.int (i:Nat),xs.getD i .non]:=by simp [ic]
theorem sf (h:SqL K G a vs) (r:aq K G vs xs):Yl K (Ite K a) (ic xs) G:=by
 intro H sg
 have hl:=r.length
 have el:=dU xs
 refine ⟨λi hi=>⟨vs,ay sg h,by omega⟩,λi hi=>?_⟩
 have hi':i < xs.length:=by omega
 obtain ⟨v,hv,dv⟩:=r.get (List.getElem?_eq_getElem hi')
 refine ⟨⟨vs,v,ay sg h,hv⟩,λy H' ⟨p,x,hp,e0,e1,e2⟩=>?_⟩
 subst e0 e1
 have ex:x=v:=by have:=e2 vs (ay sg h); rw [hv] at this; exact (Option.some.inj this).symm
 subst ex
 refine ⟨ah hp _,λM hM sv=>?_⟩
 rw [kR,show xs.getD i .non=xs[i] by simp [List.getD,hi']]
 exact .tup (SqT.of (ij hM hp)) (.cons .int (.cons (dv.mono (sv.trans (ao (ah hp _) λ_ z=>z))) .nil))
end
section
variable {X:Cx} {C:Bool} {τ:List Sl} {x y z:D} {a b e c tg it:Expr} {es:List Expr} {pos p q:Pos} {k:Nat} {s:Sl} {xs:List D} {N:Po} {st:Stmt} {rest body els:List Stmt}
theorem bV (h:PE X it (dE X.K true τ (.d (.lst xs)))) (hc:X.calm=true:=by first | rfl | assumption):PI X tg it (dI X.K τ xs):=piW (kI hc h) λσ H R ⟨A,H₀,B,S,k⟩=>aQ S λv H1 e1 d1=>by
 cases d1 with
 | lst h r=>exact ⟨_,rfl,⟨_,ay aD h⟩,k _ H1 e1 (oH h r)⟩
theorem de {n:Int} (B:Bk X k) (h:PE X a (dE X.K false τ (.d (.int n)))) (h1:-(2 ^ 62)<=n) (h2:n < 2 ^ 62) (hg:Gl X "range":=by rfl) (hs:starEach [a] X.env=[(false,eval a X.env)]:=by rfl):PI X tg (.Call (.Name "range" p) [a] [] pos) (dI X.K τ (dD 0 n.toNat)):=
 piW (gH (.inl B.calm) hg (B.blt _ (by decide)) (ae h ar hs) hs) λσ H R ⟨A,H₀,B,S,k⟩=>bQ S λvs H1 e1 d1=>by
   cases d1 with
   | cons d r=>
     cases r
     cases d
     exact ⟨n,rfl,h1,h2,k _ H1 e1 (jD 0 _)⟩
theorem qX {m n:Int} (B:Bk X k) (h:PE X a (dE X.K false τ (.d (.int m)))) (h':PE X b (dE X.K false τ (.d (.int n)))) (h1:-(2 ^ 62)<=m/\m < 2 ^ 62/\-(2 ^ 62)<=n/\n < 2 ^ 62) (hg:Gl X "range":=by rfl) (hs:starEach [a,b] X.env=[(false,eval a X.env),(false,eval b X.env)]:=by rfl)
   (hs2:starEach [b] X.env=[(false,eval b X.env)]:=by rfl):PI X tg (.Call (.Name "range" p) [a,b] [] pos) (dI X.K τ (dD m (n - m).toNat)):=
 piW (lR (.inl B.calm) hg (B.blt _ (by decide)) (ae h (ae h' ar hs2) (by rw [hs,hs2])) hs hs2) λσ H R ⟨A,H₀,B,S,k⟩=>bQ S λvs H1 e1 d1=>by
   cases d1 with
   | cons d r=>
     cases r with
     | cons d' r=>
       cases r
       cases d
       cases d'
       exact ⟨m,n,rfl,h1,k _ H1 e1 (jD m _)⟩
theorem tW {ts:List Expr} {m:Nat} {tp:Pos} (B:Bk X k) (h:PE X a (dE X.K true τ (.d (.lst xs)))) (hg:Gl X "enumerate":=by rfl) (hs:starEach [a] X.env=[(false,eval a X.env)]:=by rfl):PI X (.Tuple ts m tp) (.Call (.Name "enumerate" p) [a] [] pos) (dI X.K τ (ic xs)):=
 piW (fy B.calm hg (B.blt _ (by decide)) (ae h ar hs) hs) λσ H R ⟨A,H₀,B,S,k⟩=>bQ S λvs H1 e1 d1=>by
   cases d1 with
   | cons d r=>
     cases r
     cases d with
     | lst h r=>exact ⟨_,rfl,⟨_,ay aD h⟩,k _ H1 e1 (sf h r)⟩
theorem mZ (i:Nat) {n:Str} (hN:X.N.Nodup) (hi:X.N[i]?=some n:=by rfl) (hx:Loc X.env.scope n:=by first | exact .inl rfl | exact .inr rfl) (hf:X.fn n=true\/X.env.scope.names.lookup n=some .local:=by first | exact .inl rfl | exact .inr rfl | assumption):PG X (.Name n p) (dG X.K τ x (τ.set i (.d x))):=
 pgW (bz (i:=i) hN hi hx hf) λv σ H Q ⟨A,H₀,B,S,d,k⟩=>k _ _ (S.set (af.refl _) (bs:=[]) (λ_ z=>nomatch z) (eN d))
theorem qi (i j:Nat) {n m:Str} {p2 pt:Pos} {md:Nat} (hc:X.calm=true) (hN:X.N.Nodup) (hi:X.N[i]?=some n:=by rfl) (hj:X.N[j]?=some m:=by rfl) (hx:Loc X.env.scope n:=by first | exact .inl rfl | exact .inr rfl) (hy:Loc X.env.scope m:=by first | exact .inl rfl | exact .inr rfl)
   (hf:X.fn n=true\/X.env.scope.names.lookup n=some .local:=by first | exact .inl rfl | exact .inr rfl | assumption) (hf':X.fn m=true\/X.env.scope.names.lookup m=some .local:=by first | exact .inl rfl | exact .inr rfl | assumption) :
   PG X (.Tuple [.Name n p,.Name m p2] md pt) (dG X.K τ (.tup [x,y]) ((τ.set i (.d x)).set j (.d y))):=by
 refine pgW (mI hc (cH (bz (i:=i) hN hi hx hf) (cH (bz (i:=j) hN hj hy hf') k6))) λv σ H Q ⟨A,H₀,B,S,d,k⟩=>?_
 cases d with
 | tup h r=>
   cases r with
   | cons d1 r=>
     cases r with
     | cons d2 r=>
       cases r
       have S1:=S.set (i:=i) (af.refl _) (bs:=[]) (λ_ z=>nomatch z) (eN d1)
       have sub:∀ b,own A (upB B i []) b->own A B b:=λb z=>z.elim .inl λ⟨j,z⟩=>(aJ z).elim (λz=>nomatch z.2) λz=>.inr ⟨j,z.2⟩
       exact ⟨_,_,rfl,aC aD h,rfl,_,_,rfl,_,_,rfl,rfl,k _ _ (S1.set (i:=j) (af.refl _) (bs:=[]) (λ_ z=>nomatch z) (eN (d2.mono (ao (af.refl _) sub))))⟩
theorem Sta.base {K:PySem.W.Frag} {A:Addr->Prop} {H₀ H:Hp} {τ:List Sl} {B:Nat->List Addr} {σ:L2.St} (S:Sta K A H₀ τ B σ H):af H₀ (hd H λb=>∃ i,b ∈ B i)/\Sta K A (hd H λb=>∃ i,b ∈ B i) τ B σ H:=by
 have s0:af H₀ (hd H λb=>∃ i,b ∈ B i):=λb o h=>ag.mpr ⟨λ⟨i,z⟩=>(by rw [S.fr i b z] at h; cases h),S.same _ _ h⟩
 exact ⟨s0,aD,S.len,S.sl,λi b hb=>by
   cases e:hd H (λb=>∃ i,b ∈ B i) b with
   | none=>rfl
   | some o=>exact absurd ⟨i,hb⟩ (ag.mp e).1,S.uq,λb hb=>let ⟨o,q⟩:=S.ad b hb; ⟨o,s0 _ _ q⟩,S.bd⟩
theorem Sta.back {K:PySem.W.Frag} {A:Addr->Prop} {H₀ G H:Hp} {τ:List Sl} {B:Nat->List Addr} {σ:L2.St} (S:Sta K A G τ B σ H) (s:af H₀ G) (ad:∀ b,A b->∃ o,H₀ b=some o):Sta K A H₀ τ B σ H:=
 ⟨s.trans S.same,S.len,S.sl,λi b hb=>s.free (S.fr i b hb),S.uq,ad,S.bd⟩
theorem qo {M:Nat->List Sl->Prop} {T:Nat->List Sl->List Sl} (B:Bk X k) (hi:PI X tg it (dI X.K τ xs)) (h0:M 0 τ) (hg:∀ i (h:i < xs.length) τ',M i τ'->PG X tg (dG X.K τ' xs[i] (T i τ')))
   (hb:∀ i,i < xs.length->∀ τ',M i τ'->PSs X body (dS X.K (T i τ') { N with nx:=M (i + 1),ct:=M (i + 1),bk:=N.nx })) (hn:∀ τ',M xs.length τ'->N.nx τ')
   (hs:∀ x,foldedSetIterable it X.env x=pure x:=by intro _; rfl):PS X (.For tg it body [] pos) (dS X.K τ N):=by
 have hg':PG X tg λv σ H Q=>∃ (i:Nat) (h:i < xs.length) (τ':List Sl),M i τ'/\dG X.K τ' xs[i] (T i τ') v σ H Q:=λpins s σ H v u Q I r ⟨i,h,τ',m,q⟩=>hg i h τ' m pins s σ H v u Q I r q
 have hb':PSs X body λD σ H=>∃ i τ',i < xs.length/\M i τ'/\dS X.K (T i τ') { N with nx:=M (i + 1),ct:=M (i + 1),bk:=N.nx } D σ H:=λpins s σ H D I ⟨i,τ',h,m,q⟩=>hb i h τ' m pins s σ H D I q
 refine psW (jR B.po hi hg' hb' hs) λD σ H ⟨A,H₀,B,S,Me⟩=>⟨A,H₀,B,S,λJ H1 e1 yl=>?_⟩
 obtain ⟨s0,S1⟩:=(S.mono e1).base
 have sub:∀ {H'},af (hd H1 λb=>∃ i,b ∈ B i) H'->af (hd H1 (own A B)) H':=λe=>(ao (af.refl _) λ_ z=>.inr z).trans e
 refine ⟨λi m σ' H'=>m=xs.length - i/\i<=xs.length/\∃ τ' B',M i τ'/\Sta X.K A (hd H1 λb=>∃ i,b ∈ B i) τ' B' σ' H',⟨xs.length,rfl,Nat.zero_le _,τ,B,h0,S1⟩,?_⟩
 rintro i m σ' H' ⟨rfl,hi,τ',B',hM,S'⟩
 obtain ⟨y1,y2⟩:=yl H' (sub S'.same)
 by_cases hlt:i < xs.length
 · obtain ⟨g,y⟩:=y2 i hlt
   refine .inr ⟨g,λσ2 H2=>∃ τ2 B2,M (i + 1) τ2/\Sta X.K A (hd H1 λb=>∃ i,b ∈ B i) τ2 B2 σ2 H2,λσ2 H2 q=>⟨xs.length - (i + 1),by omega,rfl,hlt,q⟩,λx H2 hy=>?_⟩
   obtain ⟨e2,dx⟩:=y x H2 hy
   have S2:=S'.mono e2
   refine ⟨i,hlt,τ',hM,A,_,B',S2,dx (own A B') S'.dm ?_,λσ3 B3 S3=>⟨i,τ',hlt,hM,A,_,B3,S3,?_⟩⟩
   · intro b o z
     obtain ⟨z1,z2⟩:=ag.mp z
     have z3:hd H1 (λb=>∃ i,b ∈ B i) b=some o:=ag.mpr ⟨λy=>z1 (.inr y),z2⟩
     refine ag.mpr ⟨λy=>?_,S'.same _ _ z3⟩
     rcases y with y | ⟨l,y⟩
     · exact z1 (.inl y)
     · rw [S'.fr l b y] at z3; cases z3
   · exact ⟨λτ3 B3 σ3 H3 m S3=>⟨τ3,B3,m,S3⟩,λτ3 B3 σ3 H3 m S3=>Me.nx τ3 B3 σ3 H3 m (S3.back s0 S.ad),λτ3 B3 σ3 H3 m S3=>⟨τ3,B3,m,S3⟩,
       λv H3 bs s3 hr e3 hf q=>Me.rt v H3 bs s3 hr (s0.trans e3) (λb hb=>⟨s0.free (hf b hb).1,(hf b hb).2⟩) q,λH3 e3=>Me.xc H3 (s0.trans e3)⟩
 · have e:i=xs.length:=by omega
   subst e
   exact .inl ⟨y1 _ (Nat.le_refl _),Me.nx τ' B' σ' H' (hn τ' hM) (S'.back s0 S.ad)⟩
theorem cS (j:Nat) {n:Str} (M:Nat->List Sl->Prop) {g:Nat->D} (B:Bk X k) (hN:X.N.Nodup) (hi:PI X (.Name n p) it (dI X.K τ xs)) (hx:∀ i (h:i < xs.length),xs[i]=g i) (h0:M 0 τ)
   (hb:∀ i,i < xs.length->∀ τ',M i τ'->PSs X body (dS X.K (τ'.set j (.d (g i))) { N with nx:=M (i + 1),ct:=M (i + 1),bk:=λ_=>False }))
   (hr:∀ τ',M xs.length τ'->PSs X rest (dS X.K τ' N)) (hs:∀ x,foldedSetIterable it X.env x=pure x:=by intro _; rfl) (hi':X.N[j]?=some n:=by rfl) (hl:Loc X.env.scope n:=by first | exact .inl rfl | exact .inr rfl)
   (hf:X.fn n=true\/X.env.scope.names.lookup n=some .local:=by first | exact .inl rfl | exact .inr rfl | assumption):PSs X (.For (.Name n p) it body [] pos :: rest) (dS X.K τ N):=
 aN (M:=M xs.length) (qo (M:=M) (T:=λi τ'=>τ'.set j (.d (g i))) B hi h0 (λi h τ' m=>by rw [hx i h]; exact mZ j hN hi' hl hf)
   (λi h τ' m=>jk (hb i h τ' m) λD σ H ⟨A,H₀,B,S,Me⟩=>⟨A,H₀,B,S,Me.nx,λ_ _ _ _ z=>z.elim,Me.ct,Me.rt,Me.xc⟩) (λ_ m=>m) hs) hr
theorem qI (j l:Nat) {n m:Str} {p2 pt:Pos} {md:Nat} (M:Nat->List Sl->Prop) {g g':Nat->D} (B:Bk X k) (hN:X.N.Nodup) (hi:PI X (.Tuple [.Name n p,.Name m p2] md pt) it (dI X.K τ xs)) (hx:∀ i (h:i < xs.length),xs[i]=.tup [g i,g' i]) (h0:M 0 τ)
   (hb:∀ i,i < xs.length->∀ τ',M i τ'->PSs X body (dS X.K ((τ'.set j (.d (g i))).set l (.d (g' i))) { N with nx:=M (i + 1),ct:=M (i + 1),bk:=λ_=>False }))
   (hr:∀ τ',M xs.length τ'->PSs X rest (dS X.K τ' N)) (hs:∀ x,foldedSetIterable it X.env x=pure x:=by intro _; rfl) (hi':X.N[j]?=some n:=by rfl) (hj':X.N[l]?=some m:=by rfl) (hl:Loc X.env.scope n:=by first | exact .inl rfl | exact .inr rfl) (hl':Loc X.env.scope m:=by first | exact .inl rfl | exact .inr rfl)
   (hf:X.fn n=true\/X.env.scope.names.lookup n=some .local:=by first | exact .inl rfl | exact .inr rfl | assumption) (hf':X.fn m=true\/X.env.scope.names.lookup m=some .local:=by first | exact .inl rfl | exact .inr rfl | assumption):PSs X (.For (.Tuple [.Name n p,.Name m p2] md pt) it body [] pos :: rest) (dS X.K τ N):=
 aN (M:=M xs.length) (qo (M:=M) (T:=λi τ'=>(τ'.set j (.d (g i))).set l (.d (g' i))) B hi h0 (λi h τ' m=>by rw [hx i h]; exact qi j l B.calm hN hi' hj' hl hl' hf hf')
   (λi h τ' m=>jk (hb i h τ' m) λD σ H ⟨A,H₀,B,S,Me⟩=>⟨A,H₀,B,S,Me.nx,λ_ _ _ _ z=>z.elim,Me.ct,Me.rt,Me.xc⟩) (λ_ m=>m) hs) hr
theorem cF {n:Nat} (i:Nat) (h:i < (dD 0 n).length):(dD 0 n)[i]=.int (i:Nat):=by rw [iz,Int.zero_add]
theorem nA {bs:List Int} (i:Nat) (h:i < (bs.map D.int).length):(bs.map D.int)[i]=.int (bs.getD i 0):=by
 have:i < bs.length:=by simpa using h
 simp [this]
theorem tI {bs:List Int} (i:Nat) (h:i < (ic (bs.map D.int)).length):(ic (bs.map D.int))[i]=.tup [.int (i:Nat),.int (bs.getD i 0)]:=by
 have:i < bs.length:=by rw [dU] at h; simpa using h
 rw [kR]
 simp [this]
end
end Hy
namespace Hy
open PySem PySem.Spec PyProof.Rows L2
open Ev (D Den aq ah aC ay aw bE bP PTs bc bY gk)
noncomputable def slot:List Str->Str->Option Nat
 | [],_=>none
 | y :: r,x=>if x=y then some 0 else (slot r x).map (· + 1)
theorem slot_get:∀ {N:List Str} {x:Str} {i:Nat},slot N x=some i->N[i]?=some x
 | [],_,_,h=>by cases h
 | y :: r,x,i,h=>by
   unfold slot at h
   split at h
   · cases h; rename_i e; rw [e]; rfl
   · cases e:slot r x with
     | none=>rw [e] at h; cases h
     | some j=>rw [e] at h; cases h; simpa using slot_get e
noncomputable def nZ (scope sc:Scope):Scope:={ scope with names:=scope.names.map λ(n,k)=>if (k == .free && sc.kind == .function && sc.names.lookup n == some .cell) then (n,.cell) else (n,k) }
noncomputable def bNm (scope:Scope):List Str:=(scope.names.filter λp=>(p.2 == .local || p.2 == .cell || p.2 == .free) && p.1 != (".0" : Str)).map (·.1)
noncomputable def bCp (No:List Str) (scope:Scope):List (Option Nat):=(bNm scope).map λx=>if (x,NameKind.free) ∈ scope.names then slot No x else none
noncomputable def bOk (sc scope:Scope):Bool:=
 scope.kind == .function && scope.names.all (λp=>p.2 != .local || scope.names.lookup p.1 == some .local) && scope.names.all (λp=>p.2 != .free || sc.names.lookup p.1 == some .cell)
   && scope.names.all (λp=>p.2 != .free || (!decide ((p.1,NameKind.cell) ∈ scope.names) && !decide ((p.1,NameKind.local) ∈ scope.names))) && decide (bNm scope++[("#" : Str)]).Nodup
   && (nZ scope sc).names.all (λp=>p.1 != ("#" : Str))
theorem ng {a b:Bool} (h:(a && b)=true):a=true/\b=true:=by rw [Bool.and_eq_true] at h; exact h
theorem nu {x:Str} {q:NameKind}:∀ {names:List (Str × NameKind)},names.lookup x=some q->(x,q) ∈ names
 | (y,k) :: r,h=>by
   rw [List.lookup_cons] at h
   split at h
   · rename_i e; cases h; rw [eq_of_beq e]; exact List.mem_cons_self ..
   · exact List.mem_cons_of_mem _ (nu h)
theorem cu {X:Cx} {scope:Scope} (h:bOk X.env.scope scope=true):bP X scope (bNm scope++[("#" : Str)]) (bCp X.N scope)/\(bNm scope++[("#" : Str)]).Nodup:=by
 unfold bOk at h
 obtain ⟨h,h6⟩:=ng h
 obtain ⟨h,h5⟩:=ng h
 obtain ⟨h,h4⟩:=ng h
 obtain ⟨h,h3⟩:=ng h
 obtain ⟨h1,h2⟩:=ng h
 rw [List.all_eq_true] at h2 h3 h4 h6
 refine ⟨⟨eq_of_beq h1,λx hx hk=>?_,λx hx hk=>?_,λx hx hm=>?_,λx hx hm=>?_,?_,λj i hj=>?_,?_⟩,of_decide_eq_true h5⟩
 · have:=h2 x hx; rw [hk] at this; simpa using this
 · have:=h3 x hx; rw [hk] at this; show X.env.scope.names.lookup x.1=_; simpa using this
 · have:=h4 _ hx; simp [hm] at this
 · have:=h4 _ hx; simp [hm] at this
 · unfold bCp; rw [List.length_append,List.length_map]; rfl
 · unfold bCp at hj
   rw [List.getElem?_map] at hj
   cases e:(bNm scope)[j]? with
   | none=>rw [e] at hj; cases hj
   | some x=>
     rw [e] at hj
     simp only [Option.map_some,Option.some.injEq] at hj
     split at hj
     · exact ⟨x,by rw [List.getElem?_append_left (List.getElem?_eq_some_iff.mp e).1]; exact e,slot_get hj,by assumption⟩
     · cases hj
 · refine ⟨("#" : Str),?_,λhv=>?_⟩
   · unfold bCp; rw [List.length_map,List.getElem?_append_right (Nat.le_refl _),Nat.sub_self]; rfl
   · have key:∀ q,(nZ scope X.env.scope).names.lookup ("#" : Str) ≠ some q:=λq hq=>by
       have:=h6 _ (nu hq)
       simp at this
     rcases hv with hv | hv | hv <;> exact key _ hv
noncomputable abbrev cpX (X:Cx) (s:Shared) (H:Hp) (scope:Scope) (fp:List Addr):Cx:=aw X s H scope (bNm scope++[("#" : Str)]) fp
theorem Bk.comp {X:Cx} {k:Nat} (B:Bk X k) (s:Shared) (H:Hp) (scope:Scope) (fp:List Addr):Bk (cpX X s H scope fp) k:=⟨B.room,B.calm,B.blt,PassesOwn.never⟩
noncomputable def aI (τ:List Sl) (caps:List (Option Nat)):List Sl:=caps.map λo=>match o with
 | some i=>match τ[i]? with
   | some (.d x)=>.d x
   | _=>.un
 | none=>.un
theorem ft {X:Cx}:PTs X [] λ_ H Q=>Q true H:=λpins s σ H Q I q=>by
 show wpAny _ _ (pure true) _ _ _
 exact wpAny_pure ⟨H,I,q⟩
section
variable {X:Cx} {C:Bool} {τ:List Sl} {x y z:D} {a b e c tg it elt:Expr} {es ifs:List Expr} {pos p q:Pos} {k:Nat} {xs:List D} {scope:Scope}
structure Cmp (X:Cx) (elt tg it:Expr) (ifs:List Expr) (scope:Scope) (τ:List Sl) (ys:List D):Prop where
 ex:∃ (In:TG->TT->TE->Prop) (caps:List (Option Nat)) (N:List Str) (wi:TI),bP X scope N caps/\PI X tg it wi/\(∀ g tt te,In g tt te->∀ s H fp,PG (aw X s H scope N fp) tg g/\PTs (aw X s H scope N fp) ifs tt/\PE (aw X s H scope N fp) elt te) /\
   ∀ C σ H Q,dE X.K C τ (.o ys) σ H Q->bY In caps wi σ H Q
 hs:∀ x,foldedSetIterable it X.env x=pure x
theorem mj {ys:List D} (h:Cmp X elt tg it ifs scope τ ys):PE X (.ListComp elt [⟨tg,it,ifs,0⟩] scope pos) (dE X.K C τ (.o ys)):=by
 obtain ⟨In,caps,N,wi,h1,h2,h3,h4⟩:=h.ex
 exact peW (bc h1 h2 h.hs h3) (h4 C)
theorem iV (i:Nat) {n:Str} {p spos:Pos} {rest:List Stmt} {N:Po} {ys:List D} {s:Sl} (hN:X.N.Nodup) (h:Cmp X elt tg it ifs scope τ ys) (hz:s=.o ys\/s=.d (.lst ys)) (hr:PSs X rest (dS X.K (τ.set i s) N)) (hi:X.N[i]?=some n:=by rfl) (hx:Loc X.env.scope n:=by first | exact .inl rfl | exact .inr rfl)
   (hsw:swapsWith (.ListComp elt [⟨tg,it,ifs,0⟩] scope pos) (some (.Name n p)) spos.line X.env=pure true:=by rfl) (hf:X.fn n=true\/X.env.scope.names.lookup n=some .local:=by first | exact .inl rfl | exact .inr rfl | assumption) :
   PSs X (.Assign [.Name n p] (.ListComp elt [⟨tg,it,ifs,0⟩] scope pos) spos :: rest) (dS X.K τ N):=by
 obtain ⟨In,caps,N',wi,h1,h2,h3,h4⟩:=h.ex
 have h5:∀ σ H Q,dE X.K true τ s σ H Q->bY In caps wi σ H Q:=by
   rcases hz with rfl | rfl
   · exact h4 true
   · intro σ H Q q
     obtain ⟨A,H₀,B,S,k⟩:=cV q
     refine h4 true σ H Q ⟨A,H₀,B,S,λv H' bs e hf q=>?_⟩
     obtain ⟨u,e1,d⟩:=q.den (G':=Hy.hd H' (vw true A B)) (ao (af.refl _) λ_ z=>.inl z) (λb hb o ho=>ag.mpr ⟨λz=>(by obtain ⟨_,q⟩:=S.vd (C:=true) b z; rw [(hf b hb).1] at q; cases q),ho⟩) rfl
     cases e1
     exact k v H' e d
 exact aN (M:=(·=τ.set i s)) (psW (gk (bz (i:=i) hN hi hx hf) h1 h2 h.hs h3 hsw) λD σ H ⟨A,H₀,B,S,Me⟩=>h5 _ _ _ ⟨A,H₀,B,S,λv H' bs e hf h=>Me.nx _ _ _ _ rfl (S.set e hf h)⟩) λ_ e=>e ▸ hr
theorem jM {T:Nat->List Sl} {t:Nat->Bool} {f:Nat->D} (hc:bOk X.env.scope scope=true) (hi:PI X tg it (dI X.K τ xs)) (hT:∀ i,(T i).length=(aI τ (bCp X.N scope)++[Sl.un]).length/\∀ (l:Nat) (x:D),(aI τ (bCp X.N scope)++[Sl.un])[l]?=some (.d x)->(T i)[l]?=some (.d x))
   (hg:∀ i (h:i < xs.length) s H fp,PG (cpX X s H scope fp) tg (dG X.K (aI τ (bCp X.N scope)++[Sl.un]) xs[i] (T i)))
   (ht:∀ i,i < xs.length->∀ s H fp,PTs (cpX X s H scope fp) ifs (dT X.K (T i) (t i)))
   (he:∀ i,i < xs.length->t i=true->∀ s H fp,PE (cpX X s H scope fp) elt (dE X.K true (T i) (.d (f i)))) (hl:xs.length < 1000000) (hs:∀ x,foldedSetIterable it X.env x=pure x:=by intro _; rfl) :
   Cmp X elt tg it ifs scope τ (((List.range xs.length).filter t).map f):=by
 obtain ⟨cap,_⟩:=cu hc
 generalize hτ:aI τ (bCp X.N scope)++[Sl.un]=τb at *
 refine ⟨⟨λg tt te=>g=(λv σ H Q=>∃ (i:Nat) (h:i < xs.length),dG X.K τb xs[i] (T i) v σ H Q)/\tt=(λσ H Q=>∃ i,i < xs.length/\dT X.K (T i) (t i) σ H Q)/\te=(λσ H Q=>∃ i,i < xs.length/\t i=true/\dE X.K true (T i) (.d (f i)) σ H Q),_,_,_,cap,hi,?_,?_⟩,hs⟩
 · rintro g tt te ⟨rfl,rfl,rfl⟩ s H fp
   exact ⟨λpins s' σ H' v u Q I r ⟨i,h,q⟩=>hg i h s H fp pins s' σ H' v u Q I r q,λpins s' σ H' Q I ⟨i,h,q⟩=>ht i h s H fp pins s' σ H' Q I q,λpins s' σ H' Q I ⟨i,h,h',q⟩=>he i h h' s H fp pins s' σ H' Q I q⟩
 rintro C σ H Q ⟨A,H₀,B,S,kk⟩
 refine ⟨A,H₀,B,S,λJ H1 e1 yl=>⟨_,_,_,⟨rfl,rfl,rfl⟩,λD hD=>?_⟩⟩
 have S1:=S.mono e1
 have nD:¬ own A B D:=λz=>by obtain ⟨o,q⟩:=S1.dm D z; rw [hD] at q; cases q
 have noN:∀ (l:Nat) (t:Nd),τb[l]?=some (.n t)->0 ≠ 0:=λl t h=>by
   exfalso
   rw [<- hτ] at h
   have:=List.mem_of_getElem? h
   rcases List.mem_append.mp this with z | z
   · unfold aI at z
     obtain ⟨o,_,ho⟩:=List.mem_map.mp z
     split at ho
     · split at ho <;> cases ho
     · cases ho
   · cases List.mem_singleton.mp z
 have slots:∀ {σ':L2.St} {H':Hp},af H1 H'->(∃ o,H' D=some o)->σ'.length=τb.length->(∀ (l:Nat) (s:Sl),τb[l]?=some s->aY X.K (hd H' λb=>own A B b\/b=D) H' (σ'[l]?).join [] s)->Sta X.K (λb=>own A B b\/b=D) H' τb (λ_=>[]) σ' H':=λ{σ' H'} e1 e2 e3 e4=>
   ⟨af.refl _,e3,λl s h=>(e4 l s h).mono (ao (af.refl _) λ_ z=>z.elim id λ⟨_,z⟩=>(nomatch z)) (af.refl _),λ_ _ z=>(nomatch z),λ_ _ _ z=>(nomatch z),λb z=>z.elim (λz=>let ⟨o,q⟩:=S1.dm b z; ⟨o,e1 _ _ q⟩) λz=>z ▸ e2,λ_ _ z=>(nomatch z)⟩
 refine ⟨λi m σ' H'=>m=xs.length - i/\i<=xs.length/\af H1 H'/\(∃ vs,H' D=some (.lst vs)/\vs.length<=i/\aq X.K (hd H' λb=>own A B b\/b=D) vs (((List.range i).filter t).map f)) /\
   σ'.length=τb.length/\∀ (l:Nat) (s:Sl),τb[l]?=some s->aY X.K (hd H' λb=>own A B b\/b=D) H' (σ'[l]?).join [] s,⟨xs.length,rfl,Nat.zero_le _,ah hD _,⟨[],az,Nat.le_refl _,.nil⟩,?_,λl s h=>?_⟩,?_⟩
 · rw [<- hτ]; unfold bE aI; rw [List.length_append,List.length_append,List.length_map,List.length_map]; rfl
 · have hv:af (hd H (own A B)) (hd (upd H1 D (.lst [])) λb=>own A B b\/b=D):=λb o z=>by
     obtain ⟨z1,z2⟩:=ag.mp z
     have z2:=e1 _ _ z2
     have ne:b ≠ D:=λz=>by rw [z,hD] at z2; cases z2
     exact ag.mpr ⟨λy=>y.elim z1 ne,by rw [ai ne]; exact z2⟩
   cases s with
   | un=>rfl
   | d x=>
     rw [<- hτ] at h
     have hlt:l < (bCp X.N scope).length:=by
       rcases Nat.lt_or_ge l (bCp X.N scope).length with h' | h'
       · exact h'
       · exfalso
         rw [List.getElem?_append_right (by unfold aI; rw [List.length_map]; exact h')] at h
         cases e:l - (aI τ (bCp X.N scope)).length with
         | zero=>rw [e] at h; cases h
         | succ n=>rw [e] at h; cases h
     rw [List.getElem?_append_left (by unfold aI; rw [List.length_map]; exact hlt)] at h
     rw [List.getElem?_append_left (by unfold bE; rw [List.length_map]; exact hlt)]
     unfold aI at h
     unfold bE
     rw [List.getElem?_map] at h ⊢
     cases e:(bCp X.N scope)[l]? with
     | none=>rw [e] at h; cases h
     | some o=>
       rw [e] at h
       cases o with
       | none=>cases h
       | some i=>
         simp only [Option.map_some,Option.some.injEq] at h
         split at h
         · rename_i x' hx'
           cases h
           obtain ⟨_,u,eu,d⟩:=S.sl i _ hx'
           exact ⟨rfl,u,by simpa using eu,d.mono hv⟩
         · cases h
   | o xs'=>
     exfalso
     rw [<- hτ] at h
     have:=List.mem_of_getElem? h
     rcases List.mem_append.mp this with z | z
     · unfold aI at z
       obtain ⟨o,_,ho⟩:=List.mem_map.mp z
       split at ho
       · split at ho <;> cases ho
       · cases ho
     · cases List.mem_singleton.mp z
   | n t'=>
     exfalso
     rw [<- hτ] at h
     have:=List.mem_of_getElem? h
     rcases List.mem_append.mp this with z | z
     · unfold aI at z
       obtain ⟨o,_,ho⟩:=List.mem_map.mp z
       split at ho
       · split at ho <;> cases ho
       · cases ho
     · cases List.mem_singleton.mp z
   | x E'=>
     exfalso
     rw [<- hτ] at h
     have:=List.mem_of_getElem? h
     rcases List.mem_append.mp this with z | z
     · unfold aI at z
       obtain ⟨o,_,ho⟩:=List.mem_map.mp z
       split at ho
       · split at ho <;> cases ho
       · cases ho
     · cases List.mem_singleton.mp z
 rintro i m σ' H' ⟨rfl,hi,e2,⟨vs,hv1,hv2,hv3⟩,hlen,hsl⟩
 obtain ⟨y1,y2⟩:=yl H' (aD.trans e2)
 by_cases hlt:i < xs.length
 · obtain ⟨g,y⟩:=y2 i hlt
   refine .inr ⟨g,λx H2 hy=>?_⟩
   obtain ⟨e3,dx⟩:=y x H2 hy
   have S2:Sta X.K (λb=>own A B b\/b=D) H' τb (λ_=>[]) σ' H':=slots e2 ⟨_,hv1⟩ hlen hsl
   have o0:∀ b,own (λb=>own A B b\/b=D) (λ_=>([]:List Addr)) b->own A B b\/b=D:=λb z=>z.elim id λ⟨_,z⟩=>(nomatch z)
   have dx':=dx _ S2.dm (λb o z=>by
     obtain ⟨z1,z2⟩:=ag.mp z
     exact ag.mpr ⟨λy=>(o0 b y).elim z1 λy=>(by rw [y,hD] at z2; cases z2),e2 _ _ z2⟩)
   refine ⟨i,hlt,_,_,_,S2.mono e3,dx',λσ2 B2 S3=>?_⟩
   have hB2:∀ j b,b ∈ B2 j->b ≠ D:=λj b hb z=>by
     have:=S3.fr j b hb
     rw [z,hv1] at this
     cases this
   have back:∀ {H5:Hp},af H2 H5->σ2.length=τb.length/\∀ (l:Nat) (s:Sl),τb[l]?=some s->aY X.K (hd H5 λb=>own A B b\/b=D) H5 (σ2[l]?).join [] s:=λ{H5} e5=>by
     refine ⟨S3.len.trans (hT i).1,λl s h=>?_⟩
     cases s with
     | un=>rfl
     | d x=>
       obtain ⟨_,u,eu,d⟩:=S3.sl l _ ((hT i).2 l x h)
       exact ⟨rfl,u,eu,d.mono (ao e5 λ_ z=>.inl z)⟩
     | o xs'=>exact absurd (hsl l _ h) (λ⟨_,_,z,_⟩=>(nomatch z))
     | n t'=>exact absurd rfl (noN l t' h)
     | x E'=>exact absurd (hsl l _ h) (λ⟨_,_,z,_⟩=>(nomatch z))
   refine ⟨i,hlt,_,_,_,S3,λH4 e4=>?_⟩
   cases ht:t i with
   | false=>
     rw [if_neg Bool.false_ne_true]
     obtain ⟨b1,b2⟩:=back e4
     refine ⟨xs.length - (i + 1),by omega,rfl,hlt,e2.trans (e3.trans e4),⟨vs,e4 _ _ (e3 _ _ hv1),by omega,?_⟩,b1,b2⟩
     rw [List.range_succ,List.filter_append,List.map_append,List.filter_cons,ht]
     simpa using hv3.mono (ao (e3.trans e4) λ_ z=>z)
   | true=>
     rw [if_pos rfl]
     refine ⟨i,hlt,ht,aQ (S3.mono e4) λv H5 e5 d5=>?_⟩
     have e6:=e3.trans (e4.trans e5)
     have hv5:=e6 _ _ hv1
     refine ⟨vs,xs.length - (i + 1),hv5,Nat.lt_trans (Nat.lt_of_le_of_lt hv2 (Nat.lt_trans hlt hl)) (by decide),by omega,rfl,hlt,?_,?_⟩
     · intro b o z
       have ne:b ≠ D:=λy=>by rw [y,hD] at z; cases z
       rw [ai ne]
       exact e6 _ _ (e2 _ _ z)
     have sm:af (hd H5 λb=>own A B b\/b=D) (hd (upd H5 D (.lst (vs++[v]))) λb=>own A B b\/b=D):=λb o z=>by
       obtain ⟨z1,z2⟩:=ag.mp z
       exact ag.mpr ⟨z1,by rw [ai λy=>z1 (.inr y)]; exact z2⟩
     obtain ⟨b1,b2⟩:=back (e4.trans e5)
     refine ⟨⟨vs++[v],az,by rw [List.length_append]; exact Nat.succ_le_succ hv2,?_⟩,b1,λl s h=>?_⟩
     · rw [List.range_succ,List.filter_append,List.map_append,List.filter_cons,ht,if_pos rfl]
       refine aq.append (hv3.mono ((ao e6 λ_ z=>z).trans sm)) (.cons (d5.mono ((ao (af.refl _) λ_ z=>.inl z).trans sm)) .nil)
     · cases s with
       | un=>rfl
       | d x=>obtain ⟨z1,u,eu,d⟩:=b2 l _ h; exact ⟨z1,u,eu,d.mono sm⟩
       | o xs'=>exact absurd (hsl l _ h) (λ⟨_,_,z,_⟩=>(nomatch z))
       | n t'=>exact absurd rfl (noN l t' h)
       | x E'=>exact absurd (hsl l _ h) (λ⟨_,_,z,_⟩=>(nomatch z))
 · have e:i=xs.length:=by omega
   subst e
   refine .inl ⟨y1 _ (Nat.le_refl _),kk _ _ [D] (e1.trans e2) (λb hb=>?_) ⟨D,vs,rfl,rfl,hv1,hv3.mono (ao (af.refl _) λb z=>z.elim (λz=>.inl (iX z)) λz=>.inr (List.mem_singleton.mp z))⟩⟩
   obtain rfl:=List.mem_singleton.mp hb
   exact ⟨e1.free hD,_,hv1⟩
theorem cmp (j:Nat) {n:Str} {g f:Nat->D} (B:Bk X k) (hi:PI X (.Name n p) it (dI X.K τ xs)) (hx:∀ i (h:i < xs.length),xs[i]=g i) (hl:xs.length < 1000000)
   (he:∀ i,i < xs.length->∀ s H fp,PE (cpX X s H scope fp) elt (dE X.K true ((aI τ (bCp X.N scope)++[Sl.un]).set j (.d (g i))) (.d (f i))))
   (hc:bOk X.env.scope scope=true:=by kernel_rfl) (hu:(aI τ (bCp X.N scope)++[Sl.un])[j]?=some .un:=by rfl) (hN:(bNm scope++[("#" : Str)])[j]?=some n:=by rfl) (hv:∀ s H fp,Loc (cpX X s H scope fp).env.scope n:=by intro _ _ _; first | exact .inl rfl | exact .inr rfl)
   (hf:∀ s H fp,(cpX X s H scope fp).fn n=true\/(cpX X s H scope fp).env.scope.names.lookup n=some .local:=by intro _ _ _; first | exact .inr rfl | exact .inl rfl) (hs:∀ x,foldedSetIterable it X.env x=pure x:=by intro _; rfl) :
   Cmp X elt (.Name n p) it [] scope τ ((List.range xs.length).map f):=by
 have h:=jM (T:=λi=>(aI τ (bCp X.N scope)++[Sl.un]).set j (.d (g i))) (t:=λ_=>true) (f:=f) (elt:=elt) (ifs:=[]) hc hi (λi=>⟨List.length_set,λl x h=>?_⟩) (λi h s H fp=>?_) (λi h s H fp=>?_) (λi h _ s H fp=>he i h s H fp) hl hs
 · rwa [List.filter_eq_self.mpr λ_ _=>rfl] at h
 · rw [List.getElem?_set_ne (λz=>by rw [<- z,hu] at h; cases h)]
   exact h
 · rw [hx i h]
   exact mZ j (cu hc).2 hN (hv s H fp) (hf s H fp)
 · exact λpins s' σ H' Q I ⟨A,H₀,B,S,q⟩=>ft pins s' σ H' Q I (q H' (af.refl _))
end
section
variable {P:Program} {w:World} {K:PySem.W.Frag} {mg:Str->Option Value} {base:Heap}
noncomputable def jI (N:List Str) (ds:List D):List Sl:=ds.map .d++List.replicate (N.length - ds.length) .un
noncomputable abbrev Xc (P:Program) (w:World) (K:PySem.W.Frag) (mg:Str->Option Value) (base:Heap) (N:List Str) (qual:Str) (st:Stmt) (f:Addr) (cdv:Value) (A:Around) (outer:List Env) (s:Shared) (H:Hp) (E:XK):Cx:=(fh CX0 P w K mg base N qual (ak st) f cdv A outer s H E).nox
theorem fnD {x qual:Str} {st:Stmt} {f:Addr} {fd:FuncData} {N ps:List Str} {k:Nat} {Φ:List D->Sl->Prop} (F:Fun K x qual st f fd) (S:aE N ps (ak st)) (hb:∀ x ∈ aA,mg x=none) (len:∀ ds r,Φ ds r->ds.length=ps.length)
   (body:∀ ds r,Φ ds r->∀ cdv A outer s H E,Bk (Xc P w K mg base N qual st f cdv A outer s H E) k->PSs (Xc P w K mg base N qual st f cdv A outer s H E) (aT st) (dS K (jI N ds) { nx:=λ_=>r=.d .non,rt:=λr'=>r'=r })) :
   aP P w K mg base CX0 (k + 1) f fd ps (spD K Φ):=by
 refine F.ok S (λvs H Q E ⟨A,ds,r,_,d,h,_⟩=>d.length.trans (len ds r h)) λcdv A outer s H vs Q E hr ⟨A',ds,r,ha,d,h,q⟩=>⟨_,body ds r h cdv A outer s H E ⟨hr,rfl,hb,PassesOwn.never⟩,A',H,λ_=>[],⟨af.refl _,?_,λi s hi=>?_,λ_ _ z=>(nomatch z),λ_ _ _ z=>(nomatch z),ha,λ_ _ z=>(nomatch z)⟩,λτ B σ H' h S=>?_,λ_ _ _ _ h=>h.elim,λ_ _ _ _ h=>h.elim,λv H' bs s h e hf z=>?_,λ_ _=>trivial⟩
 · unfold L2.start jI
   simp [d.length]
 · have hl:=d.length
   unfold jI at hi
   unfold L2.start
   by_cases hlt:i < ds.length
   · rw [List.getElem?_append_left (by simpa using hlt),List.getElem?_map,List.getElem?_eq_getElem hlt] at hi
     cases hi
     obtain ⟨v,e,dv⟩:=d.get (List.getElem?_eq_getElem hlt)
     refine ⟨rfl,v,?_,dv.mono (ao (af.refl _) λ_ z=>z.elim id λ⟨_,z⟩=>(nomatch z))⟩
     rw [List.getElem?_append_left (by simpa [hl] using hlt),List.getElem?_map,e]
     rfl
   · rw [List.getElem?_append_right (by simpa using hlt),List.getElem?_replicate] at hi
     split at hi
     · cases hi; rfl
     · cases hi
 · obtain rfl:=(h:r=_)
   exact q .non H' [] S.same dz (eN .non)
 · obtain rfl:=(h:s=r)
   exact q v H' bs e hf z
theorem pF {K:PySem.W.Frag} {Φ:List D->Sl->Prop} (hΦ:∀ ns:List Int,ns.length<=63->Φ [.lst (ns.map .int)] (.d (.bl true))) (H:Hp) (a:Addr) (ns:List Int) (hl:ns.length<=63) (hS:SqL K H a (ns.map V.int)):spD K Φ [.ref a] H (λv _=>v=.bl true) λ_ _ _=>False:=by
 have hh:hd H (λ_=>False)=H:=by funext b; unfold hd; rw [if_neg id]
 refine ⟨λ_=>False,_,_,λ_ z=>z.elim,.cons (.lst (vs:=ns.map V.int) (by rw [hh]; exact hS) ?_) .nil,hΦ ns hl,λv H' bs _ _ h=>?_⟩
 · clear hl hS
   induction ns with
   | nil=>exact .nil
   | cons n ns ih=>exact .cons .int ih
 · obtain ⟨_,u,e,d⟩:=h
   cases e
   cases d
   rfl
end
end Hy
namespace Hy
open PySem PySem.Spec PyProof.Rows L2
open Ev (D Den aq aK a5 ah aC ay)
section
variable {X:Cx} {C:Bool} {τ:List Sl} {x y z:D} {a b e:Expr} {es:List Expr} {pos p:Pos} {k:Nat} {s:Sl} {ds:List D} {i j:Int}
theorem js {K:PySem.W.Frag} {H:Hp}:∀ {vs:List V} {ns:List Int},aq K H vs (ns.map .int)->vs=ns.map V.int
 | _,[],h=>by cases h; rfl
 | _,n :: ns,h=>by
   cases h with
   | cons d r=>cases d; rw [js r]; rfl
theorem fQ:∀ {ns:List Int} {us:List Value},Vals (ns.map V.int) us->∃ xs:List (Int × Tok),us=xs.map (λp=>Value.int p.1 p.2)/\xs.map (·.1)=ns
 | [],_,h=>by cases h; exact ⟨[],rfl,rfl⟩
 | n :: ns,_,h=>by
   cases h with
   | cons rv rs=>
     obtain ⟨xs,rfl,rfl⟩:=fQ rs
     obtain ⟨t,rfl⟩:=(show ∃ t,_=Value.int n t from rv)
     exact ⟨(n,t) :: xs,rfl,rfl⟩
theorem mP (hc:X.calm=true):cR X (.builtin "sum") (λxs H Q=>∃ (p:Addr) (ns:List Int),xs=[.ref p]/\SqL X.K H p (ns.map V.int)/\Q (.int ns.sum) H):=by
 intro pins s σ H xs us Q I r q
 obtain ⟨p,ns,rfl,h,q⟩:=q
 obtain ⟨u,rfl,ru⟩:∃ u,us=[u]/\RelV (.ref p) u:=by
   cases r with
   | cons r1 r=>cases r; exact ⟨_,rfl,r1⟩
 cases (show u=Value.ref _ from ru)
 obtain ⟨its,rv,pl,hz⟩:=I.list h
 obtain ⟨xs,rfl,hx⟩:=fQ rv
 refine sum_intListG (xs:=xs.toArray) (I.ok.hd hc) (by have:=pl.isList; simpa [intItems] using this) λh' tk t' k=>?_
 refine ⟨.int ns.sum,H,I.kept k,⟨t',?_⟩,q⟩
 rw [List.size_toArray,preSum_eq,List.take_of_length_le (by simp),hx]
theorem qg (hc:X.calm=true) (ns:List Int) {xs:List D} (hx:xs=ns.map .int):jw X (.builtin "sum") [.lst xs] (.d (.int ns.sum)):=⟨_,mP hc,λM vs H Q _ d q=>by
 subst hx
 cases d with
 | cons d r=>
   cases r
   cases d with
   | lst h r=>
     cases js r
     exact ⟨_,_,rfl,ay aD h,q _ H [] (af.refl _) dz (eN .int)⟩⟩
theorem pU:OpR X (binaryOp .Add) (λx y H Q=>∃ l b xs zs,x=.ref l/\y=.ref b/\SqL X.K H l xs/\SqL X.K H b zs/\xs.length + zs.length<=sizeLine/\∀ p,H p=none->Q (.ref p) (upd H p (.lst (xs++zs)))):=by
 intro pins s σ H x y v u Q I rx ry h
 obtain ⟨l,b,xs,zs,rfl,rfl,hH,hB,hz,q⟩:=h
 cases rx
 cases ry
 obtain ⟨its,r,pl,_⟩:=I.list hH
 obtain ⟨its2,r2,pl2,_⟩:=I.list hB
 have hl:=r.length
 have hl2:=r2.length
 obtain ⟨⟨cls,dd,data,sl⟩,ho,hc,n,hd⟩:=pl.isList
 obtain ⟨⟨cls2,dd2,data2,sl2⟩,ho2,hc2,n2,hd2⟩:=pl2.isList
 simp only at hc hd hc2 hd2
 subst hc hd hc2 hd2
 have e:its.toArray++its2.toArray=(its++its2).toArray:=by simp
 refine concat_meets ⟨_,ho,rfl⟩ ⟨_,ho2,rfl⟩ noFill_list_add seq_list_add PySem.F.slot_list_add PySem.F.entry_list_add (PySem.F.args_list_add_2 _ _) (list_addW l b its.toArray its2.toArray n n2 dd dd2 sl sl2 (by rw [List.size_toArray,List.size_toArray]; omega)) ⟨ho,ho2,?_⟩
 rw [e]
 exact ⟨.ref _,_,I.uS (t':=s.toks) (r.append r2) (by rw [List.length_append]; omega),rfl,q _ I.fresh⟩
theorem cG {xs ys:List D} (ha:PE X a (dE X.K C τ (.d (.lst xs)))) (hb:PE X b (dE X.K C τ (.d (.lst ys)))) (hl:xs.length + ys.length < 1000000):PE X (.BinOp a .Add b pos) (dE X.K C τ (.o (xs++ys))):=peW (dg pU ha hb) λσ H Q ⟨A,H₀,B,S,k⟩=>
 aQ S λv H1 e1 d1=>aQ (S.mono e1) λw H2 e2 d2=>by
   cases d1 with
   | lst h1 r1=>cases d2 with
     | lst h2 r2=>
       refine ⟨_,_,_,_,rfl,rfl,ay (aD.trans e2) h1,ay aD h2,by rw [r1.length,r2.length]; exact Nat.le_of_lt (Nat.lt_trans hl (by decide)),λp hp=>?_⟩
       obtain ⟨z1,z2,z3⟩:=jU (K:=X.K) hp ((r1.mono (ao e2 λ_ z=>z)).append r2)
       exact k _ _ [p] (e1.trans (e2.trans z1)) (λb hb=>⟨(e1.trans e2).free (z2 b hb).1,(z2 b hb).2⟩) z3
theorem mkL (h:i.natAbs < 2 ^ 60):aK i j:=.inl (by
 rcases Nat.eq_zero_or_pos i.natAbs with z | z
 · rw [z]; decide
 · exact Nat.lt_trans ((Nat.log2_lt (by omega)).mpr h) (by decide))
theorem mkR (h:j.natAbs < 2 ^ 60):aK i j:=.inr (.inl (by
 rcases Nat.eq_zero_or_pos j.natAbs with z | z
 · rw [z]; decide
 · exact Nat.lt_trans ((Nat.log2_lt (by omega)).mpr h) (by decide)))
theorem mkD (h0:j ≠ 0) (h:j.natAbs < 2 ^ 62):a5 j:=⟨h0,Nat.lt_trans ((Nat.log2_lt (by omega)).mpr h) (by decide)⟩
end
theorem aO {α:Type} {xs:List α} {i:Nat} {x:α} (h:xs[i]?=some x):atI xs (i:Int)=some x:=by
 unfold atI ixN
 have:=(List.getElem?_eq_some_iff.mp h).1
 rw [if_pos (by omega),if_pos (by omega)]
 simpa using h
theorem cM {ns:List Int} {i:Int} (h0:0<=i) (h:i.toNat < ns.length):atI (ns.map D.int) i=some (.int (ns.getD i.toNat 0)):=by
 obtain ⟨n,rfl⟩:=Int.eq_ofNat_of_zero_le h0
 exact aO (by
   have h:n < ns.length:=h
   simp [h])
theorem gm {xs:List D} (n:Nat):cutD xs none (some (n:Int))=xs.take n:=by
 unfold cutD
 rw [HT.kj,HT.je,List.drop_zero,Nat.sub_zero]
 rcases Nat.le_total n xs.length with h | h
 · rw [Nat.min_eq_left h]
 · rw [Nat.min_eq_right h,List.take_of_length_le (Nat.le_refl _),List.take_of_length_le h]
theorem getD_none {α:Type} {xs:List α} {i:Nat} {d:α} (h:xs.length<=i):xs.getD i d=d:=by simp [List.getD,h]
theorem ex1 {α:Type} {p:α->Prop} {a:α} (h:p a):∃ a,p a:=⟨a,h⟩
theorem ex2 {α:Type} {p:α->α->Prop} {a b:α} (h:p a b):∃ a b,p a b:=⟨a,b,h⟩
theorem ex3 {α:Type} {p:α->α->α->Prop} {a b c:α} (h:p a b c):∃ a b c,p a b c:=⟨a,b,c,h⟩
end Hy
namespace Hy
open PySem PySem.Spec PyProof.Rows L2
open Ev (D Den aq)
noncomputable def Dfn (K:PySem.W.Frag) (x:Str) (st:Stmt) (f:Addr):Prop:=PySem.W.nsIn K mainGlobals x=some (some (.ref f))/\(∃ oc od kV dc pm an cd ct sl,K.lookup f=some ⟨oc,od,.func (PySem.W.fnOf x x (cg st) (aT st) (ak st) .none kV dc pm an cd ct),sl⟩/\PySem.W.codeIn K cd x=true)/\PySem.W.keepIn K (.ref f)=true
noncomputable def BdA (x:Str) (st:Stmt) (ps:List Str):Prop:=∀ (kV dc pm:Value) (an:Option Addr) (cd ct:Value) (us:List Value),us.length=ps.length->bindArgs (PySem.W.fnOf x x (cg st) (aT st) (ak st) .none kV dc pm an cd ct) ⟨us,[]⟩=pure (ps.zip us)
noncomputable def nsL (K:PySem.W.Frag):List Str->Prop
 | []=>True
 | x :: r=>PySem.W.nsIn K mainGlobals x=some none/\nsL K r
section
variable {P:Program} {w:World} {K:PySem.W.Frag} {h:Heap} {mg:Str->Option Value} {base:Heap} {x:Str} {st:Stmt} {f:Addr} {ps:List Str} {k:Nat} {Φ:List D->Sl->Prop}
theorem Dfn.of {oc:Value} {od an:Option Addr} {kV dc pm cd ct:Value} {sl:Array (Option Value)} (a:PySem.W.nsIn K mainGlobals x=some (some (.ref f))) (l:K.lookup f=some ⟨oc,od,.func (PySem.W.fnOf x x (cg st) (aT st) (ak st) .none kV dc pm an cd ct),sl⟩) (c:PySem.W.codeIn K cd x=true) (k:PySem.W.keepIn K (.ref f)=true):Dfn K x st f:=⟨a,⟨_,_,_,_,_,_,_,_,_,l,c⟩,k⟩
theorem nsL.none (X:K.In h) (G:h.Ns mainGlobals mg):∀ {l:List Str},nsL K l->∀ x ∈ l,mg x=none
 | _ :: _,z,x,m=>by
   rcases List.mem_cons.mp m with rfl | m
   · exact PySem.W.mg_none_of X G z.1
   · exact nsL.none X G z.2 x m
theorem Dfn.fn (d:Dfn K x st f) (X:K.In h) (G:h.Ns mainGlobals mg) (b:BdA x st ps):∃ fd,Fun K x x st f fd/\mg x=some (.ref f)/\PySem.W.keepIn K (.ref f)=true/\Binds K fd ps []:=by
 obtain ⟨a,⟨oc,od,kV,dc,pm,an,cd,ct,sl,l,c'⟩,q⟩:=d
 have F:=mD l c' q
 exact ⟨_,F,PySem.W.mg_of X G a,q,F.binds (b kV dc pm an cd ct)⟩
theorem Dfn.cal (d:Dfn K x st f) (X:K.In h) (G:h.Ns mainGlobals mg) (b:BdA x st ps) (o:∀ fd,Fun K x x st f fd->aP P w K mg base CX0 k f fd ps (spD K Φ)):Cal P w K mg base k x Φ:=by
 obtain ⟨fd,F,h1,h2,h3⟩:=d.fn X G b
 exact ⟨f,fd,ps,o fd F,h1,h2,h3⟩
end
theorem bd1 {Q:List Value->Prop} (h:∀ a,Q [a]):∀ us:List Value,us.length=1->Q us:=λus e=>match us,e with | [a],_=>h a
theorem bd2 {Q:List Value->Prop} (h:∀ a b,Q [a,b]):∀ us:List Value,us.length=2->Q us:=λus e=>match us,e with | [a,b],_=>h a b
theorem bd3 {Q:List Value->Prop} (h:∀ a b c,Q [a,b,c]):∀ us:List Value,us.length=3->Q us:=λus e=>match us,e with | [a,b,c],_=>h a b c
theorem bd4 {Q:List Value->Prop} (h:∀ a b c d,Q [a,b,c,d]):∀ us:List Value,us.length=4->Q us:=λus e=>match us,e with | [a,b,c,d],_=>h a b c d
end Hy
namespace Hy
open PySem PySem.Spec PyProof.Rows L2
open Ev (D Den aq ah aC ay)
noncomputable def bG:List Nat->Nd->Option Nd
 | [],t=>some t
 | i :: p,.l xs=>(xs[i]?).bind (bG p)
 | i :: p,.t xs=>(xs[i]?).bind (bG p)
 | _ :: _,.d _=>none
noncomputable def bh:List Nat->Nd->Nd->Nd
 | [],_,n=>n
 | i :: p,.l xs,n=>.l (xs.set i (bh p (xs.getD i (.d .non)) n))
 | i :: p,.t xs,n=>.t (xs.set i (bh p (xs.getD i (.d .non)) n))
 | _ :: _,.d x,_=>.d x
noncomputable def bj (H:Hp):List Nat->V->V->Prop
 | [],u,v=>v=u
 | i :: p,u,v=>∃ a vs w,u=.ref a/\(H a=some (.lst vs)\/H a=some (.tup vs))/\vs[i]?=some w/\bj H p w v
theorem bj.mono {H H':Hp} (e:af H H'):∀ {p:List Nat} {u v:V},bj H p u v->bj H' p u v
 | [],_,_,h=>h
 | _ :: _,_,_,⟨a,vs,w,h1,h2,h3,h4⟩=>⟨a,vs,w,h1,h2.elim (λz=>.inl (e _ _ z)) (λz=>.inr (e _ _ z)),h3,h4.mono e⟩
theorem bj.snoc {H:Hp} {i:Nat} {a:Addr} {vs:List V} {w:V}:∀ {p:List Nat} {u:V},bj H p u (.ref a)->(H a=some (.lst vs)\/H a=some (.tup vs))->vs[i]?=some w->bj H (p++[i]) u w
 | [],_,h,h1,h2=>⟨a,vs,w,h.symm,h1,h2,rfl⟩
 | _ :: _,_,⟨b,us,x,z1,z2,z3,z4⟩,h1,h2=>⟨b,us,x,z1,z2,z3,z4.snoc h1 h2⟩
section
variable {K:PySem.W.Frag} {G H:Hp}
theorem aB.length:∀ {vs:List V} {bs:List Addr} {xs:List Nd},aB K G H vs bs xs->vs.length=xs.length
 | _,_,_,.nil=>rfl
 | _,_,_,.cons _ r=>congrArg (· + 1) r.length
theorem aB.part:∀ {vs:List V} {bs:List Addr} {xs:List Nd} {i:Nat} {c:Nd},aB K G H vs bs xs->xs[i]?=some c->∃ v l m r,vs[i]?=some v/\bs=l++(m++r)/\aU K G H v m c /\
   ∀ {G' H':Hp} {m':List Addr} {c':Nd},af G G'->(∀ b,b ∈ l\/b ∈ r->H' b=H b)->aU K G' H' v m' c'->aB K G' H' vs (l++(m'++r)) (xs.set i c')
 | _,_,_,_,_,.nil,e=>by cases e
 | _,_,_,0,_,.cons (b1:=b1) (b2:=b2) h r,e=>by
   cases e
   exact ⟨_,[],b1,b2,rfl,rfl,h,λg e h'=>by rw [List.nil_append]; exact .cons h' (r.frame g λb hb=>e b (.inr hb))⟩
 | _,_,_,i + 1,c,.cons (b1:=b1) h r,e=>by
   obtain ⟨v,l,m,q,h1,h2,h3,h4⟩:=aB.part (i:=i) (c:=c) r (by simpa using e)
   refine ⟨v,b1++l,m,q,by simpa using h1,by rw [h2,List.append_assoc],h3,λ{G' H' m' c'} g e h'=>?_⟩
   rw [List.append_assoc]
   exact .cons (h.frame g λb hb=>e b (.inl (List.mem_append_left _ hb))) (h4 g (λb hb=>e b (hb.elim (λz=>.inl (List.mem_append_right _ z)) .inr)) h')
theorem aU.focus:∀ (p:List Nat) {u:V} {bs:List Addr} {t c:Nd},aU K G H u bs t->bG p t=some c->∃ v l m r,bj H p u v/\bs=l++(m++r)/\aU K G H v m c /\
   ∀ {G' H':Hp} {m':List Addr} {c':Nd},af G G'->(∀ b,b ∈ l\/b ∈ r->H' b=H b)->aU K G' H' v m' c'->aU K G' H' u (l++(m'++r)) (bh p t c')
 | [],u,bs,tr,c,h,e=>by
   cases e
   exact ⟨u,[],bs,[],rfl,by simp,h,λg _ h'=>by simpa [bh] using h'⟩
 | i :: p,_,_,.l xs,c,.l (a:=a) (bs:=bs) hH r,e=>by
   rw [bG] at e
   cases ei:xs[i]? with
   | none=>rw [ei] at e; cases e
   | some x=>
     rw [ei] at e
     obtain ⟨v,l,m,q,h1,h2,h3,h4⟩:=r.part ei
     obtain ⟨w,l',m',q',g1,g2,g3,g4⟩:=aU.focus p h3 e
     refine ⟨w,a :: (l++l'),m',q'++q,⟨a,_,v,rfl,.inl hH,h1,g1⟩,by rw [h2,g2]; simp,g3,λ{G' H' m2 c2} g e2 h'=>?_⟩
     have k1:=g4 g (λb hb=>e2 b (hb.elim (λz=>.inl (List.mem_cons_of_mem _ (List.mem_append_right _ z))) λz=>.inr (List.mem_append_left _ z))) h'
     have k2:=h4 g (λb hb=>e2 b (hb.elim (λz=>.inl (List.mem_cons_of_mem _ (List.mem_append_left _ z))) λz=>.inr (List.mem_append_right _ z))) k1
     rw [bh,show xs.getD i (.d .non)=x by simp [List.getD,ei]]
     have k3:=aU.l (G:=G') (K:=K) (a:=a) (by rw [e2 a (.inl (List.mem_cons_self ..))]; exact hH) k2
     simpa using k3
 | i :: p,_,_,.t xs,c,.t (a:=a) (bs:=bs) hH r,e=>by
   rw [bG] at e
   cases ei:xs[i]? with
   | none=>rw [ei] at e; cases e
   | some x=>
     rw [ei] at e
     obtain ⟨v,l,m,q,h1,h2,h3,h4⟩:=r.part ei
     obtain ⟨w,l',m',q',g1,g2,g3,g4⟩:=aU.focus p h3 e
     refine ⟨w,a :: (l++l'),m',q'++q,⟨a,_,v,rfl,.inr hH,h1,g1⟩,by rw [h2,g2]; simp,g3,λ{G' H' m2 c2} g e2 h'=>?_⟩
     have k1:=g4 g (λb hb=>e2 b (hb.elim (λz=>.inl (List.mem_cons_of_mem _ (List.mem_append_right _ z))) λz=>.inr (List.mem_append_left _ z))) h'
     have k2:=h4 g (λb hb=>e2 b (hb.elim (λz=>.inl (List.mem_cons_of_mem _ (List.mem_append_left _ z))) λz=>.inr (List.mem_append_right _ z))) k1
     rw [bh,show xs.getD i (.d .non)=x by simp [List.getD,ei]]
     have k3:=aU.t (G:=G') (K:=K) (a:=a) (by rw [e2 a (.inl (List.mem_cons_self ..))]; exact hH) k2
     simpa using k3
theorem bj.det:∀ {p:List Nat} {u v w:V},bj H p u v->bj H p u w->v=w
 | [],_,_,_,h,h'=>h.trans h'.symm
 | _ :: _,_,_,_,⟨a,vs,x,h1,h2,h3,h4⟩,⟨b,us,y,g1,g2,g3,g4⟩=>by
   rw [h1] at g1
   cases g1
   have e:vs=us:=by
     rcases h2 with h2 | h2 <;> rcases g2 with g2 | g2 <;> rw [h2] at g2 <;> cases g2 <;> rfl
   subst e
   rw [h3] at g3
   cases g3
   exact h4.det g4
theorem aY.frame {G' H':Hp} (g:af G G') {v:Option V} {bs:List Addr}:∀ {s:Sl},(∀ b ∈ bs,H' b=H b)->aY K G H v bs s->aY K G' H' v bs s
 | .un,_,h=>h
 | .d _,_,⟨h,u,e1,h2⟩=>⟨h,u,e1,h2.mono g⟩
 | .o _,e,⟨a,vs,h1,h2,h3,h4⟩=>⟨a,vs,h1,h2,by rw [e a (by rw [h1]; exact List.mem_cons_self ..)]; exact h3,h4.mono g⟩
 | .n _,e,⟨h0,u,h1,h2⟩=>⟨h0,u,h1,h2.frame g e⟩
 | .x E,e,⟨a,o,h1,h2,h3,h4⟩=>⟨a,o,h1,h2,by rw [e a (by rw [h1]; exact List.mem_cons_self ..)]; exact h3,E.mono g h4⟩
theorem jG {l r b0 b1:List Addr} {a:Addr} (h:(l++((a :: b0)++r)).Nodup) (h1:b1.Nodup) (hb:∀ b ∈ b1,b ∈ b0\/(b ∉ l/\b ≠ a/\b ∉ r)):(l++((a :: b1)++r)).Nodup:=by
 obtain ⟨z1,z2,z3⟩:=List.nodup_append.mp h
 rw [List.cons_append] at z2
 obtain ⟨z4,z5⟩:=List.nodup_cons.mp z2
 obtain ⟨z6,z7,z8⟩:=List.nodup_append.mp z5
 refine List.nodup_append.mpr ⟨z1,?_,λx hx y hy=>?_⟩
 · rw [List.cons_append]
   refine List.nodup_cons.mpr ⟨λz=>?_,List.nodup_append.mpr ⟨h1,z7,λx hx y hy=>?_⟩⟩
   · rcases List.mem_append.mp z with z | z
     · rcases hb a z with q | q
       · exact z4 (List.mem_append_left _ q)
       · exact q.2.1 rfl
     · exact z4 (List.mem_append_right _ z)
   · rcases hb x hx with q | q
     · exact z8 x q y hy
     · exact λe=>q.2.2 (e ▸ hy)
 · rw [List.cons_append] at hy
   rcases List.mem_cons.mp hy with q | q
   · exact z3 x hx y (by rw [q]; exact List.mem_append_left _ (List.mem_cons_self ..))
   · rcases List.mem_append.mp q with q | q
     · rcases hb y q with q | q
       · exact z3 x hx y (List.mem_append_left _ (List.mem_cons_of_mem _ q))
       · exact λe=>q.1 (e ▸ hx)
     · exact z3 x hx y (List.mem_append_right _ q)
theorem Sta.putN {A:Addr->Prop} {H₀:Hp} {τ:List Sl} {B:Nat->List Addr} {σ:L2.St} {i:Nat} {t:Nd} {p:List Nat} {xs:List Nd} (S:Sta K A H₀ τ B σ H) (hi:τ[i]?=some (.n t)) (hp:bG p t=some (.l xs)) :
   ∃ u a vs bs0,(σ[i]?).join=some u/\bj H p u (.ref a)/\H a=some (.lst vs)/\aB K (hd H (own A B)) H vs bs0 xs/\bs0.Nodup/\own A B a/\(∀ b ∈ bs0,own A B b/\b ≠ a) /\
     ∀ {H1:Hp} {vs':List V} {bs1:List Addr} {xs':List Nd},af H H1->bs1.Nodup->(∀ b ∈ bs1,b ∈ bs0\/(H b=none/\∃ o,H1 b=some o))->aB K (hd (upd H1 a (.lst vs')) λb=>own A B b\/b ∈ bs1) (upd H1 a (.lst vs')) vs' bs1 xs' ->
       ∃ B',Sta K A H₀ (τ.set i (.n (bh p t (.l xs')))) B' σ (upd H1 a (.lst vs')):=by
 obtain ⟨nd,u,eu,ok⟩:=S.sl i _ hi
 obtain ⟨v,l,m,r,pv,hbs,okc,back⟩:=ok.focus p hp
 cases okc with
 | @l a vs bs0 _ hH r0=>
   have mem:∀ b,b ∈ l\/b=a\/b ∈ bs0\/b ∈ r->b ∈ B i:=λb hb=>by
     rw [hbs]
     rcases hb with z | z | z | z
     · exact List.mem_append_left _ z
     · exact List.mem_append_right _ (by rw [z]; exact List.mem_append_left _ (List.mem_cons_self ..))
     · exact List.mem_append_right _ (List.mem_append_left _ (List.mem_cons_of_mem _ z))
     · exact List.mem_append_right _ (List.mem_append_right _ z)
   have nd':=nd
   rw [hbs] at nd'
   obtain ⟨n1,n2,n3⟩:=List.nodup_append.mp nd'
   rw [List.cons_append] at n2
   obtain ⟨n4,n5⟩:=List.nodup_cons.mp n2
   obtain ⟨n6,_,_⟩:=List.nodup_append.mp n5
   have ha:own A B a:=.inr ⟨i,mem a (.inr (.inl rfl))⟩
   refine ⟨u,a,vs,bs0,eu,pv,hH,r0,n6,ha,λb hb=>⟨.inr ⟨i,mem b (.inr (.inr (.inl hb)))⟩,λz=>n4 (z ▸ List.mem_append_left _ hb)⟩,λ{H1 vs' bs1 xs'} e h1 hb hx=>?_⟩
   have keep:∀ b o,b ≠ a->H b=some o->upd H1 a (.lst vs') b=H b:=λb o ne h=>by rw [ai ne,e _ _ h,h]
   have la:∀ b,b ∈ l\/b ∈ r->b ≠ a:=λb hb z=>by
     rcases hb with q | q
     · exact n3 b q a (List.mem_append_left _ (List.mem_cons_self ..)) z
     · exact n4 (z ▸ List.mem_append_right _ q)
   have fresh:∀ b ∈ bs1,b ∈ bs0\/(b ∉ l/\b ≠ a/\b ∉ r):=λb hb1=>by
     rcases hb b hb1 with q | ⟨q,_⟩
     · exact .inl q
     · have no:∀ c,c ∈ B i->b ≠ c:=λc hc z=>by obtain ⟨o,hc⟩:=S.bd i c hc; rw [<- z,q] at hc; cases hc
       exact .inr ⟨λz=>no b (mem b (.inl z)) rfl,no a (mem a (.inr (.inl rfl))),λz=>no b (mem b (.inr (.inr (.inr z)))) rfl⟩
   have sub:∀ b,own A (upB B i (l++((a :: bs1)++r))) b->own A B b\/b ∈ bs1:=λb z=>by
     rcases z with z | ⟨j,z⟩
     · exact .inl (.inl z)
     · rcases aJ z with ⟨_,z⟩ | ⟨_,z⟩
       · rcases List.mem_append.mp z with z | z
         · exact .inl (.inr ⟨i,mem b (.inl z)⟩)
         · rw [List.cons_append] at z
           rcases List.mem_cons.mp z with z | z
           · exact .inl (z ▸ ha)
           · rcases List.mem_append.mp z with z | z
             · exact .inr z
             · exact .inl (.inr ⟨i,mem b (.inr (.inr (.inr z)))⟩)
       · exact .inl (.inr ⟨j,z⟩)
   have sm:af (hd H (own A B)) (hd (upd H1 a (.lst vs')) (own A (upB B i (l++((a :: bs1)++r))))):=λb o z=>by
     obtain ⟨z1,z2⟩:=ag.mp z
     refine ag.mpr ⟨λy=>?_,by rw [keep b o (λq=>z1 (q ▸ ha)) z2]; exact z2⟩
     rcases sub b y with y | y
     · exact z1 y
     · rcases hb b y with q | ⟨q,_⟩
       · exact z1 (.inr ⟨i,mem b (.inr (.inr (.inl q)))⟩)
       · rw [q] at z2; cases z2
   have hs:af H₀ (upd H1 a (.lst vs')):=λb o z=>by
     have f0:=S.fr i a (mem a (.inr (.inl rfl)))
     rw [ai (λq=>by rw [q,f0] at z; cases z)]
     exact e _ _ (S.same _ _ z)
   refine ⟨upB B i (l++((a :: bs1)++r)),hs,by rw [List.length_set,S.len],λj s hj=>?_,λj b z=>?_,λj k b z1 z2=>?_,S.ad,λj b z=>?_⟩
   · by_cases ej:j=i
     · subst ej
       have hl:=(List.getElem?_eq_some_iff.mp hi).1
       rw [List.getElem?_set_self hl] at hj
       cases hj
       unfold upB
       rw [if_pos rfl]
       refine ⟨jG nd' h1 fresh,u,eu,back sm (λb hb=>?_) (.l az (hx.frame (ao (af.refl _) sub) λ_ _=>rfl))⟩
       obtain ⟨o,q⟩:=S.bd j b (mem b (hb.elim .inl λz=>.inr (.inr (.inr z))))
       exact keep b o (la b hb) q
     · rw [List.getElem?_set_ne (λz=>ej z.symm)] at hj
       unfold upB
       rw [if_neg ej]
       refine (S.sl j s hj).frame sm λb hb=>?_
       obtain ⟨o,q⟩:=S.bd j b hb
       exact keep b o (λz=>ej (S.uq j i a (z ▸ hb) (mem a (.inr (.inl rfl))))) q
   · rcases aJ z with ⟨_,z⟩ | ⟨_,z⟩
     · rcases sub b (.inr ⟨i,by unfold upB; rw [if_pos rfl]; exact z⟩) with y | y
       · rcases List.mem_append.mp z with z | z
         · exact S.fr i b (mem b (.inl z))
         · rw [List.cons_append] at z
           rcases List.mem_cons.mp z with z | z
           · exact S.fr i b (mem b (.inr (.inl z)))
           · rcases List.mem_append.mp z with z | z
             · rcases hb b z with q | ⟨q,_⟩
               · exact S.fr i b (mem b (.inr (.inr (.inl q))))
               · exact S.same.free q
             · exact S.fr i b (mem b (.inr (.inr (.inr z))))
       · rcases hb b y with q | ⟨q,_⟩
         · exact S.fr i b (mem b (.inr (.inr (.inl q))))
         · exact S.same.free q
     · exact S.fr j b z
   · have inB:∀ {c},c ∈ l++((a :: bs1)++r)->c ∈ B i\/H c=none:=λ{c} z=>by
       rcases List.mem_append.mp z with z | z
       · exact .inl (mem c (.inl z))
       · rw [List.cons_append] at z
         rcases List.mem_cons.mp z with z | z
         · exact .inl (mem c (.inr (.inl z)))
         · rcases List.mem_append.mp z with z | z
           · rcases hb c z with q | ⟨q,_⟩
             · exact .inl (mem c (.inr (.inr (.inl q))))
             · exact .inr q
           · exact .inl (mem c (.inr (.inr (.inr z))))
     have cross:∀ {j},j ≠ i->b ∈ B j->b ∈ l++((a :: bs1)++r)->False:=λ{j} nj y1 y2=>by
       rcases inB y2 with q | q
       · exact nj (S.uq j i b y1 q)
       · obtain ⟨o,w⟩:=S.bd j b y1; rw [q] at w; cases w
     rcases aJ z1 with ⟨e1,y1⟩ | ⟨e1,y1⟩ <;> rcases aJ z2 with ⟨e2,y2⟩ | ⟨e2,y2⟩
     · exact e1.trans e2.symm
     · exact (cross e2 y2 y1).elim
     · exact (cross e1 y1 y2).elim
     · exact S.uq j k b y1 y2
   · rcases aJ z with ⟨_,z⟩ | ⟨_,z⟩
     · by_cases e':b=a
       · exact ⟨_,by rw [e']; exact az⟩
       · rw [ai e']
         have old:b ∈ B i->∃ o,H1 b=some o:=λq=>let ⟨o,w⟩:=S.bd i b q; ⟨o,e _ _ w⟩
         rcases List.mem_append.mp z with z | z
         · exact old (mem b (.inl z))
         · rw [List.cons_append] at z
           rcases List.mem_cons.mp z with z | z
           · exact absurd z e'
           · rcases List.mem_append.mp z with z | z
             · rcases hb b z with q | ⟨_,q⟩
               · exact old (mem b (.inr (.inr (.inl q))))
               · exact q
             · exact old (mem b (.inr (.inr (.inr z))))
     · by_cases e':b=a
       · exact ⟨_,by rw [e']; exact az⟩
       · rw [ai e']
         obtain ⟨o,w⟩:=S.bd j b z
         exact ⟨o,e _ _ w⟩
end
noncomputable def dP (K:PySem.W.Frag) (τ:List Sl) (i:Nat) (p:List Nat):TE:=λσ H Q=>∃ A H₀ B,Sta K A H₀ τ B σ H/\∀ u v H',(σ[i]?).join=some u->af H H'->bj H' p u v->Q v H'
noncomputable def jy:Sl->Option Nd
 | .un=>none
 | .d x=>some (.d x)
 | .o xs=>some (.l (xs.map .d))
 | .n t=>some t
 | .x _=>none
section
variable {K:PySem.W.Frag} {G H:Hp}
theorem mz:∀ {vs:List V} {xs:List D},aq K G vs xs->aB K G H vs [] (xs.map .d)
 | _,_,.nil=>.nil
 | _,_,.cons h r=>.cons (b1:=[]) (b2:=[]) (.d h) (mz r)
theorem aY.nd {v:V} {bs:List Addr} {s:Sl} {c:Nd} (h:aY K G H (some v) bs s) (e:jy s=some c):aU K G H v bs c/\bs.Nodup:=by
 cases s with
 | un=>cases e
 | d x=>cases e; obtain ⟨rfl,u,eu,d⟩:=h; cases eu; exact ⟨.d d,List.nodup_nil⟩
 | o xs=>cases e; obtain ⟨a,vs,rfl,e2,h3,h4⟩:=h; cases e2; exact ⟨.l h3 (mz h4),by simp⟩
 | n t=>cases e; obtain ⟨h0,u,eu,h2⟩:=h; cases eu; exact ⟨h2,h0⟩
 | x E=>cases e
theorem aB.snoc {v:V} {c:Nd} {b2:List Addr} (h:aU K G H v b2 c):∀ {vs:List V} {bs:List Addr} {xs:List Nd},aB K G H vs bs xs->aB K G H (vs++[v]) (bs++b2) (xs++[c])
 | _,_,_,.nil=>by have:=aB.cons h .nil; rw [List.append_nil] at this; exact this
 | _,_,_,.cons h1 r=>by rw [List.append_assoc]; exact .cons h1 (aB.snoc h r)
theorem Sta.nd {A:Addr->Prop} {H₀:Hp} {τ:List Sl} {B:Nat->List Addr} {σ:L2.St} (S:Sta K A H₀ τ B σ H) {i:Nat} {s:Sl} {c:Nd} (hi:τ[i]?=some s) (hc:jy s=some c):Sta K A H₀ (τ.set i (.n c)) (upB B i (B i)) σ H:=
 S.less (λ_ z=>z) λG' g _=>by
   have q:=S.sl i s hi
   obtain ⟨u,e⟩:∃ u,(σ[i]?).join=some u:=by
     cases s with
     | un=>cases hc
     | d x=>obtain ⟨_,u,e,_⟩:=q; exact ⟨u,e⟩
     | o xs=>obtain ⟨_,_,_,e,_⟩:=q; exact ⟨_,e⟩
     | n t=>obtain ⟨_,u,e,_⟩:=q; exact ⟨u,e⟩
     | x E=>cases hc
   rw [e] at q ⊢
   obtain ⟨q1,q2⟩:=q.nd hc
   exact ⟨q2,u,rfl,q1.frame g λ_ _=>rfl⟩
end
section
variable {X:Cx} {C:Bool} {τ:List Sl} {x y z:D} {a b e o ix:Expr} {es:List Expr} {pos p q:Pos} {k:Nat} {s:Sl} {N:Po} {rest:List Stmt} {i:Nat} {t c:Nd} {pt:List Nat} {xs:List Nd} {j:Int} {m:Nat}
theorem ui (i:Nat) {s:Sl} {c:Nd} (h:PSs X rest (dS X.K (τ.set i (.n c)) N)) (hi:τ[i]?=some s:=by rfl) (hc:jy s=some c:=by rfl):PSs X rest (dS X.K τ N):=jk h λD σ H ⟨A,H₀,B,S,Me⟩=>⟨A,H₀,_,S.nd hi hc,Me⟩
theorem jW (i:Nat) {n:Str} {t:Nd} (h:τ[i]?=some (.n t):=by rfl) (hN:X.N[i]?=some n:=by rfl) (hv:Vis X.env.scope n:=by first | exact Or.inl rfl | exact Or.inr (Or.inl rfl) | exact Or.inr (Or.inr rfl))
   (hd:(n == ("__debug__" : Str))=false:=by decide) (hcd:(n == ("__classdict__" : Str))=false:=by decide):PE X (.Name n pos) (dP X.K τ i []):=peW (a9 hN hv hd hcd) λσ H Q ⟨A,H₀,B,S,k⟩=>by
 obtain ⟨_,u,e,_⟩:=S.sl i _ h
 exact ⟨u,slot_of e,k u u H e (af.refl _) rfl⟩
theorem Sta.at {K:PySem.W.Frag} {A:Addr->Prop} {H₀ H:Hp} {τ:List Sl} {B:Nat->List Addr} {σ:L2.St} (S:Sta K A H₀ τ B σ H) (hi:τ[i]?=some (.n t)) (hp:bG pt t=some c):∃ u v m,(σ[i]?).join=some u/\bj H pt u v/\aU K (hd H (own A B)) H v m c/\∀ b ∈ m,b ∈ B i:=by
 obtain ⟨_,u,e,ok⟩:=S.sl i _ hi
 obtain ⟨v,l,m,r,h1,h2,h3,_⟩:=ok.focus pt hp
 exact ⟨u,v,m,e,h1,h3,λb hb=>by rw [h2]; exact List.mem_append_right _ (List.mem_append_left _ hb)⟩
theorem kC {K:PySem.W.Frag} {G H:Hp} {vs:List V} {bs:List Addr} {m:Nat} (r:aB K G H vs bs xs) (hm:m < xs.length):∃ v,vs[m]?=some v:=⟨vs[m]'(by rw [r.length]; exact hm),List.getElem?_eq_getElem _⟩
theorem mh {n m:Nat} {j:Int} (h:ixN n j=some m):m < n:=by
 unfold ixN at h
 split at h
 · split at h
   · cases h; omega
   · cases h
 · split at h
   · cases h; omega
   · cases h
theorem sx (ha:PE X a (dP X.K τ i pt)) (hb:PE X b (dE X.K false τ (.d (.int j)))) (hi:τ[i]?=some (.n t)) (hp:bG pt t=some (.l xs)) (hj:ixN xs.length j=some m) (hs:fq b:=by exact λ_ _=>rfl):PE X (.Subscript a b pos) (dP X.K τ i (pt++[m])):=
 peW (dh iW ha hb hs) λσ H Q ⟨A,H₀,B,S,k⟩=>⟨A,H₀,B,S,λu v H1 eu e1 pv=>aQ (S.mono e1) λw H2 e2 d2=>by
   cases d2
   obtain ⟨u',v',m',eu',pv',ok,_⟩:=((S.mono e1).mono e2).at hi hp
   rw [eu] at eu'
   cases eu'
   obtain rfl:=(pv.mono e2).det pv'
   cases ok with
   | @l ad vs _ _ hH r=>
     obtain ⟨x,hx⟩:=kC r (mh hj)
     exact ⟨ad,vs,j,x,rfl,rfl,SqL.of hH,by unfold atI; rw [r.length,hj]; exact hx,k u x H2 eu (e1.trans e2) (pv'.snoc (.inl hH) hx)⟩⟩
theorem mC {ap cp:Pos} (ho:PE X o (dP X.K τ i pt)) (he:PE X e (dE X.K true τ s)) (hi:τ[i]?=some (.n t)) (hp:bG pt t=some (.l xs)) (hc:jy s=some c) (hl:xs.length < 1000000) (hr:PSs X rest (dS X.K (τ.set i (.n (bh pt t (.l (xs++[c]))))) N))
   (hfew:((backTo cp (starEach [e] X.env)).all (λx=>!x.1) && (backToKw cp (keywordEach [] X.env)).all (λx=>x.1.isSome) && decide (([e]:List Expr).length + ([]:List Keyword).length + (if ([]:List Keyword).isEmpty then 0 else 1) < 30))=true:=by rfl)
   (hline:(ap.endLine == cp.line)=true:=by rfl) (hst:starEach [e] X.env=(false,eval e X.env) :: starEach [] X.env:=by rfl) (hpl:(backTo cp (starEach [] X.env)).any (·.1)=false:=by rfl)
   (hs:swapsWith (.Call (.Attribute o "append" ap) [e] [] cp) none pos.line X.env=pure false:=by rfl) (hbase:attributeBase o "append" X.env (eval o X.env)=eval o X.env:=by rfl) :
   PSs X (.Expr (.Call (.Attribute o "append" ap) [e] [] cp) pos :: rest) (dS X.K τ N):=
 aN (M:=(·=τ.set i (.n (bh pt t (.l (xs++[c])))))) (psW (cX (mR PySem.F.plainAttrs_list PySem.F.slot_list_append PySem.F.type_list_append cb ho (av he aV hst) hbase hfew hline hst hpl) hs) λD σ H ⟨A,H₀,B,S,Me⟩=>by
   refine ⟨A,H₀,B,S,λu v H1 eu e1 pv=>?_⟩
   have S1:=S.mono e1
   obtain ⟨u',l,vs,bs0,eu',pv',hH,r0,nd0,hal,hown,put⟩:=S1.putN hi hp
   rw [eu] at eu'
   cases eu'
   obtain rfl:=pv.det pv'
   refine ⟨.inl ⟨rfl,_,SqL.of hH⟩,A,H₀,B,S1,λw H2 bs e2 hf hw=>⟨l,vs,w,rfl,rfl,e2 _ _ hH,by rw [r0.length]; exact Nat.lt_trans hl (by decide),?_⟩⟩
   obtain ⟨nw,ndw⟩:=hw.nd hc
   have off:∀ b ∈ bs,b ≠ l:=λb hb z=>by rw [z] at hb; rw [(hf l hb).1] at hH; cases hH
   have sm:af (hd H2 λb=>own A B b\/b ∈ bs) (hd (upd H2 l (.lst (vs++[w]))) λb=>own A B b\/b ∈ bs0++bs):=λb o z=>by
     obtain ⟨z1,z2⟩:=ag.mp z
     refine ag.mpr ⟨λy=>z1 ?_,by rw [ai (λy:b=l=>z1 (.inl (by rw [y]; exact hal)))]; exact z2⟩
     rcases y with y | y
     · exact .inl y
     · exact (List.mem_append.mp y).elim (λz=>.inl (hown b z).1) .inr
   have sm0:af (hd H1 (own A B)) (hd (upd H2 l (.lst (vs++[w]))) λb=>own A B b\/b ∈ bs0++bs):=λb o z=>by
     obtain ⟨z1,z2⟩:=ag.mp z
     refine ag.mpr ⟨λy=>?_,by rw [ai (λy:b=l=>z1 (by rw [y]; exact hal))]; exact e2 _ _ z2⟩
     rcases y with y | y
     · exact z1 y
     · rcases List.mem_append.mp y with y | y
       · exact z1 (hown b y).1
       · rw [(hf b y).1] at z2; cases z2
   obtain ⟨B',S'⟩:=put (H1:=H2) (vs':=vs++[w]) (bs1:=bs0++bs) (xs':=xs++[c]) e2 (List.nodup_append.mpr ⟨nd0,ndw,λx hx y hy z=>by
       obtain ⟨o,q⟩:=r0.some_of x hx
       rw [z,(hf y hy).1] at q; cases q⟩)
     (λb hb=>(List.mem_append.mp hb).elim .inl λz=>.inr (hf b z))
     (aB.snoc (nw.frame sm λb hb=>ai (off b hb)) (r0.frame sm0 λb hb=>by
       obtain ⟨o,q⟩:=r0.some_of b hb
       rw [ai (hown b hb).2,e2 _ _ q,q]))
   exact Me.nx _ B' _ _ rfl S') λ_ e=>e ▸ hr
end
end Hy
namespace Ev
open PySem PySem.Spec PyProof.Rows L2
noncomputable def bad:Str:=⟨#[0x110000]⟩
mutual
noncomputable def eqD:D->D->Bool
 | .non,.non=>true
 | .bl a,.bl b=>a == b
 | .bl a,.int j=>(if a then 1 else 0) == j
 | .int i,.bl b=>i == (if b then 1 else 0)
 | .int a,.int b=>a == b
 | .str a,.str b=>a == b
 | .tup xs,.tup ys=>d9 xs ys
 | .lst xs,.lst ys=>d9 xs ys
 | .box _,.box _=>true
 | .box _,.str b=>bad == b
 | .str a,.box _=>a == bad
 | .box _,.non | .box _,.bl _ | .box _,.int _ | .box _,.tup _ | .box _,.lst _=>false
 | .non,.box _ | .bl _,.box _ | .int _,.box _ | .tup _,.box _ | .lst _,.box _=>false
 | .non,.bl _ | .non,.int _ | .non,.str _ | .non,.tup _ | .non,.lst _=>false
 | .bl _,.non | .bl _,.str _ | .bl _,.tup _ | .bl _,.lst _=>false
 | .int _,.non | .int _,.str _ | .int _,.tup _ | .int _,.lst _=>false
 | .str _,.non | .str _,.bl _ | .str _,.int _ | .str _,.tup _ | .str _,.lst _=>false
 | .tup _,.non | .tup _,.bl _ | .tup _,.int _ | .tup _,.str _ | .tup _,.lst _=>false
 | .lst _,.non | .lst _,.bl _ | .lst _,.int _ | .lst _,.str _ | .lst _,.tup _=>false
noncomputable def d9:List D->List D->Bool
 | [],[]=>true
 | x :: xs,y :: ys=>eqD x y && d9 xs ys
 | [],_ :: _=>false
 | _ :: _,[]=>false
end
mutual
noncomputable def toP:D->PyData
 | .non=>.none
 | .bl b=>.bool b
 | .int i=>.int i
 | .str x=>.str x
 | .tup xs=>.tuple (cZ xs)
 | .lst xs=>.list (cZ xs)
 | .box _=>.str bad
noncomputable def cZ:List D->List PyData
 | []=>[]
 | x :: xs=>toP x :: cZ xs
end
mutual
noncomputable def cln:D->Bool
 | .str x=>PyData.strOk x
 | .tup xs=>bO xs
 | .lst xs=>bO xs
 | .box _=>false
 | .non | .bl _ | .int _=>true
noncomputable def bO:List D->Bool
 | []=>true
 | x :: xs=>cln x && bO xs
end
mutual
noncomputable def dep:D->Nat
 | .tup xs=>bX xs + 1
 | .lst xs=>bX xs + 1
 | .non | .bl _ | .int _ | .str _ | .box _=>0
noncomputable def bX:List D->Nat
 | []=>0
 | x :: xs=>max (dep x) (bX xs)
end
noncomputable def bM (x:D):Prop:=cln x=true/\dep x<=64
noncomputable instance (x:D):Decidable (bM x):=inferInstanceAs (Decidable (_/\_))
mutual
theorem ed:∀ x y:D,PyData.eqv (toP x) (toP y)=eqD x y
 | .non,y=>by cases y <;> simp [toP,PyData.eqv,eqD]
 | .bl a,y=>by cases y <;> simp [toP,PyData.eqv,eqD]
 | .int a,y=>by cases y <;> simp [toP,PyData.eqv,eqD]
 | .str a,y=>by cases y <;> simp [toP,PyData.eqv,eqD]
 | .tup xs,.tup ys=>by simp only [toP,PyData.eqv,eqD]; exact gq xs ys
 | .lst xs,.lst ys=>by simp only [toP,PyData.eqv,eqD]; exact gq xs ys
 | .tup xs,.non=>by simp [toP,PyData.eqv,eqD]
 | .tup xs,.bl _=>by simp [toP,PyData.eqv,eqD]
 | .tup xs,.int _=>by simp [toP,PyData.eqv,eqD]
 | .tup xs,.str _=>by simp [toP,PyData.eqv,eqD]
 | .tup xs,.lst _=>by simp [toP,PyData.eqv,eqD]
 | .lst xs,.non=>by simp [toP,PyData.eqv,eqD]
 | .lst xs,.bl _=>by simp [toP,PyData.eqv,eqD]
 | .lst xs,.int _=>by simp [toP,PyData.eqv,eqD]
 | .lst xs,.str _=>by simp [toP,PyData.eqv,eqD]
 | .lst xs,.tup _=>by simp [toP,PyData.eqv,eqD]
 | .tup xs,.box _=>by simp [toP,PyData.eqv,eqD]
 | .lst xs,.box _=>by simp [toP,PyData.eqv,eqD]
 | .box _,y=>by cases y <;> simp [toP,PyData.eqv,eqD]
theorem gq:∀ xs ys:List D,PyData.eqvAll (cZ xs) (cZ ys)=d9 xs ys
 | [],[]=>by simp [cZ,PyData.eqvAll,d9]
 | [],_ :: _=>by simp [cZ,PyData.eqvAll,d9]
 | _ :: _,[]=>by simp [cZ,PyData.eqvAll,d9]
 | x :: xs,y :: ys=>by simp only [cZ,PyData.eqvAll,d9]; rw [ed x y,gq xs ys]
end
mutual
theorem dW:∀ x:D,(toP x).canLay0=cln x
 | .non=>by simp [toP,PyData.canLay0,cln]
 | .bl _=>by simp [toP,PyData.canLay0,cln]
 | .int _=>by simp [toP,PyData.canLay0,cln]
 | .str _=>by simp [toP,PyData.canLay0,cln]
 | .tup xs=>by simp only [toP,PyData.canLay0,cln]; exact fR xs
 | .lst xs=>by simp only [toP,PyData.canLay0,cln]; exact fR xs
 | .box _=>by simp only [toP,PyData.canLay0,cln]; decide +kernel
theorem fR:∀ xs:List D,PyData.canLayAll0 (cZ xs)=bO xs
 | []=>by simp [cZ,PyData.canLayAll0,bO]
 | x :: xs=>by simp only [cZ,PyData.canLayAll0,bO]; rw [dW x,fR xs]
end
mutual
theorem fu:∀ x:D,(toP x).depth=dep x
 | .non=>by simp [toP,PyData.depth,dep]
 | .bl _=>by simp [toP,PyData.depth,dep]
 | .int _=>by simp [toP,PyData.depth,dep]
 | .str _=>by simp [toP,PyData.depth,dep]
 | .tup xs=>by simp only [toP,PyData.depth,dep]; rw [fE xs]
 | .lst xs=>by simp only [toP,PyData.depth,dep]; rw [fE xs]
 | .box _=>by simp [toP,PyData.depth,dep]
theorem fE:∀ xs:List D,PyData.depthAll (cZ xs)=bX xs
 | []=>by simp [cZ,PyData.depthAll,bX]
 | x :: xs=>by simp only [cZ,PyData.depthAll,bX]; rw [fu x,fE xs]
end
theorem dC {x:D} (h:bM x):SeqAt.shaped (toP x)=true:=by
 unfold SeqAt.shaped
 rw [dW,fu,h.1,Bool.true_and]
 exact decide_eq_true h.2
section
variable {X:Cx} {pins:List (Addr × Obj)} {σ:L2.St} {H G:Hp} {s:Shared}
mutual
theorem bI (I:Inv X pins σ H s) (e:af G H):∀ {v:V} {d:D} {u:Value},Den X.K G v d->RelV v u->cln d=true->∃ as,Reads s.heap u (toP d) as
 | _,_,_,.non,r,_=>by cases r; exact ⟨_,.none⟩
 | _,_,_,.bl,r,_=>by cases r; exact ⟨_,.bool _⟩
 | _,_,_,.int,r,_=>by obtain ⟨t,rfl⟩:=r; exact ⟨_,.int _ _⟩
 | _,_,_,.str,r,_=>by obtain ⟨t,rfl⟩:=r; exact ⟨_,.str _ _⟩
 | _,_,_,.tup h q,r,c=>by
   cases r
   obtain ⟨its,rv,⟨o,h1,h2,n,h3⟩,_⟩:=I.tuple (aC e h)
   obtain ⟨as,z⟩:=eP I e q rv (by rw [cln] at c; exact c)
   exact ⟨_,.tuple h1 h2 h3 (by simpa using z)⟩
 | _,_,_,.lst h q,r,c=>by
   cases r
   obtain ⟨its,rv,⟨o,n,h1,h2,_,h3⟩,_⟩:=I.list (ay e h)
   obtain ⟨as,z⟩:=eP I e q rv (by rw [cln] at c; exact c)
   exact ⟨_,.list h1 h2 h3 (by simpa using z)⟩
 | _,_,_,.box _,_,c=>by rw [cln] at c; cases c
theorem eP (I:Inv X pins σ H s) (e:af G H):∀ {vs:List V} {ds:List D} {us:List Value},aq X.K G vs ds->Vals vs us->bO ds=true->∃ as,ReadsAll s.heap us (cZ ds) as
 | _,_,_,.nil,.nil,_=>⟨_,.nil⟩
 | _,_,_,.cons h q,.cons r rs,c=>by
   rw [bO,Bool.and_eq_true] at c
   obtain ⟨as,z⟩:=bI I e h r c.1
   obtain ⟨bs,z'⟩:=eP I e q rs c.2
   exact ⟨_,.cons z z'⟩
end
end
end Ev
namespace Hy
open PySem PySem.Spec PyProof.Rows L2
open Ev (D Den aq ah aC ay Itz rD jV eqD bM bI dC ed)
section
variable {X:Cx} {C:Bool} {τ:List Sl} {x y z:D} {a b e c tg it elt:Expr} {es ifs:List Expr} {pos p q:Pos} {k:Nat} {s:Sl} {N:Po} {rest body:List Stmt} {ds xs ys:List D} {i j:Int} {scope:Scope}
noncomputable def fT (xs ys:List D):List D:=(xs.zip ys).map λp=>.tup [p.1,p.2]
theorem bZ:(fT xs ys).length=min xs.length ys.length:=by simp [fT]
theorem kF (i:Nat) (h:i < (fT xs ys).length):(fT xs ys)[i]=.tup [xs.getD i .non,ys.getD i .non]:=by
 rw [bZ] at h
 simp [fT,show i < xs.length by omega,show i < ys.length by omega]
theorem qG {K:PySem.W.Frag} {G:Hp} {a b:Addr} {vs ws:List V} (h:SqL K G a vs) (r:aq K G vs xs) (h':SqL K G b ws) (r':aq K G ws ys):Yl K (Itz K a b) (fT xs ys) G:=by
 intro H sg
 have hl:=r.length
 have hl':=r'.length
 refine ⟨λi hi=>⟨vs,ws,ay sg h,ay sg h',by rw [bZ] at hi; omega⟩,λi hi=>?_⟩
 have hi':=hi
 rw [bZ] at hi'
 obtain ⟨v,hv,dv⟩:=r.get (List.getElem?_eq_getElem (show i < xs.length by omega))
 obtain ⟨w,hw,dw⟩:=r'.get (List.getElem?_eq_getElem (show i < ys.length by omega))
 refine ⟨⟨vs,ws,v,w,ay sg h,ay sg h',hv,hw⟩,λy H' ⟨p,x1,x2,hp,e0,e1,e2,e3⟩=>?_⟩
 subst e0 e1
 have ex:x1=v:=by have:=e2 vs (ay sg h); rw [hv] at this; exact (Option.some.inj this).symm
 have ey:x2=w:=by have:=e3 ws (ay sg h'); rw [hw] at this; exact (Option.some.inj this).symm
 subst ex ey
 refine ⟨ah hp _,λM hM sv=>?_⟩
 rw [kF,show xs.getD i .non=xs[i] by simp [show i < xs.length by omega],show ys.getD i .non=ys[i] by simp [show i < ys.length by omega]]
 have up:=sv.trans (ao (ah hp (.tup [x1,x2])) λ_ z=>z)
 exact .tup (SqT.of (ij hM hp)) (.cons (dv.mono up) (.cons (dw.mono up) .nil))
theorem tM {ts:List Expr} {m:Nat} {tp:Pos} (B:Bk X k) (h:PE X a (dE X.K true τ (.d (.lst xs)))) (h':PE X b (dE X.K true τ (.d (.lst ys)))) (hg:Gl X "zip":=by rfl) (hs:starEach [a,b] X.env=(false,eval a X.env) :: starEach [b] X.env:=by rfl) (hs2:starEach [b] X.env=[(false,eval b X.env)]:=by rfl) :
   PI X (.Tuple ts m tp) (.Call (.Name "zip" p) [a,b] [] pos) (dI X.K τ (fT xs ys)):=
 piW (jV B.calm hg (B.blt _ (by decide)) (ae h (ae h' ar hs2) hs) hs hs2) λσ H R ⟨A,H₀,B,S,k⟩=>bQ S λvs H1 e1 d1=>by
   cases d1 with
   | cons d r=>
     cases r with
     | cons d' r=>
       cases r
       cases d with
       | lst h r=>cases d' with
         | lst h' r'=>exact ⟨_,_,rfl,⟨_,ay aD h⟩,⟨_,ay aD h'⟩,k _ H1 e1 (qG h r h' r')⟩
theorem q9 (hu:X.A.units + 64 < cLine):OpR X (compareOp .Eq) (λx y H Q=>∃ G d e,af G H/\Den X.K G x d/\Den X.K G y e/\bM d/\bM e/\Q (.bl (eqD d e)) H):=by
 intro pins s σ H x y v u Q I rx ry ⟨G,d,e,sg,dx,dy,o1,o2,q⟩
 obtain ⟨as,r1⟩:=bI I sg dx rx o1.1
 obtain ⟨bs,r2⟩:=bI I sg dy ry o2.1
 exact eq_dataH r1 r2 (dC o1) (dC o2) hu ⟨.bl _,H,I,by rw [ed]; rfl,q⟩
theorem sy (B:Bk X k) (h1:bM x) (h2:bM y):bN X (compareOp .Eq) x y (.bl (eqD x y)):=⟨_,q9 B.room.units,λM v w H Q _ d1 d2 q=>⟨_,x,y,aD,d1,d2,h1,h2,q _ H (af.refl _) .bl⟩⟩
variable {u v:Str}
theorem eW:∀ {bs:List Bool} {us:List Value},Vals (bs.map V.bl) us->us=bs.map Value.bool
 | [],_,h=>by cases h; rfl
 | b :: bs,_,h=>by
   cases h with
   | cons rv rs=>rw [eW rs,show _=Value.bool b from rv]; rfl
theorem mW (hc:X.calm=true):cR X (.builtin "all") (λxs H Q=>∃ (p:Addr) (bs:List Bool),xs=[.ref p]/\SqL X.K H p (bs.map V.bl)/\Q (.bl (bs.all id)) H):=by
 intro pins s σ H xs us Q I r q
 obtain ⟨p,bs,rfl,h,q⟩:=q
 obtain ⟨u,rfl,ru⟩:∃ u,us=[u]/\RelV (.ref p) u:=by
   cases r with
   | cons r1 r=>cases r; exact ⟨_,rfl,r1⟩
 cases (show u=Value.ref _ from ru)
 obtain ⟨its,rv,pl,hz⟩:=I.list h
 obtain rfl:=eW rv
 have lt:∀ a,s.heap.IsList a (bs.map Value.bool).toArray->a ≠ s.heap.objs.size:=λa ⟨o,z,_⟩=>Nat.ne_of_lt (Heap.lt_size z)
 refine call_all_walk (wpAny_pyIter_list pl.isList ⟨_,_,_,_,_,_,λi=>(bs.map Value.bool)[i]? == some (Value.bool true),rfl,Walks.list (A:=X.A.in1) (I.ok.hd hc) _ _ (lt _ pl.isList) (bs.map Value.bool).toArray,⟨⟨_,Heap.get?_push_size _ rfl,rfl,rfl⟩,?_⟩,λi v s' Q' E' hP hQ=>?_,λh' tk hk=>?_⟩)
 · obtain ⟨o,z1,z2⟩:=pl.isList
   exact ⟨o,Heap.get?_push_of_some _ z1,z2⟩
 · have hP':(bs.map Value.bool)[i]?=some v:=by simpa using hP
   obtain ⟨c,_,rfl⟩:=List.mem_map.mp (List.mem_of_getElem? hP')
   refine wpAny_truthy_bool ?_
   have hQ:Q' ((bs.map Value.bool)[i]? == some (Value.bool true)) s':=hQ
   rw [hP'] at hQ
   cases c
   · exact hQ
   · exact hQ
 · refine ⟨.bl (bs.all id),H,I.kept (t':=tk) λb' o z=>?_,?_,q⟩
   · refine hk b' o (λhm=>?_) (Heap.get?_push_of_some _ z)
     have:b'=s.heap.objs.size:=by simpa using hm
     exact absurd (Heap.lt_size z) (by rw [this]; exact Nat.lt_irrefl _)
   · have e:∀ bs:List Bool,bs.all id=(List.range (bs.map Value.bool).toArray.size).all λi=>(bs.map Value.bool)[i]? == some (Value.bool true):=λbs=>by
       rw [List.size_toArray,List.length_map]
       induction bs with
       | nil=>rfl
       | cons b bs ih=>
         rw [List.all_cons,ih,List.length_cons,List.range_succ_eq_map,List.all_cons,List.all_map]
         congr 1
         cases b <;> rfl
     rw [e]; rfl
theorem kK {K:PySem.W.Frag} {H:Hp}:∀ {vs:List V} {bs:List Bool},aq K H vs (bs.map .bl)->vs=bs.map V.bl
 | _,[],h=>by cases h; rfl
 | _,_ :: _,h=>by
   cases h with
   | cons d r=>cases d; rw [kK r]; rfl
theorem sD (hc:X.calm=true) (bs:List Bool) (hx:xs=bs.map .bl):jw X (.builtin "all") [.lst xs] (.d (.bl (bs.all id))):=⟨_,mW hc,λM vs H Q _ d q=>by
 subst hx
 cases d with
 | cons d r=>
   cases r
   cases d with
   | lst h r=>
     cases kK r
     exact ⟨_,_,rfl,ay aD h,q _ H [] (af.refl _) dz (eN .bl)⟩⟩
end
end Hy
namespace Hy
open PySem PySem.Spec PyProof.Rows L2
open Ev (D Den aq ah aC ay aw bE bP PTs bc bY)
section
variable {X:Cx} {C:Bool} {τ:List Sl} {x y z:D} {a b e c tg it elt o:Expr} {es ifs:List Expr} {pos p q:Pos} {k:Nat} {s:Sl} {N:Po} {rest body:List Stmt} {ds xs ys:List D} {i j:Int} {scope:Scope}
end
section
variable {X:Cx} {C:Bool} {τ τ':List Sl} {x y z:D} {a b e c tg it elt o ix:Expr} {es ifs:List Expr} {pos p q:Pos} {k:Nat} {s:Sl} {N:Po} {rest body:List Stmt} {ds xs ys:List D} {i:Nat} {j:Int} {scope:Scope}
noncomputable def dGs (K:PySem.W.Frag) (τ:List Sl) (xs:List D) (τ':List Sl):TGs:=λvs σ H Q=>∃ A H₀ B,Sta K A H₀ τ B σ H/\aq K (hd H (own A B)) vs xs/\∀ σ' B',Sta K A H₀ τ' B' σ' H->Q σ' H
theorem uo {es:List Expr} {t t':TGs} (h:PGs X es t) (f:∀ v σ H Q,t' v σ H Q->t v σ H Q):PGs X es t':=λpins s σ H v u Q I r q=>h pins s σ H v u Q I r (f v σ H Q q)
theorem ue (i:Nat) {n:Str} (hN:X.N.Nodup) (h:PGs X es (dGs X.K (τ.set i (.d x)) xs τ')) (hi:X.N[i]?=some n:=by rfl) (hx:Loc X.env.scope n:=by first | exact .inl rfl | exact .inr rfl) (hf:X.fn n=true\/X.env.scope.names.lookup n=some .local:=by first | exact .inl rfl | exact .inr rfl | assumption):PGs X (.Name n p :: es) (dGs X.K τ (x :: xs) τ'):=
 uo (cH (bz (i:=i) hN hi hx hf) h) λv σ H Q ⟨A,H₀,B,S,d,k⟩=>by
   cases d with
   | cons d r=>
     have sub:∀ b,own A (upB B i []) b->own A B b:=λb z=>z.elim .inl λ⟨j,z⟩=>(aJ z).elim (λz=>nomatch z.2) λz=>.inr ⟨j,z.2⟩
     exact ⟨_,_,rfl,A,H₀,_,S.set (af.refl _) (bs:=[]) (λ_ z=>nomatch z) (eN d),r.mono (ao (af.refl _) sub),k⟩
theorem uB (T:Nat->List Sl) {f:Nat->D} (B:Bk X k) (hi:PI X tg it (dI X.K τ xs)) (hl:xs.length < 1000000) (hT:∀ i,(T i).length=(aI τ (bCp X.N scope)++[Sl.un]).length/\∀ (l:Nat) (x:D),(aI τ (bCp X.N scope)++[Sl.un])[l]?=some (.d x)->(T i)[l]?=some (.d x))
   (hg:∀ i (h:i < xs.length) s H fp,PG (cpX X s H scope fp) tg (dG X.K (aI τ (bCp X.N scope)++[.un]) xs[i] (T i)))
   (he:∀ i,i < xs.length->∀ s H fp,PE (cpX X s H scope fp) elt (dE X.K true (T i) (.d (f i)))) (hc:bOk X.env.scope scope=true:=by kernel_rfl) (hs:∀ x,foldedSetIterable it X.env x=pure x:=by intro _; rfl) :
   Cmp X elt tg it [] scope τ ((List.range xs.length).map f):=by
 have h:=jM (T:=T) (t:=λ_=>true) (f:=f) (elt:=elt) (ifs:=[]) hc hi hT hg (λi h s H fp=>λpins s' σ H' Q I ⟨A,H₀,B,S,q⟩=>ft pins s' σ H' Q I (q H' (af.refl _))) (λi h _ s H fp=>he i h s H fp) hl hs
 rwa [List.filter_eq_self.mpr λ_ _=>rfl] at h
theorem oI {c:Expr} {t:TT} (h:PT X c t):PTs X [c] t:=λpins s σ H Q I q=>wpAny_tests_one (h pins s σ H Q I q)
structure oP (X:Cx) (elt tg it:Expr) (ifs:List Expr) (scope:Scope) (τ:List Sl) (ns:List Nd):Prop where
 ex:∃ (In:TG->TT->TE->Prop) (caps:List (Option Nat)) (N:List Str) (wi:TI),bP X scope N caps/\PI X tg it wi/\(∀ g tt te,In g tt te->∀ s H fp,PG (aw X s H scope N fp) tg g/\PTs (aw X s H scope N fp) ifs tt/\PE (aw X s H scope N fp) elt te) /\
   ∀ C σ H Q,dE X.K C τ (.n (.l ns)) σ H Q->bY In caps wi σ H Q
 hs:∀ x,foldedSetIterable it X.env x=pure x
theorem sO {ns:List Nd} (h:oP X elt tg it ifs scope τ ns):PE X (.ListComp elt [⟨tg,it,ifs,0⟩] scope pos) (dE X.K C τ (.n (.l ns))):=by
 obtain ⟨In,caps,N,wi,h1,h2,h3,h4⟩:=h.ex
 exact peW (bc h1 h2 h.hs h3) (h4 C)
theorem pQ {T:Nat->List Sl} {f:Nat->Nd} {S':Nat->Sl} (B:Bk X k) (hc:bOk X.env.scope scope=true) (hi:PI X tg it (dI X.K τ xs)) (hT:∀ i,(T i).length=(aI τ (bCp X.N scope)++[Sl.un]).length/\∀ (l:Nat) (x:D),(aI τ (bCp X.N scope)++[Sl.un])[l]?=some (.d x)->(T i)[l]?=some (.d x))
   (hg:∀ i (h:i < xs.length) s H fp,PG (cpX X s H scope fp) tg (dG X.K (aI τ (bCp X.N scope)++[.un]) xs[i] (T i)))
   (he:∀ i,i < xs.length->∀ s H fp,PE (cpX X s H scope fp) elt (dE X.K true (T i) (S' i))) (hn:∀ i,i < xs.length->jy (S' i)=some (f i)) (hl:xs.length < 1000000) (hs:∀ x,foldedSetIterable it X.env x=pure x:=by intro _; rfl) :
   oP X elt tg it [] scope τ ((List.range xs.length).map f):=by
 obtain ⟨cap,_⟩:=cu hc
 generalize hτ:aI τ (bCp X.N scope)++[Sl.un]=τb at *
 refine ⟨⟨λg tt te=>g=(λv σ H Q=>∃ (i:Nat) (h:i < xs.length),dG X.K τb xs[i] (T i) v σ H Q)/\tt=(λσ H Q=>Q true H)/\te=(λσ H Q=>∃ i,i < xs.length/\dE X.K true (T i) (S' i) σ H Q),_,_,_,cap,hi,?_,?_⟩,hs⟩
 · rintro g tt te ⟨rfl,rfl,rfl⟩ s H fp
   exact ⟨λpins s' σ H' v u Q I r ⟨i,h,q⟩=>hg i h s H fp pins s' σ H' v u Q I r q,ft,λpins s' σ H' Q I ⟨i,h,q⟩=>he i h s H fp pins s' σ H' Q I q⟩
 rintro C σ H Q ⟨A,H₀,B,S,kk⟩
 refine ⟨A,H₀,B,S,λJ H1 e1 yl=>⟨_,_,_,⟨rfl,rfl,rfl⟩,λD hD=>?_⟩⟩
 have S1:=S.mono e1
 have flat:∀ (l:Nat) (s:Sl),τb[l]?=some s->s=.un\/∃ x,s=.d x:=λl s h=>by
   rw [<- hτ] at h
   rcases List.mem_append.mp (List.mem_of_getElem? h) with z | z
   · unfold aI at z
     obtain ⟨o,_,ho⟩:=List.mem_map.mp z
     split at ho
     · split at ho
       · exact .inr ⟨_,ho.symm⟩
       · exact .inl ho.symm
     · exact .inl ho.symm
   · exact .inl (List.mem_singleton.mp z)
 have slots:∀ {σ':L2.St} {H':Hp} {rs:List Addr},af H1 H'->(∃ o,H' D=some o)->(∀ b ∈ rs,∃ o,H' b=some o)->σ'.length=τb.length->(∀ (l:Nat) (s:Sl),τb[l]?=some s->aY X.K (hd H' λb=>own A B b\/b=D\/b ∈ rs) H' (σ'[l]?).join [] s)->Sta X.K (λb=>own A B b\/b=D\/b ∈ rs) H' τb (λ_=>[]) σ' H':=λ{σ' H' rs} e1 e2 e5 e3 e4=>
   ⟨af.refl _,e3,λl s h=>(e4 l s h).mono (ao (af.refl _) λ_ z=>z.elim id λ⟨_,z⟩=>(nomatch z)) (af.refl _),λ_ _ z=>(nomatch z),λ_ _ _ z=>(nomatch z),λb z=>z.elim (λz=>let ⟨o,q⟩:=S1.dm b z; ⟨o,e1 _ _ q⟩) λz=>z.elim (λz=>z ▸ e2) (e5 b),λ_ _ z=>(nomatch z)⟩
 refine ⟨λi m σ' H'=>m=xs.length - i/\i<=xs.length/\af H1 H'/\(∃ vs rs,H' D=some (.lst vs)/\vs.length<=i/\aB X.K (hd H' λb=>own A B b\/b=D\/b ∈ rs) H' vs rs ((List.range i).map f)/\(D :: rs).Nodup/\(∀ b ∈ rs,H1 b=none) /\
   σ'.length=τb.length/\∀ (l:Nat) (s:Sl),τb[l]?=some s->aY X.K (hd H' λb=>own A B b\/b=D\/b ∈ rs) H' (σ'[l]?).join [] s),⟨xs.length,rfl,Nat.zero_le _,ah hD _,[],[],az,Nat.le_refl _,.nil,by simp,λ_ z=>(nomatch z),?_,λl s h=>?_⟩,?_⟩
 · rw [<- hτ]; unfold bE aI; rw [List.length_append,List.length_append,List.length_map,List.length_map]; rfl
 · have hv:af (hd H (own A B)) (hd (upd H1 D (.lst [])) λb=>own A B b\/b=D\/b ∈ ([]:List Addr)):=λb o z=>by
     obtain ⟨z1,z2⟩:=ag.mp z
     have z2:=e1 _ _ z2
     have ne:b ≠ D:=λz=>by rw [z,hD] at z2; cases z2
     exact ag.mpr ⟨λy=>y.elim z1 λy=>y.elim ne λy=>(nomatch y),by rw [ai ne]; exact z2⟩
   rcases flat l s h with rfl | ⟨x,rfl⟩
   · rfl
   · rw [<- hτ] at h
     have hlt:l < (bCp X.N scope).length:=by
       rcases Nat.lt_or_ge l (bCp X.N scope).length with h' | h'
       · exact h'
       · exfalso
         rw [List.getElem?_append_right (by unfold aI; rw [List.length_map]; exact h')] at h
         cases e:l - (aI τ (bCp X.N scope)).length with
         | zero=>rw [e] at h; cases h
         | succ n=>rw [e] at h; cases h
     rw [List.getElem?_append_left (by unfold aI; rw [List.length_map]; exact hlt)] at h
     rw [List.getElem?_append_left (by unfold bE; rw [List.length_map]; exact hlt)]
     unfold aI at h
     unfold bE
     rw [List.getElem?_map] at h ⊢
     cases e:(bCp X.N scope)[l]? with
     | none=>rw [e] at h; cases h
     | some o=>
       rw [e] at h
       cases o with
       | none=>cases h
       | some i=>
         simp only [Option.map_some,Option.some.injEq] at h
         split at h
         · rename_i x' hx'
           cases h
           obtain ⟨_,u,eu,d⟩:=S.sl i _ hx'
           exact ⟨rfl,u,by simpa using eu,d.mono hv⟩
         · cases h
 rintro i m σ' H' ⟨rfl,hi,e2,vs,rs,hv1,hv2,hv3,hnd,hfr,hlen,hsl⟩
 obtain ⟨y1,y2⟩:=yl H' (aD.trans e2)
 have rsd:∀ b ∈ rs,∃ o,H' b=some o:=hv3.some_of
 by_cases hlt:i < xs.length
 · obtain ⟨g,y⟩:=y2 i hlt
   refine .inr ⟨g,λx H2 hy=>?_⟩
   obtain ⟨e3,dx⟩:=y x H2 hy
   have S2:=slots e2 ⟨_,hv1⟩ rsd hlen hsl
   have o0:∀ b,own (λb=>own A B b\/b=D\/b ∈ rs) (λ_=>([]:List Addr)) b->own A B b\/b=D\/b ∈ rs:=λb z=>z.elim id λ⟨_,z⟩=>(nomatch z)
   have dx':=dx _ S2.dm (λb o z=>by
     obtain ⟨z1,z2⟩:=ag.mp z
     exact ag.mpr ⟨λy=>(o0 b y).elim z1 λy=>y.elim (λy=>(by rw [y,hD] at z2; cases z2)) λy=>(by rw [hfr b y] at z2; cases z2),e2 _ _ z2⟩)
   refine ⟨i,hlt,_,_,_,S2.mono e3,dx',λσ2 B2 S3=>?_⟩
   refine gA ⟨i,hlt,_,_,_,S3,λv H5 bs e5 hf5 d5=>?_⟩
   obtain ⟨nv,ndv⟩:=d5.nd (hn i hlt)
   have e6:=e3.trans e5
   have hv5:=e6 _ _ hv1
   have bsD:∀ b ∈ bs,b ≠ D:=λb hb z=>by have:=(hf5 b hb).1; rw [z,e3 _ _ hv1] at this; cases this
   have bsR:∀ b ∈ bs,b ∉ rs:=λb hb z=>by obtain ⟨o,q⟩:=rsd b z; have:=(hf5 b hb).1; rw [e3 _ _ q] at this; cases this
   refine ⟨vs,xs.length - (i + 1),hv5,Nat.lt_trans (Nat.lt_of_le_of_lt hv2 (Nat.lt_trans hlt hl)) (by decide),by omega,rfl,hlt,?_,vs++[v],rs++bs,az,by rw [List.length_append]; exact Nat.succ_le_succ hv2,?_,?_,?_,S3.len.trans (hT i).1,λl s h=>?_⟩
   · intro b o z
     have ne:b ≠ D:=λy=>by rw [y,hD] at z; cases z
     rw [ai ne]
     exact e6 _ _ (e2 _ _ z)
   · rw [List.range_succ,List.map_append]
     have sm1:af (hd H5 λb=>vw true (λb=>own A B b\/b=D\/b ∈ rs) B2 b\/b ∈ bs) (hd (upd H5 D (.lst (vs++[v]))) λb=>own A B b\/b=D\/b ∈ rs++bs):=λb o z=>by
       obtain ⟨z1,z2⟩:=ag.mp z
       refine ag.mpr ⟨λy=>z1 ?_,by rw [ai (λy:b=D=>z1 (.inl (.inl (.inr (.inl y)))))]; exact z2⟩
       rcases y with y | y | y
       · exact .inl (.inl (.inl y))
       · exact .inl (.inl (.inr (.inl y)))
       · exact (List.mem_append.mp y).elim (λy=>.inl (.inl (.inr (.inr y)))) .inr
     have sm2:af (hd H' λb=>own A B b\/b=D\/b ∈ rs) (hd (upd H5 D (.lst (vs++[v]))) λb=>own A B b\/b=D\/b ∈ rs++bs):=λb o z=>by
       obtain ⟨z1,z2⟩:=ag.mp z
       refine ag.mpr ⟨λy=>?_,by rw [ai (λy:b=D=>z1 (.inr (.inl y)))]; exact e6 _ _ z2⟩
       rcases y with y | y | y
       · exact z1 (.inl y)
       · exact z1 (.inr (.inl y))
       · rcases List.mem_append.mp y with y | y
         · exact z1 (.inr (.inr y))
         · have:=(hf5 b y).1; rw [e3 _ _ z2] at this; cases this
     refine aB.snoc (nv.frame sm1 λb hb=>ai (bsD b hb)) (hv3.frame sm2 λb hb=>?_)
     obtain ⟨o,q⟩:=rsd b hb
     rw [ai (λz:b=D=>(List.nodup_cons.mp hnd).1 (by rw [<- z]; exact hb)),e6 _ _ q,q]
   · obtain ⟨n1,n2⟩:=List.nodup_cons.mp hnd
     refine List.nodup_cons.mpr ⟨λz=>?_,List.nodup_append.mpr ⟨n2,ndv,λx hx y hy z=>bsR y hy (z ▸ hx)⟩⟩
     exact (List.mem_append.mp z).elim n1 λz=>bsD D z rfl
   · intro b hb
     rcases List.mem_append.mp hb with z | z
     · exact hfr b z
     · exact (e2.trans e3).free (hf5 b z).1
   · rcases flat l s h with rfl | ⟨x,rfl⟩
     · rfl
     · obtain ⟨_,u,eu,d⟩:=S3.sl l _ ((hT i).2 l x h)
       refine ⟨rfl,u,eu,d.mono λb o z=>?_⟩
       obtain ⟨z1,z2⟩:=ag.mp z
       refine ag.mpr ⟨λy=>?_,by rw [ai (λy:b=D=>z1 (.inl (.inr (.inl y))))]; exact e5 _ _ z2⟩
       rcases y with y | y | y
       · exact z1 (.inl (.inl y))
       · exact z1 (.inl (.inr (.inl y)))
       · rcases List.mem_append.mp y with y | y
         · exact z1 (.inl (.inr (.inr y)))
         · rw [(hf5 b y).1] at z2; cases z2
 · have e:i=xs.length:=by omega
   subst e
   refine .inl ⟨y1 _ (Nat.le_refl _),kk _ _ (D :: rs) (e1.trans e2) (λb hb=>?_) ⟨hnd,_,rfl,.l hv1 (hv3.frame (ao (af.refl _) λb z=>?_) λ_ _=>rfl)⟩⟩
   · rcases List.mem_cons.mp hb with rfl | z
     · exact ⟨e1.free hD,_,hv1⟩
     · exact ⟨e1.free (hfr b z),rsd b z⟩
   · rcases z with z | z
     · exact .inl (iX z)
     · exact .inr ((List.mem_cons.mp z).elim .inl .inr)
theorem tX (j:Nat) {n:Str} {g:Nat->D} {f:Nat->Nd} {S':Nat->Sl} (B:Bk X k) (hi:PI X (.Name n p) it (dI X.K τ xs)) (hx:∀ i (h:i < xs.length),xs[i]=g i) (hl:xs.length < 1000000)
   (he:∀ i,i < xs.length->∀ s H fp,PE (cpX X s H scope fp) elt (dE X.K true ((aI τ (bCp X.N scope)++[Sl.un]).set j (.d (g i))) (S' i))) (hn:∀ i,i < xs.length->jy (S' i)=some (f i))
   (hc:bOk X.env.scope scope=true:=by kernel_rfl) (hu:(aI τ (bCp X.N scope)++[Sl.un])[j]?=some .un:=by rfl) (hN:(bNm scope++[("#" : Str)])[j]?=some n:=by rfl) (hv:∀ s H fp,Loc (cpX X s H scope fp).env.scope n:=by intro _ _ _; first | exact .inl rfl | exact .inr rfl)
   (hf:∀ s H fp,(cpX X s H scope fp).fn n=true\/(cpX X s H scope fp).env.scope.names.lookup n=some .local:=by intro _ _ _; first | exact .inr rfl | exact .inl rfl) (hs:∀ x,foldedSetIterable it X.env x=pure x:=by intro _; rfl) :
   oP X elt (.Name n p) it [] scope τ ((List.range xs.length).map f):=by
 refine pQ (T:=λi=>(aI τ (bCp X.N scope)++[Sl.un]).set j (.d (g i))) B hc hi (λi=>⟨List.length_set,λl x h=>?_⟩) (λi h s H fp=>?_) he hn hl hs
 · rw [List.getElem?_set_ne (λz=>by rw [<- z,hu] at h; cases h)]
   exact h
 · rw [hx i h]
   exact mZ j (cu hc).2 hN (hv s H fp) (hf s H fp)
end
section
variable {X:Cx} {C:Bool} {τ τ':List Sl} {x y z:D} {a b e c tg it elt o ix:Expr} {es ifs:List Expr} {pos p q:Pos} {k:Nat} {s:Sl} {N:Po} {rest body:List Stmt} {ds xs ys:List D} {i:Nat} {scope:Scope}
theorem uG (j l:Nat) {n m:Str} {p2 pt:Pos} {md:Nat} {g g' f:Nat->D} (B:Bk X k) (hi:PI X (.Tuple [.Name n p,.Name m p2] md pt) it (dI X.K τ xs)) (hx:∀ i (h:i < xs.length),xs[i]=.tup [g i,g' i]) (hl:xs.length < 1000000)
   (he:∀ i,i < xs.length->∀ s H fp,PE (cpX X s H scope fp) elt (dE X.K true (((aI τ (bCp X.N scope)++[Sl.un]).set j (.d (g i))).set l (.d (g' i))) (.d (f i))))
   (hc:bOk X.env.scope scope=true:=by kernel_rfl) (hu:(aI τ (bCp X.N scope)++[Sl.un])[j]?=some .un:=by rfl) (hu':(aI τ (bCp X.N scope)++[Sl.un])[l]?=some .un:=by rfl) (hN:(bNm scope++[("#" : Str)])[j]?=some n:=by rfl) (hN':(bNm scope++[("#" : Str)])[l]?=some m:=by rfl) (hv:∀ s H fp,Loc (cpX X s H scope fp).env.scope n:=by intro _ _ _; first | exact .inl rfl | exact .inr rfl) (hv':∀ s H fp,Loc (cpX X s H scope fp).env.scope m:=by intro _ _ _; first | exact .inl rfl | exact .inr rfl)
   (hf:∀ s H fp,(cpX X s H scope fp).fn n=true\/(cpX X s H scope fp).env.scope.names.lookup n=some .local:=by intro _ _ _; first | exact .inr rfl | exact .inl rfl) (hf':∀ s H fp,(cpX X s H scope fp).fn m=true\/(cpX X s H scope fp).env.scope.names.lookup m=some .local:=by intro _ _ _; first | exact .inr rfl | exact .inl rfl) (hs:∀ x,foldedSetIterable it X.env x=pure x:=by intro _; rfl) :
   Cmp X elt (.Tuple [.Name n p,.Name m p2] md pt) it [] scope τ ((List.range xs.length).map f):=
 uB (λi=>((aI τ (bCp X.N scope)++[Sl.un]).set j (.d (g i))).set l (.d (g' i))) B hi hl (λi=>⟨by rw [List.length_set,List.length_set],λr x h=>by
     rw [List.getElem?_set_ne (λz=>by rw [<- z,hu'] at h; cases h),List.getElem?_set_ne (λz=>by rw [<- z,hu] at h; cases h)]
     exact h⟩)
   (λi h s H fp=>by rw [hx i h]; exact qi j l (B.comp s H scope fp).calm (cu hc).2 hN hN' (hv s H fp) (hv' s H fp) (hf s H fp) (hf' s H fp)) he hc hs
end
end Hy
namespace Hy
open PySem PySem.Spec PyProof.Rows L2
open Ev (D Den aq ah aC ay)
section
variable {X:Cx} {C:Bool} {τ:List Sl} {x y z:D} {a b e o ix:Expr} {es:List Expr} {pos p q:Pos} {k:Nat} {s:Sl} {N:Po} {rest:List Stmt} {i j:Nat} {t c:Nd} {pt:List Nat} {xs:List Nd} {m:Nat}
theorem set_same {α:Type} {xs:List α} {i:Nat} {y:α} (h:xs[i]?=some y):xs.set i y=xs:=by
 obtain ⟨h1,h2⟩:=List.getElem?_eq_some_iff.mp h
 rw [<- h2]
 exact List.set_getElem_self h1
end
end Hy
namespace Hy
open PySem PySem.Spec PyProof.Rows L2
open Ev (D Den aq)
section
variable {P:Program} {w:World} {K:PySem.W.Frag} {h:Heap} {mg:Str->Option Value} {base:Heap} {x:Str} {st:Stmt} {f:Addr} {ps:List Str} {k:Nat} {Φ:List D->Sl->Prop} {i:Int}
end
mutual
noncomputable def fP:Nd->Bool
 | .d x=>flat x
 | .l xs=>cD xs
 | .t xs=>cD xs
noncomputable def cD:List Nd->Bool
 | []=>true
 | x :: xs=>fP x && cD xs
end
noncomputable def uJ:Sl->Bool
 | .un=>true
 | .d x=>flat x
 | .o xs=>xs.all flat
 | .n t=>fP t
 | .x _=>false
section
variable {K:PySem.W.Frag} {G G' H:Hp}
mutual
theorem aU.fl:∀ {u:V} {bs:List Addr} {t:Nd},aU K G H u bs t->fP t=true->aU K G' H u bs t
 | _,_,_,.d h,f=>.d (fG h (by rw [fP] at f; exact f))
 | _,_,_,.l h r,f=>.l h (aB.fl r (by rw [fP] at f; exact f))
 | _,_,_,.t h r,f=>.t h (aB.fl r (by rw [fP] at f; exact f))
theorem aB.fl:∀ {vs:List V} {bs:List Addr} {ts:List Nd},aB K G H vs bs ts->cD ts=true->aB K G' H vs bs ts
 | _,_,_,.nil,_=>.nil
 | _,_,_,.cons h r,f=>by
   rw [cD,Bool.and_eq_true] at f
   exact .cons (aU.fl h f.1) (aB.fl r f.2)
end
theorem kq:∀ {vs:List V} {xs:List D},aq K G vs xs->xs.all flat=true->aq K G' vs xs
 | _,_,.nil,_=>.nil
 | _,_,.cons h r,f=>by
   rw [List.all_cons,Bool.and_eq_true] at f
   exact .cons (fG h f.1) (kq r f.2)
theorem aY.fl {v:Option V} {bs:List Addr}:∀ {s:Sl},aY K G H v bs s->uJ s=true->aY K G' H v bs s
 | .un,h,_=>h
 | .d _,⟨h,u,e1,h2⟩,f=>⟨h,u,e1,fG h2 f⟩
 | .o _,⟨a,vs,h1,h2,h3,h4⟩,f=>⟨a,vs,h1,h2,h3,kq h4 f⟩
 | .n _,⟨h0,u,h1,h2⟩,f=>⟨h0,u,h1,h2.fl f⟩
end
theorem pC {X:Cx} {τ:List Sl} {elt tg it:Expr} {ifs:List Expr} {pos p spos:Pos} {scope:Scope} {rest:List Stmt} {N:Po} {ns:List Nd} {s0:Sl} {x:D} (i j:Nat) {n:Str} (hN:X.N.Nodup) (h:oP X elt tg it ifs scope (τ.set j (.d x)) ns) (f:cD ns=true) (hr:PSs X rest (dS X.K (τ.set i (.n (.l ns))) N))
   (hj:τ[j]?=some s0:=by rfl) (hx:fzD s0=some x:=by rfl) (hi:X.N[i]?=some n:=by rfl) (hl:Loc X.env.scope n:=by first | exact .inl rfl | exact .inr rfl)
   (hsw:swapsWith (.ListComp elt [⟨tg,it,ifs,0⟩] scope pos) (some (.Name n p)) spos.line X.env=pure true:=by rfl) (hf:X.fn n=true\/X.env.scope.names.lookup n=some .local:=by first | exact .inl rfl | exact .inr rfl | assumption) :
   PSs X (.Assign [.Name n p] (.ListComp elt [⟨tg,it,ifs,0⟩] scope pos) spos :: rest) (dS X.K τ N):=by
 obtain ⟨In,caps,N',wi,h1,h2,h3,h4⟩:=h.ex
 exact aN (M:=(·=τ.set i (.n (.l ns)))) (psW (Ev.gk (bz (i:=i) hN hi hl hf) h1 h2 h.hs h3 hsw) λD σ H ⟨A,H₀,B,S,Me⟩=>h4 true _ _ _ ⟨A,H₀,_,S.fz hj hx,λv H' bs e hf h=>Me.nx _ _ _ _ rfl (S.set e hf (h.fl (show fP (.l ns)=true by rw [fP]; exact f)))⟩) λ_ e=>e ▸ hr
end Hy
namespace Lc
open PySem PySem.Spec PyProof.Rows L2
open PySem.AutoSeq1 (wpAny_loadPart')
open PySem.MeetsSeq PySem.MeetsSeq2 PySem.MeetsSeq3 PySem.SeqRoads2 PySem.SeqAt
open Ev (D Den aq eqD bM toP)
noncomputable def d8 (op:CmpOp) (A:Around) (s:Shared) (y x:Value) (b:Bool):Prop:=
 ∀ (prog:Program) (w:World) (E:Value->Shared->Prop) (Q:Value->Shared->Prop),Q (.bool b) s->wpAny (model prog w) A (richCompare op y x) Q E s
theorem o8 (l b:Addr) (items items2:Array Value) (n n2:Nat) (dd dd2:Option Addr) (sl sl2:Array (Option Value)) (j:Nat) (h1:j < items.size) (h2:j < items2.size) (c:Bool) (k:Nat) :
   ∀ i:Nat,j - i=k->i<=j->Meets (Builtin.«list.__eq__.loop» ⟨[.ref l,.ref b,rawInt i,rawInt 0],[]⟩)
     (λA R s=>s.heap.get? l=some { cls:=.type "list",dict:=dd,data:=.seq items n,slots:=sl }/\s.heap.get? b=some { cls:=.type "list",dict:=dd2,data:=.seq items2 n2,slots:=sl2 } /\
       (∀ m (_:m < j) (z1:m < items.size) (z2:m < items2.size),EqAt A.in1 s items[m] items2[m] true)/\EqAt A.in1 s items[j] items2[j] false/\d8 .Lt A.in1 s items[j] items2[j] c /\
       R (.ok (.ret (.bool c))) s):=by
 induction k with
 | zero=>
   intro i hk hij prog w A R s h
   obtain ⟨hp,g,d,tk,os⟩:=s; obtain ⟨hl,hb,he,hn,hc,h⟩:=h
   obtain rfl:i=j:=by omega
   wp_walk using wpAny_loadPart' hl,wpAny_loadPart' hb
   have hi1:items[((i:Nat):Int).toNat]?=some items[i]:=by simp [h1]
   have hi2:items2[((i:Nat):Int).toNat]?=some items2[i]:=by simp [h2]
   rw [hi1,hi2]
   refine wpAny_bind (hn prog w _ _ ?_)
   wp_walk using wpAny_loadPart' hl,wpAny_loadPart' hb
   rw [hi1,hi2]
   refine wpAny_bind (hc prog w _ _ ?_)
   wp_walk
   exact h
 | succ k ih=>
   intro i hk hij prog w A R s h
   obtain ⟨hp,g,d,tk,os⟩:=s; obtain ⟨hl,hb,he,hn,hc,h⟩:=h
   wp_walk using wpAny_loadPart' hl,wpAny_loadPart' hb
   have hlt:i < items.size:=by omega
   have hlt2:i < items2.size:=by omega
   have hi1:items[((i:Nat):Int).toNat]?=some items[i]:=by simp [hlt]
   have hi2:items2[((i:Nat):Int).toNat]?=some items2[i]:=by simp [hlt2]
   have hcc:((i:Int) + 1)=((i + 1:Nat):Int):=by push_cast; rfl
   rw [hi1,hi2]
   refine wpAny_bind (he i (by omega) hlt hlt2 prog w _ _ ?_)
   wp_walk
   rw [hcc]
   exact ⟨plainId_quiet plain_eq_loop _,codeAny_builtin entry_eq_loop (by
     rw [Around.under_plainId plain_eq_loop _]
     exact ih (i + 1) (by omega) (by omega) prog w A R _ ⟨hl,hb,he,hn,hc,h⟩)⟩
theorem oQ (l b:Addr) (items items2:Array Value) (n n2:Nat) (dd dd2:Option Addr) (sl sl2:Array (Option Value)) (j:Nat) (h1:j < items.size) (h2:j < items2.size) (c:Bool) (k:Nat) :
   ∀ i:Nat,j - i=k->i<=j->Meets (Builtin.«list.__eq__.loop» ⟨[.ref l,.ref b,rawInt i,rawInt 4],[]⟩)
     (λA R s=>s.heap.get? l=some { cls:=.type "list",dict:=dd,data:=.seq items n,slots:=sl }/\s.heap.get? b=some { cls:=.type "list",dict:=dd2,data:=.seq items2 n2,slots:=sl2 } /\
       (∀ m (_:m < j) (z1:m < items.size) (z2:m < items2.size),EqAt A.in1 s items[m] items2[m] true)/\EqAt A.in1 s items[j] items2[j] false/\d8 .Gt A.in1 s items[j] items2[j] c /\
       R (.ok (.ret (.bool c))) s):=by
 induction k with
 | zero=>
   intro i hk hij prog w A R s h
   obtain ⟨hp,g,d,tk,os⟩:=s; obtain ⟨hl,hb,he,hn,hc,h⟩:=h
   obtain rfl:i=j:=by omega
   wp_walk using wpAny_loadPart' hl,wpAny_loadPart' hb
   have hi1:items[((i:Nat):Int).toNat]?=some items[i]:=by simp [h1]
   have hi2:items2[((i:Nat):Int).toNat]?=some items2[i]:=by simp [h2]
   rw [hi1,hi2]
   refine wpAny_bind (hn prog w _ _ ?_)
   wp_walk using wpAny_loadPart' hl,wpAny_loadPart' hb
   rw [hi1,hi2]
   refine wpAny_bind (hc prog w _ _ ?_)
   wp_walk
   exact h
 | succ k ih=>
   intro i hk hij prog w A R s h
   obtain ⟨hp,g,d,tk,os⟩:=s; obtain ⟨hl,hb,he,hn,hc,h⟩:=h
   wp_walk using wpAny_loadPart' hl,wpAny_loadPart' hb
   have hlt:i < items.size:=by omega
   have hlt2:i < items2.size:=by omega
   have hi1:items[((i:Nat):Int).toNat]?=some items[i]:=by simp [hlt]
   have hi2:items2[((i:Nat):Int).toNat]?=some items2[i]:=by simp [hlt2]
   have hcc:((i:Int) + 1)=((i + 1:Nat):Int):=by push_cast; rfl
   rw [hi1,hi2]
   refine wpAny_bind (he i (by omega) hlt hlt2 prog w _ _ ?_)
   wp_walk
   rw [hcc]
   exact ⟨plainId_quiet plain_eq_loop _,codeAny_builtin entry_eq_loop (by
     rw [Around.under_plainId plain_eq_loop _]
     exact ih (i + 1) (by omega) (by omega) prog w A R _ ⟨hl,hb,he,hn,hc,h⟩)⟩
theorem pz (l b:Addr) (items items2:Array Value) (n n2:Nat) (dd dd2:Option Addr) (sl sl2:Array (Option Value)) (j:Nat) (h1:j < items.size) (h2:j < items2.size) (c:Bool) :
   Meets (Builtin.«list.__lt__» ⟨[.ref l,.ref b],[]⟩)
     (λA R s=>s.heap.get? l=some { cls:=.type "list",dict:=dd,data:=.seq items n,slots:=sl }/\s.heap.get? b=some { cls:=.type "list",dict:=dd2,data:=.seq items2 n2,slots:=sl2 } /\
       (∀ m (_:m < j) (z1:m < items.size) (z2:m < items2.size),EqAt A.in1 s items[m] items2[m] true)/\EqAt A.in1 s items[j] items2[j] false/\d8 .Lt A.in1 s items[j] items2[j] c /\
       R (.ok (.ret (.bool c))) s):=by
 intro prog w A R s h
 obtain ⟨hp,g,d,tk,os⟩:=s; obtain ⟨hl,hb,he,hn,hc,h⟩:=h
 have f3:=AutoSeq1.sub_list_list
 wp_walk using wpAny_loadPart' hl,wpAny_loadPart' hb
 exact ⟨plainId_quiet plain_eq_loop _,codeAny_builtin entry_eq_loop (by
   rw [Around.under_plainId plain_eq_loop _]
   exact o8 l b items items2 n n2 dd dd2 sl sl2 j h1 h2 c _ 0 rfl (Nat.zero_le _) prog w A R _ ⟨hl,hb,he,hn,hc,h⟩)⟩
theorem d8.lt {A:Around} {s:Shared} {l b:Addr} {items items2:Array Value} {j:Nat} {c:Bool} (hl:s.heap.IsList l items) (hb:s.heap.IsList b items2) (hu:A.units < cLine) (h1:j < items.size) (h2:j < items2.size)
   (he:∀ m (_:m < j) (z1:m < items.size) (z2:m < items2.size),EqAt A.in1 s items[m] items2[m] true) (hn:EqAt A.in1 s items[j] items2[j] false) (hc:d8 .Lt A.in1 s items[j] items2[j] c):d8 .Lt A s (.ref l) (.ref b) c:=λprog w E Q h=>by
 obtain ⟨⟨cls,dd,data,sl⟩,ho,hc1,n,hd⟩:=id hl
 obtain ⟨⟨cls2,dd2,data2,sl2⟩,ho2,hc2,n2,hd2⟩:=id hb
 simp only at hc1 hd hc2 hd2
 subst hc1 hd hc2 hd2
 exact richCompare_meets_room (op:=.Lt) ⟨_,ho,rfl⟩ ⟨_,ho2,rfl⟩ F.slot_list_lt F.entry_list_lt (F.args_list_lt_2 _ _) (pz l b items items2 n n2 dd dd2 sl sl2 j h1 h2 c)
   ⟨ho,ho2,he,hn,hc,show Value.bool c ≠ Value.notImplemented/\Q (.bool c) s from ⟨(λx=>nomatch x),h⟩⟩ hu
theorem oY (l b:Addr) (items items2:Array Value) (n n2:Nat) (dd dd2:Option Addr) (sl sl2:Array (Option Value)) (j:Nat) (h1:j < items.size) (h2:j < items2.size) (c:Bool) :
   Meets (Builtin.«list.__gt__» ⟨[.ref l,.ref b],[]⟩)
     (λA R s=>s.heap.get? l=some { cls:=.type "list",dict:=dd,data:=.seq items n,slots:=sl }/\s.heap.get? b=some { cls:=.type "list",dict:=dd2,data:=.seq items2 n2,slots:=sl2 } /\
       (∀ m (_:m < j) (z1:m < items.size) (z2:m < items2.size),EqAt A.in1 s items[m] items2[m] true)/\EqAt A.in1 s items[j] items2[j] false/\d8 .Gt A.in1 s items[j] items2[j] c /\
       R (.ok (.ret (.bool c))) s):=by
 intro prog w A R s h
 obtain ⟨hp,g,d,tk,os⟩:=s; obtain ⟨hl,hb,he,hn,hc,h⟩:=h
 have f3:=AutoSeq1.sub_list_list
 wp_walk using wpAny_loadPart' hl,wpAny_loadPart' hb
 exact ⟨plainId_quiet plain_eq_loop _,codeAny_builtin entry_eq_loop (by
   rw [Around.under_plainId plain_eq_loop _]
   exact oQ l b items items2 n n2 dd dd2 sl sl2 j h1 h2 c _ 0 rfl (Nat.zero_le _) prog w A R _ ⟨hl,hb,he,hn,hc,h⟩)⟩
theorem d8.gt {A:Around} {s:Shared} {l b:Addr} {items items2:Array Value} {j:Nat} {c:Bool} (hl:s.heap.IsList l items) (hb:s.heap.IsList b items2) (hu:A.units < cLine) (h1:j < items.size) (h2:j < items2.size)
   (he:∀ m (_:m < j) (z1:m < items.size) (z2:m < items2.size),EqAt A.in1 s items[m] items2[m] true) (hn:EqAt A.in1 s items[j] items2[j] false) (hc:d8 .Gt A.in1 s items[j] items2[j] c):d8 .Gt A s (.ref l) (.ref b) c:=λprog w E Q h=>by
 obtain ⟨⟨cls,dd,data,sl⟩,ho,hc1,n,hd⟩:=id hl
 obtain ⟨⟨cls2,dd2,data2,sl2⟩,ho2,hc2,n2,hd2⟩:=id hb
 simp only at hc1 hd hc2 hd2
 subst hc1 hd hc2 hd2
 exact richCompare_meets_room (op:=.Gt) ⟨_,ho,rfl⟩ ⟨_,ho2,rfl⟩ F.slot_list_gt F.entry_list_gt (F.args_list_gt_2 _ _) (oY l b items items2 n n2 dd dd2 sl sl2 j h1 h2 c)
   ⟨ho,ho2,he,hn,hc,show Value.bool c ≠ Value.notImplemented/\Q (.bool c) s from ⟨(λx=>nomatch x),h⟩⟩ hu
inductive LtW:D->D->Prop where
 | int {i j:Int} (h:i < j):LtW (.int i) (.int j)
 | lst {xs ys:List D} {j:Nat} {x y:D} (hx:xs[j]?=some x) (hy:ys[j]?=some y) (he:∀ m,m < j->∃ x y,xs[m]?=some x/\ys[m]?=some y/\eqD x y=true/\eqD y x=true) (hn:eqD x y=false) (hn':eqD y x=false) (h:LtW x y):LtW (.lst xs) (.lst ys)
section
variable {X:Cx} {pins:List (Addr × Obj)} {σ:L2.St} {H G:Hp} {s:Shared}
open Ev (cln bO dep bX bI ed dW fu)
theorem dQ:∀ {xs:List D} {j:Nat} {x:D},bO xs=true->xs[j]?=some x->cln x=true/\dep x<=bX xs
 | y :: ys,0,x,h,e=>by
   cases e
   rw [bO,Bool.and_eq_true] at h
   rw [bX]
   exact ⟨h.1,Nat.le_max_left _ _⟩
 | y :: ys,j + 1,x,h,e=>by
   rw [bO,Bool.and_eq_true] at h
   obtain ⟨h1,h2⟩:=dQ (xs:=ys) h.2 e
   rw [bX]
   exact ⟨h1,Nat.le_trans h2 (Nat.le_max_right _ _)⟩
theorem cY {K:PySem.W.Frag} {G:Hp}:∀ {vs:List V} {xs:List D} {us:List Value},aq K G vs xs->Vals vs us->∀ {j:Nat} {x:D},xs[j]?=some x->∃ v u,us[j]?=some u/\Den K G v x/\RelV v u
 | _,_,_,.cons d r,.cons q qs,0,x,e=>by cases e; exact ⟨_,_,rfl,d,q⟩
 | _,_,_,.cons d r,.cons q qs,j + 1,x,e=>cY r qs (j:=j) e
 | _,_,_,.nil,.nil,_,_,e=>by cases e
theorem cN (I:Inv X pins σ H s) (e:af G H) {A:Around} {v v':V} {x y:D} {u u':Value} (d:Den X.K G v x) (r:RelV v u) (d':Den X.K G v' y) (r':RelV v' u') (c1:cln x=true) (c2:cln y=true) (hu:A.units + dep x < cLine):EqAt A s u u' (eqD x y):=by
 obtain ⟨as,z1⟩:=bI I e d r c1
 obtain ⟨bs,z2⟩:=bI I e d' r' c2
 rw [<- ed]
 refine eqAt_reads _ _ A s u u' as bs z1 z2 (by rw [dW]; exact c1) (by rw [dW]; exact c2) ?_
 rw [fu]
 exact Nat.lt_of_le_of_lt (Nat.add_le_add_left (Nat.min_le_left _ _) _) hu
theorem t5 (I:Inv X pins σ H s) (e:af G H) {x y:D} (h:LtW x y):∀ {A:Around} {v v':V} {u u':Value},Den X.K G v x->RelV v u->Den X.K G v' y->RelV v' u'->cln x=true->cln y=true->A.units + dep x < cLine->A.units + dep y < cLine->d8 .Lt A s u u' true/\d8 .Gt A s u' u true:=by
 induction h with
 | int h=>
   intro A v v' u u' d r d' r' _ _ _ _
   cases d; cases d'
   obtain ⟨t,rfl⟩:=r
   obtain ⟨t',rfl⟩:=r'
   refine ⟨λprog w E Q q=>(PyProof.Rows.lt_int (by rw [decide_eq_true h]; exact q):wpAny (model prog w) A (compareOp .Lt _ _) Q E s),λprog w E Q q=>(PyProof.Rows.gt_int (by rw [decide_eq_true (show _ from h)]; exact q):wpAny (model prog w) A (compareOp .Gt _ _) Q E s)⟩
 | @lst xs ys j x y hx hy he hn hn' _ ih=>
   intro A v v' u u' d r d' r' c1 c2 u1 u2
   rw [cln] at c1 c2
   rw [dep] at u1 u2
   cases d with
   | lst z q=>
   cases d' with
   | lst z' q'=>
   cases r; cases r'
   obtain ⟨its,rv,pl,_⟩:=I.list (Ev.ay e z)
   obtain ⟨its2,rv2,pl2,_⟩:=I.list (Ev.ay e z')
   obtain ⟨a,b,e1,da,ra⟩:=cY q rv hx
   obtain ⟨a',b',e1',da',ra'⟩:=cY q' rv2 hy
   obtain ⟨c3,k3⟩:=dQ c1 hx
   obtain ⟨c4,k4⟩:=dQ c2 hy
   have s1:=(List.getElem?_eq_some_iff.mp e1).1
   have s2:=(List.getElem?_eq_some_iff.mp e1').1
   have g1:its.toArray[j]'(by simpa using s1)=b:=by simpa using (List.getElem?_eq_some_iff.mp e1).2
   have g2:its2.toArray[j]'(by simpa using s2)=b':=by simpa using (List.getElem?_eq_some_iff.mp e1').2
   have i1:∀ A:Around,A.in1.units=A.units + 1:=λ_=>rfl
   obtain ⟨r1,r2⟩:=ih (A:=A.in1) da ra da' ra' c3 c4 (by rw [i1]; omega) (by rw [i1]; omega)
   have eqs:∀ m,m < j->∀ (z1:m < its.toArray.size) (z2:m < its2.toArray.size),EqAt A.in1 s its.toArray[m] its2.toArray[m] true/\EqAt A.in1 s its2.toArray[m] its.toArray[m] true:=λm hm z1 z2=>by
     obtain ⟨x',y',f1,f2,f3,f3'⟩:=he m hm
     obtain ⟨a,b,e2,da,ra⟩:=cY q rv f1
     obtain ⟨a',b',e2',da',ra'⟩:=cY q' rv2 f2
     obtain ⟨c3,k3⟩:=dQ c1 f1
     obtain ⟨c4,k4⟩:=dQ c2 f2
     have g1:its.toArray[m]=b:=by simpa using (List.getElem?_eq_some_iff.mp e2).2
     have g2:its2.toArray[m]=b':=by simpa using (List.getElem?_eq_some_iff.mp e2').2
     rw [g1,g2]
     have k1:=cN (A:=A.in1) I e da ra da' ra' c3 c4 (by rw [i1]; omega)
     have k2:=cN (A:=A.in1) I e da' ra' da ra c4 c3 (by rw [i1]; omega)
     rw [f3] at k1
     rw [f3'] at k2
     exact ⟨k1,k2⟩
   have n1:=cN (A:=A.in1) I e da ra da' ra' c3 c4 (by rw [i1]; omega)
   have n2:=cN (A:=A.in1) I e da' ra' da ra c4 c3 (by rw [i1]; omega)
   rw [hn] at n1
   rw [hn'] at n2
   refine ⟨d8.lt (pl.isList) (pl2.isList) (by omega) (j:=j) (by simpa using s1) (by simpa using s2) (λm hm z1 z2=>(eqs m hm z1 z2).1) (by rw [g1,g2]; exact n1) (by rw [g1,g2]; exact r1),
     d8.gt (pl2.isList) (pl.isList) (by omega) (j:=j) (by simpa using s2) (by simpa using s1) (λm hm z1 z2=>(eqs m hm z2 z1).2) (by rw [g1,g2]; exact n2) (by rw [g1,g2]; exact r2)⟩
end
end Lc
namespace Hy
open PySem PySem.Spec PyProof.Rows L2
open Ev (D Den aq bM)
theorem tY {X:Cx} {k:Nat} {x y:D} (B:Bk X k) (h1:bM x) (h2:bM y) (h:Lc.LtW x y):bN X (compareOp .Lt) x y (.bl true):=⟨λx y H Q=>∃ G d e,af G H/\Den X.K G x d/\Den X.K G y e/\bM d/\bM e/\Lc.LtW d e/\Q (.bl true) H,
 λpins s σ H x y v u Q I rx ry ⟨G,d,e,sg,dx,dy,o1,o2,w,q⟩=>(Lc.t5 I sg w dx rx dy ry o1.1 o2.1 (Nat.lt_of_le_of_lt (Nat.add_le_add_left o1.2 _) B.room.units) (Nat.lt_of_le_of_lt (Nat.add_le_add_left o2.2 _) B.room.units)).1 _ _ _ _ ⟨.bl true,H,I,rfl,q⟩,
 λM v w H Q _ d1 d2 q=>⟨_,x,y,aD,d1,d2,h1,h2,h,q _ H (af.refl _) .bl⟩⟩
end Hy
namespace Hy
open PySem PySem.Spec PyProof.Rows L2
open Ev (D Den aq)
noncomputable def But (d:Addr) (H H':Hp):Prop:=∀ b o,b ≠ d->H b=some o->H' b=some o
theorem But.same {H H':Hp} {d:Addr} (e:af H H'):But d H H':=λb o _ h=>e b o h
theorem But.trans {H H1 H2:Hp} {d:Addr} (a:But d H H1) (b:But d H1 H2):But d H H2:=λc o n h=>b c o n (a c o n h)
theorem But.hd {H H':Hp} {d:Addr} {M:Addr->Prop} (e:But d H H') (h:M d):af (Hy.hd H M) (Hy.hd H' M):=λb o z=>by
 obtain ⟨z1,z2⟩:=ag.mp z
 exact ag.mpr ⟨z1,e b o (λy=>z1 (y ▸ h)) z2⟩
noncomputable def Hid (M:Addr->Prop) (H:Hp) (d:Addr):Prop:=M d/\∀ b,M b->∃ o,H b=some o
theorem Hid.but {M:Addr->Prop} {H H':Hp} {d:Addr} (h:Hid M H d) (e:But d H H') (hd:∃ o,H' d=some o):Hid M H' d:=⟨h.1,λb z=>by
 by_cases q:b=d
 · rw [q]; exact hd
 · obtain ⟨o,y⟩:=h.2 b z
   exact ⟨o,e b o q y⟩⟩
theorem Hid.same {M:Addr->Prop} {H H':Hp} {d:Addr} (h:Hid M H d) (e:af H H'):Hid M H' d:=⟨h.1,λb z=>let ⟨o,y⟩:=h.2 b z; ⟨o,e b o y⟩⟩
noncomputable def eB (P:Program) (w:World) (K:PySem.W.Frag) (mg:Str->Option Value) (base:Heap) (k:Nat) (n:Str) (sp:Sp):Prop:=
 ∃ f fd ps,aP P w K mg base CX0 k f fd ps sp/\mg n=some (.ref f)/\PySem.W.keepIn K (.ref f)=true/\Binds K fd ps []
theorem eB.mono {P:Program} {w:World} {K:PySem.W.Frag} {mg:Str->Option Value} {base:Heap} {j k:Nat} {n:Str} {sp:Sp} (c:eB P w K mg base j n sp) (h:j<=k):eB P w K mg base k n sp:=
 let ⟨f,fd,ps,F,r⟩:=c; ⟨f,fd,ps,F.mono h,r⟩
noncomputable def H00:Hp:=λ_=>none
theorem tJ {K:PySem.W.Frag} {G:Hp} {v:V} {x:D} (h:Den K H00 v x):Den K G v x:=h.mono λ_ o z=>nomatch (show none=some o from z)
section
variable {K:PySem.W.Frag} {A:Addr->Prop} {H₀ H H':Hp} {τ:List Sl} {B:Nat->List Addr} {σ:L2.St}
theorem Sta.hid (S:Sta K A H₀ τ B σ H) {i:Nat} {a:Addr} (hB:B i=[a]):Hid (own A B) H a:=⟨.inr ⟨i,by rw [hB]; exact List.mem_singleton.mpr rfl⟩,S.dm⟩
theorem Sta.but (S:Sta K A H₀ τ B σ H) {i:Nat} {a:Addr} {E E':Ex} {o':HO} (hi:τ[i]?=some (.x E)) (hB:B i=[a]) (e:But a H H') (ho:H' a=some o') (d:E'.p K (hd H' (own A B)) o' a):Sta K A H₀ (τ.set i (.x E')) B σ H':=by
 have sm:af (hd H (own A B)) (hd H' (own A B)):=e.hd (S.hid hB).1
 have f0:H₀ a=none:=S.fr i a (by rw [hB]; exact List.mem_singleton.mpr rfl)
 have hs:af H₀ H':=λb o z=>e b o (λq=>by rw [q,f0] at z; cases z) (S.same b o z)
 refine ⟨hs,by rw [List.length_set,S.len],λj t hj=>?_,S.fr,S.uq,S.ad,λj b hb=>((S.hid hB).but e ⟨_,ho⟩).2 b (.inr ⟨j,hb⟩)⟩
 by_cases ej:j=i
 · subst ej
   have hl:=(List.getElem?_eq_some_iff.mp hi).1
   rw [List.getElem?_set_self hl] at hj
   cases hj
   obtain ⟨a',o,e1,e2,_,_⟩:=S.sl j _ hi
   rw [hB] at e1
   cases e1
   exact ⟨a,o',hB,e2,ho,d⟩
 · rw [List.getElem?_set_ne (λz=>ej z.symm)] at hj
   have off:∀ b ∈ B j,b ≠ a:=λb hb e=>ej (S.uq j i a (e ▸ hb) (by rw [hB]; exact List.mem_singleton.mpr rfl))
   have ne:∀ b ∈ B j,H' b=H b:=λb hb=>by
     obtain ⟨o,q⟩:=S.bd j b hb
     rw [q]
     exact e b o (off b hb) q
   exact (S.sl j t hj).frame sm ne
end
noncomputable def lW (K:PySem.W.Frag) (E:Ex) (sp:Sp) (ds:List D) (z:D):Prop:=∀ (M:Addr->Prop) (d:Addr) (o:HO) (vs:List V) (H:Hp) (Q:VK) (E0:XK),Hid M H d->H d=some o->E.p K (hd H M) o d->aq K (hd H M) vs ds ->
 (∀ v H' o',But d H H'->H' d=some o'->E.p K (hd H' M) o' d->Den K H00 v z->Q v H')->sp (.ref d :: vs) H Q E0
noncomputable def dM (K:PySem.W.Frag) (τ:List Sl) (z:D):TE:=λσ H Q=>∃ A H₀ B,Sta K A H₀ τ B σ H/\∀ v H',Sta K A H₀ τ B σ H'->Den K H00 v z->Q v H'
section
variable {X:Cx} {τ:List Sl} {x y z:D} {a b e c:Expr} {es:List Expr} {pos p q:Pos} {k:Nat} {s:Sl} {ds:List D} {N:Po} {rest body:List Stmt}
theorem mF (i:Nat) {n nk:Str} {E:Ex} {sp:Sp} (Bb:Bk X k) (cl:eB X.prog X.w X.K X.mg X.base k n sp) (hL:lW X.K E sp ds z) (hi:τ[i]?=some (.x E)) (ha:PA X es (dA X.K true τ ds)) (hN:X.N[i]?=some nk:=by rfl)
   (hv:Vis X.env.scope nk:=by first | exact Or.inl rfl | exact Or.inr (Or.inl rfl) | exact Or.inr (Or.inr rfl)) (hd1:(nk == ("__debug__" : Str))=false:=by decide) (hcd:(nk == ("__classdict__" : Str))=false:=by decide)
   (hg:Gl X n:=by rfl) (hdb:(n == ("__debug__" : Str))=false:=by decide) (he:starEach (.Name nk q :: es) X.env=(false,eval (.Name nk q) X.env) :: starEach es X.env:=by rfl) (hpl:(backTo pos (starEach es X.env)).any (·.1)=false:=by rfl) :
   PE X (.Call (.Name n p) (.Name nk q :: es) [] pos) (dM X.K τ z):=by
 obtain ⟨f,fd,ps,F,hm,hk,hb⟩:=cl
 refine peW (bx F Bb.room hg hm hk hb .nil eX (av (a9 (i:=i) hN hv hd1 hcd) ha he) hdb he hpl) λσ H Q ⟨A,H₀,B,S,kk⟩=>?_
 obtain ⟨d,o,h1,h2,h3,h4⟩:=S.sl i _ hi
 refine ⟨_,slot_of h2,bQ S λvs H1 e1 d1=>?_⟩
 have S1:=S.mono e1
 obtain ⟨d',o1,g1,g2,g3,g4⟩:=S1.sl i _ hi
 rw [h2] at g2
 cases g2
 show sp (_++[]) _ _ _
 rw [List.append_nil]
 refine hL (own A B) d o1 vs H1 Q _ (S1.hid h1) g3 g4 d1 λv H' o' b1 h' p' dv=>kk v H' ?_ dv
 have:=S1.but hi h1 b1 h' p'
 rwa [show τ.set i (.x E)=τ from set_same hi] at this
theorem mX (i:Nat) {n:Str} (hN:X.N.Nodup) (he:PE X e (dM X.K τ z)) (hr:PSs X rest (dS X.K (τ.set i (.d z)) N)) (hi:X.N[i]?=some n:=by rfl) (hx:Loc X.env.scope n:=by first | exact .inl rfl | exact .inr rfl) (hs:swapsWith e (some (.Name n p)) pos.line X.env=pure false:=by rfl)
   (hf:X.fn n=true\/X.env.scope.names.lookup n=some .local:=by first | exact .inl rfl | exact .inr rfl | assumption):PSs X (.Assign [.Name n p] e pos :: rest) (dS X.K τ N):=
 aN (M:=(·=τ.set i (.d z))) (psW (iy hN hi hx he hs hf) λD σ H ⟨A,H₀,B,S,Me⟩=>⟨A,H₀,B,S,λv H' S' d=>Me.nx _ _ _ _ rfl (S'.set (af.refl _) (bs:=[]) (λ_ z=>nomatch z) ⟨rfl,v,rfl,tJ d⟩)⟩) λ_ e=>e ▸ hr
end
section
variable {P:Program} {w:World} {K:PySem.W.Frag} {mg:Str->Option Value} {base:Heap}
end
section
variable {X:Cx} {τ:List Sl} {es:List Expr} {pos p q pr:Pos} {k:Nat} {s:Sl} {ds:List D} {N:Po} {rest:List Stmt}
end
end Hy
namespace Hy
open PySem PySem.Spec PyProof.Rows L2
open Ev (D Den aq aK a5 ah aC ay)
section
variable {X:Cx} {i:Int}
end
end Hy
namespace Su
open PySem PyProof.Rows HT
open PySem.SeqAt
open PySem.AutoSeq1 (wpAny_loadPart')
open PySem.MeetsSeq PySem.MeetsSeq2 PySem.MeetsSeq3
section
variable {prog:Program} {w:World} {A:Around} {E:Value->Shared->Prop} {s:Shared}
end
end Su
namespace Hy
open PySem PySem.Spec PyProof.Rows L2
open Ev (D Den aq aK a5 ah aC ay)
section
variable {X:Cx} {C:Bool} {τ:List Sl} {x y z:D} {a b e:Expr} {es:List Expr} {pos p:Pos} {k:Nat} {s:Sl} {ds xs ys:List D} {i j:Int} {N:Po} {rest:List Stmt}
end
section
variable {X:Cx} {C:Bool} {τ:List Sl} {x y z:D} {a b e:Expr} {es:List Expr} {pos p:Pos} {k:Nat} {s:Sl} {ds xs ys:List D} {N:Po} {rest:List Stmt}
end
end Hy
namespace Hy
open PySem PySem.Spec PyProof.Rows L2
open Ev (D Den aq ah aC ay)
section
variable {X:Cx}
end
section
variable {X:Cx} {C:Bool} {τ:List Sl} {x y z:D} {a b e f o ix:Expr} {es:List Expr} {pos p q:Pos} {k:Nat} {s:Sl} {N:Po} {rest:List Stmt} {i:Nat} {t c:Nd} {pt:List Nat} {xs:List Nd} {j:Int} {m:Nat}
end
noncomputable def Pj (σ:L2.St) (H:Hp) (i j k:Nat):Prop:=∃ a vs v,(σ[i]?).join=some (.ref a)/\H a=some (.lst vs)/\vs[k]?=some v/\σ[j]?=some (some v)
theorem Pj.mono {σ:L2.St} {H H':Hp} {i j k:Nat} (h:Pj σ H i j k) (e:af H H'):Pj σ H' i j k:=let ⟨a,vs,v,e1,e2,e3,e4⟩:=h; ⟨a,vs,v,e1,e _ _ e2,e3,e4⟩
noncomputable def dSJ (K:PySem.W.Frag) (τ:List Sl) (i j k:Nat) (τe:List Sl):TS:=λD σ H=>∃ A H₀ B,Sta K A H₀ τ B σ H/\Pj σ H i j k/\∀ B' H',Sta K A H₀ τe B' σ H'->Pj σ H' i j k->D.nx σ H'
noncomputable def dPJ (K:PySem.W.Frag) (τ:List Sl) (i j k:Nat) (pt:List Nat):TE:=λσ H Q=>∃ A H₀ B,Sta K A H₀ τ B σ H/\Pj σ H i j k/\∀ u v H',(σ[i]?).join=some u->af H H'->bj H' (k :: pt) u v->Q v H'
noncomputable def dEJ (K:PySem.W.Frag) (τ:List Sl) (i j k:Nat) (x:D):TE:=λσ H Q=>∃ A H₀ B,Sta K A H₀ τ B σ H/\Pj σ H i j k/\∀ v H',af H H'->Den K (hd H' A) v x->Q v H'
section
variable {X:Cx} {τ τ1 τ2:List Sl} {x y z:D} {a b e o ix:Expr} {es:List Expr} {pos p q:Pos} {l:Nat} {s:Sl} {N:Po} {st:Stmt} {body rest:List Stmt} {i j k:Nat} {t c:Nd} {pt:List Nat} {xs:List Nd} {m:Nat} {ds:List D}
theorem sW:PSs X [] (dSJ X.K τ i j k τ):=jk cy λ_ _ H ⟨_,_,B,S,P,fin⟩=>fin B H S P
theorem mi (h1:PS X st (dSJ X.K τ i j k τ1)) (h2:PSs X rest (dSJ X.K τ1 i j k τ2)):PSs X (st :: rest) (dSJ X.K τ i j k τ2):=
 jk (bq h1 h2) λ_ _ _ ⟨A,H₀,B,S,P,fin⟩=>⟨A,H₀,B,S,P,λB' _ S' P'=>⟨A,H₀,B',S',P',fin⟩⟩
theorem mH {n:Str} (hN:X.N[j]?=some n:=by rfl) (hv:Vis X.env.scope n:=by first | exact Or.inl rfl | exact Or.inr (Or.inl rfl) | exact Or.inr (Or.inr rfl))
   (hd:(n == ("__debug__" : Str))=false:=by decide) (hcd:(n == ("__classdict__" : Str))=false:=by decide):PE X (.Name n pos) (dPJ X.K τ i j k []):=
 peW (a9 hN hv hd hcd) λ_ H _ ⟨_,_,_,_,⟨a,vs,v,e1,e2,e3,e4⟩,q⟩=>⟨v,e4,q _ v H e1 (af.refl _) ⟨a,vs,v,rfl,.inl e2,e3,rfl⟩⟩
theorem tR {z:Int} (ha:PE X a (dPJ X.K τ i j k pt)) (hb:PE X b (dE X.K false τ (.d (.int z)))) (hi:τ[i]?=some (.n t)) (hp:bG (k :: pt) t=some (.l xs)) (hj:ixN xs.length z=some m) (hs:fq b:=by exact λ_ _=>rfl):PE X (.Subscript a b pos) (dPJ X.K τ i j k (pt++[m])):=
 peW (dh iW ha hb hs) λσ H Q ⟨A,H₀,B,S,P,q⟩=>⟨A,H₀,B,S,P,λu v H1 eu e1 pv=>aQ (S.mono e1) λw H2 e2 d2=>by
   cases d2
   obtain ⟨u',v',m',eu',pv',ok,_⟩:=((S.mono e1).mono e2).at hi hp
   rw [eu] at eu'
   cases eu'
   obtain rfl:=(pv.mono e2).det pv'
   cases ok with
   | @l ad vs _ _ hH r=>
     obtain ⟨x,hx⟩:=kC r (mh hj)
     exact ⟨ad,vs,z,x,rfl,rfl,SqL.of hH,by unfold atI; rw [r.length,hj]; exact hx,q u x H2 eu (e1.trans e2) (pv'.snoc (.inl hH) hx)⟩⟩
theorem Sta.below {K:PySem.W.Frag} {A:Addr->Prop} {H₀ H:Hp} {B:Nat->List Addr} {σ:L2.St} (S:Sta K A H₀ τ B σ H) (hi:τ[i]?=some (.n t)) (hp:bG (k :: pt) t=some (.l xs)) {r w:Addr} (hr:(σ[i]?).join=some (.ref r)) (hw:bj H (k :: pt) (.ref r) (.ref w)):w ≠ r:=by
 obtain ⟨nd,u,e,ok⟩:=S.sl i _ hi
 rw [hr] at e
 cases e
 generalize B i=bi at nd ok
 have key:∀ {vs:List V} {bs:List Addr} {ys:List Nd},aB K (hd H (own A B)) H vs bs ys->(ys[k]?).bind (bG pt)=some (.l xs)->(∃ v,vs[k]?=some v/\bj H pt v (.ref w))->w ∈ bs:=λ{vs bs ys} q e ⟨v,h1,h2⟩=>by
   cases ei:ys[k]? with
   | none=>rw [ei] at e; cases e
   | some c=>
     rw [ei] at e
     obtain ⟨v',l,m,r',g1,g2,g3,_⟩:=q.part ei
     rw [h1] at g1
     cases g1
     obtain ⟨w',l',m',q',f1,f2,f3,_⟩:=g3.focus pt e
     obtain rfl:=h2.det f1
     cases f3 with
     | l hH r2=>
       rw [g2,f2]
       exact List.mem_append_right _ (List.mem_append_left _ (List.mem_append_right _ (List.mem_append_left _ (List.mem_cons_self ..))))
 obtain ⟨a,vs,v,e1,e2,e3,e4⟩:=hw
 cases e1
 cases ok with
 | d h=>cases hp
 | @l _ vs' bs ys hH r0=>
   rw [bG] at hp
   have:vs=vs':=by rcases e2 with e2 | e2 <;> rw [hH] at e2 <;> cases e2; rfl
   subst this
   exact λz=>(List.nodup_cons.mp nd).1 (z ▸ key r0 hp ⟨v,e3,e4⟩)
 | @t _ vs' bs ys hH r0=>
   rw [bG] at hp
   have:vs=vs':=by rcases e2 with e2 | e2 <;> rw [hH] at e2 <;> cases e2; rfl
   subst this
   exact λz=>(List.nodup_cons.mp nd).1 (z ▸ key r0 hp ⟨v,e3,e4⟩)
theorem qC {ap cp:Pos} (ho:PE X o (dPJ X.K τ i j k pt)) (he:PE X e (dE X.K true τ s)) (hi:τ[i]?=some (.n t)) (hp:bG (k :: pt) t=some (.l xs)) (hc:jy s=some c) (hl:xs.length < 1000000)
   (hfew:((backTo cp (starEach [e] X.env)).all (λx=>!x.1) && (backToKw cp (keywordEach [] X.env)).all (λx=>x.1.isSome) && decide (([e]:List Expr).length + ([]:List Keyword).length + (if ([]:List Keyword).isEmpty then 0 else 1) < 30))=true:=by rfl)
   (hline:(ap.endLine == cp.line)=true:=by rfl) (hst:starEach [e] X.env=(false,eval e X.env) :: starEach [] X.env:=by rfl) (hpl:(backTo cp (starEach [] X.env)).any (·.1)=false:=by rfl)
   (hs:swapsWith (.Call (.Attribute o "append" ap) [e] [] cp) none pos.line X.env=pure false:=by rfl) (hbase:attributeBase o "append" X.env (eval o X.env)=eval o X.env:=by rfl) :
   PS X (.Expr (.Call (.Attribute o "append" ap) [e] [] cp) pos) (dSJ X.K τ i j k (τ.set i (.n (bh (k :: pt) t (.l (xs++[c])))))):=
 psW (cX (mR PySem.F.plainAttrs_list PySem.F.slot_list_append PySem.F.type_list_append cb ho (av he aV hst) hbase hfew hline hst hpl) hs) λD σ H ⟨A,H₀,B,S,P,fin⟩=>by
   refine ⟨A,H₀,B,S,P,λu v H1 eu e1 pv=>?_⟩
   have S1:=S.mono e1
   have P1:=P.mono e1
   obtain ⟨u',l,vs,bs0,eu',pv',hH,r0,nd0,hal,hown,put⟩:=S1.putN hi hp
   rw [eu] at eu'
   cases eu'
   obtain rfl:=pv.det pv'
   refine ⟨.inl ⟨rfl,_,SqL.of hH⟩,A,H₀,B,S1,λw H2 bs e2 hf hw=>⟨l,vs,w,rfl,rfl,e2 _ _ hH,by rw [r0.length]; exact Nat.lt_trans hl (by decide),?_⟩⟩
   obtain ⟨nw,ndw⟩:=hw.nd hc
   have off:∀ b ∈ bs,b ≠ l:=λb hb z=>by rw [z] at hb; rw [(hf l hb).1] at hH; cases hH
   have sm:af (hd H2 λb=>own A B b\/b ∈ bs) (hd (upd H2 l (.lst (vs++[w]))) λb=>own A B b\/b ∈ bs0++bs):=λb o z=>by
     obtain ⟨z1,z2⟩:=ag.mp z
     refine ag.mpr ⟨λy=>z1 ?_,by rw [ai (λy:b=l=>z1 (.inl (by rw [y]; exact hal)))]; exact z2⟩
     rcases y with y | y
     · exact .inl y
     · exact (List.mem_append.mp y).elim (λz=>.inl (hown b z).1) .inr
   have sm0:af (hd H1 (own A B)) (hd (upd H2 l (.lst (vs++[w]))) λb=>own A B b\/b ∈ bs0++bs):=λb o z=>by
     obtain ⟨z1,z2⟩:=ag.mp z
     refine ag.mpr ⟨λy=>?_,by rw [ai (λy:b=l=>z1 (by rw [y]; exact hal))]; exact e2 _ _ z2⟩
     rcases y with y | y
     · exact z1 y
     · rcases List.mem_append.mp y with y | y
       · exact z1 (hown b y).1
       · rw [(hf b y).1] at z2; cases z2
   obtain ⟨B',S'⟩:=put (H1:=H2) (vs':=vs++[w]) (bs1:=bs0++bs) (xs':=xs++[c]) e2 (List.nodup_append.mpr ⟨nd0,ndw,λx hx y hy z=>by
       obtain ⟨o,q⟩:=r0.some_of x hx
       rw [z,(hf y hy).1] at q; cases q⟩)
     (λb hb=>(List.mem_append.mp hb).elim .inl λz=>.inr (hf b z))
     (aB.snoc (nw.frame sm λb hb=>ai (off b hb)) (r0.frame sm0 λb hb=>by
       obtain ⟨o,q⟩:=r0.some_of b hb
       rw [ai (hown b hb).2,e2 _ _ q,q]))
   obtain ⟨r,rs,v,f1,f2,f3,f4⟩:=P1
   rw [f1] at eu
   cases eu
   have ne:=S1.below hi hp f1 pv
   exact fin B' _ S' ⟨r,rs,v,f1,by rw [ai (Ne.symm ne)]; exact e2 _ _ f2,f3,f4⟩
theorem sJ {ns ms:List Nd} (h:k < ns.length):(ms.take k++ns.drop k)[k]?=some ns[k]\/ms.length < k:=by
 by_cases hm:ms.length < k
 · exact .inr hm
 · refine .inl ?_
   rw [List.getElem?_append_right (by simp; omega)]
   simp [Nat.min_eq_left (Nat.le_of_not_lt hm),h]
theorem oj {ns ms:List Nd} (h:k < ns.length) (h':k < ms.length):(ms.take k++ns.drop k).set k ms[k]=ms.take (k + 1)++ns.drop (k + 1):=by
 have hm:(ms.take k).length=k:=by simp; omega
 rw [List.set_append_right _ _ (by omega),hm,Nat.sub_self,List.drop_eq_getElem_cons h,List.set_cons_zero,List.take_add_one,List.getElem?_eq_getElem h',List.append_assoc]
 rfl
theorem rO (i j:Nat) {n v:Str} {ip tp:Pos} (ns ms:List Nd) (hnm:ns.length=ms.length) (Bq:Bk X l) (hN:X.N.Nodup) (hi:τ[i]?=some (.n (.l ns)))
   (hb:∀ k (h:k < ns.length) (h':k < ms.length) (r:List Nd),r[k]?=some ns[k]->PSs X body (dSJ X.K (τ.set i (.n (.l r))) i j k (τ.set i (.n (.l (r.set k ms[k]))))))
   (hr:PSs X rest (dS X.K (τ.set i (.n (.l ms))) N)) (hj:τ[j]?=some .un:=by rfl) (hij:i ≠ j:=by decide) (hNi:X.N[i]?=some v:=by rfl) (hNj:X.N[j]?=some n:=by rfl)
   (hvi:Vis X.env.scope v:=by first | exact Or.inl rfl | exact Or.inr (Or.inl rfl) | exact Or.inr (Or.inr rfl)) (hlj:Loc X.env.scope n:=by first | exact .inl rfl | exact .inr rfl)
   (hf:X.fn n=true\/X.env.scope.names.lookup n=some .local:=by first | exact .inl rfl | exact .inr rfl | assumption)
   (hd1:(v == ("__debug__" : Str))=false:=by decide) (hd2:(v == ("__classdict__" : Str))=false:=by decide)
   (hs:∀ x,foldedSetIterable (.Name v ip) X.env x=pure x:=by intro _; rfl) :
   PSs X (.For (.Name n tp) (.Name v ip) body [] pos :: rest) (dS X.K τ N):=by
 have hlen:i < τ.length:=(List.getElem?_eq_some_iff.mp hi).1
 let mx:Nat->List Nd:=λk=>ms.take k++ns.drop k
 have ml:∀ k,k<=ns.length->(mx k).length=ns.length:=λk hk=>by simp [mx]; omega
 have tk:∀ k,(τ.set i (.n (.l (mx k))))[i]?=some (.n (.l (mx k))):=λk=>List.getElem?_set_self hlen
 have tj:∀ k,(τ.set i (.n (.l (mx k))))[j]?=some .un:=λk=>by rw [List.getElem?_set_ne hij]; exact hj
 have bd:PSs X body λD σ H=>∃ kk,kk < ns.length/\dSJ X.K (τ.set i (.n (.l (mx kk)))) i j kk (τ.set i (.n (.l (mx (kk + 1))))) D σ H:=by
   rintro pins s σ H D I ⟨kk,hk,h⟩
   have hk':kk < ms.length:=by omega
   have:=hb kk hk hk' (mx kk) ((sJ (ms:=ms) hk).resolve_right (by omega))
   rw [oj hk hk'] at this
   exact this pins s σ H D I h
 have e0:mx 0=ns:=by simp [mx]
 have eE:mx ns.length=ms:=by simp [mx,hnm]
 refine aN (M:=(·=τ.set i (.n (.l (mx ns.length))))) (psW (jR Bq.po (kI Bq.calm (a9 hNi hvi hd1 hd2)) (bz hN hNj hlj hf) bd hs) λD σ H ⟨A,H₀,B,S,Me⟩=>?_) λ_ e=>by rw [e,eE]; exact hr
 obtain ⟨_,u,eu,ok⟩:=S.sl i _ hi
 generalize B i=bi at ok
 cases ok with
 | @l a vs bs0 _ hH r0=>
   refine ⟨_,slot_of eu,a,rfl,⟨_,SqL.of hH⟩,λk m σ' H'=>m=ns.length - k/\k<=ns.length/\(σ'[i]?).join=some (.ref a)/\∃ B',Sta X.K A H₀ (τ.set i (.n (.l (mx k)))) B' σ' H',⟨_,rfl,Nat.zero_le _,eu,B,by rw [e0,set_same hi]; exact S⟩,?_⟩
   rintro k m σ' H' ⟨rfl,hk,ea,B',S'⟩
   obtain ⟨_,u',eu',ok'⟩:=S'.sl i _ (tk k)
   rw [ea] at eu'
   cases eu'
   generalize B' i=bi' at ok'
   cases ok' with
   | @l _ vs' bs1 _ hH' r1=>
     have hlv:vs'.length=ns.length:=by rw [r1.length,ml k hk]
     by_cases hlt:k < ns.length
     · refine .inr ⟨⟨vs',vs'[k],SqL.of hH',List.getElem?_eq_getElem (by omega)⟩,λσ2 H2=>(σ2[i]?).join=some (.ref a)/\∃ B',Sta X.K A H₀ (τ.set i (.n (.l (mx (k + 1))))) B' σ2 H2,λσ2 H2 ⟨z1,z2⟩=>⟨ns.length - (k + 1),by omega,rfl,hlt,z1,z2⟩,λy H2 ⟨e1,e2⟩=>?_⟩
       subst e1
       have ey:=e2 vs' (SqL.of hH')
       have S2:=S'.set (af.refl _) (i:=j) (v:=y) (s:=.un) (bs:=[]) (λ_ z=>nomatch z) rfl
       rw [set_same (tj k)] at S2
       have hjl:j < σ'.length:=by rw [S'.len,List.length_set]; exact (List.getElem?_eq_some_iff.mp hj).1
       have ei:((σ'.set j (some y))[i]?).join=some (.ref a):=by rw [List.getElem?_set_ne (Ne.symm hij)]; exact ea
       exact ⟨k,hlt,A,H₀,_,S2,⟨a,vs',y,ei,hH',ey,List.getElem?_set_self hjl⟩,λB3 H3 S3 _=>⟨ei,B3,S3⟩⟩
     · obtain rfl:k=ns.length:=by omega
       exact .inl ⟨⟨vs',SqL.of hH',by omega⟩,Me.nx _ _ _ _ rfl S'⟩
end
end Hy
namespace Hy
open PySem PySem.Spec PyProof.Rows L2
open Ev (D Den aq ah)
noncomputable def rR:List Str:=["NoFraction","NoTable","NoChoice","NoSquare","NoFit","NoUndoing","NoLadder","TooMany","NoPaper","NoRow","NoStairs","NoNumber","NoCorner","NoName","NoStep","NoWeight","NoDeed","NoText","NoWord"]
noncomputable def wordOf (c:Nat):Str:=rR.getD c "else"
noncomputable def spX (K:PySem.W.Frag) (cl:Nat->Addr) (Φ:List D->Nat->Prop):Sp:=λvs H _ E=>∃ A ds c,(∀ b,A b->∃ o,H b=some o)/\aq K (hd H A) vs ds/\Φ ds c/\∀ H',af H H'->E (.ref (cl c)) none H'
noncomputable def oW (P:Program) (w:World) (K:PySem.W.Frag) (mg:Str->Option Value) (base:Heap) (cl:Nat->Addr) (k:Nat) (n:Str) (Φ:List D->Nat->Prop):Prop:=
 ∃ f fd ps,aP P w K mg base (Hx.CXe P w cl) k f fd ps (spX K cl Φ)/\mg n=some (.ref f)/\PySem.W.keepIn K (.ref f)=true/\Binds K fd ps []
noncomputable def dX (K:PySem.W.Frag) (τ:List Sl) (Ex:Hp->Prop):TE:=λσ H _=>∃ A H₀ B,Sta K A H₀ τ B σ H/\∀ H',af H₀ H'->Ex H'
noncomputable def PsX (X:Cx) (cl:Nat->Addr) (Ex:Nat->Hp->Prop):Prop:=Passes (Hx.CXe X.prog X.w cl) X (λC _ H'=>∃ c,C=.ref (cl c)/\Ex c H')
section
variable {X:Cx} {C:Bool} {τ:List Sl} {x y z:D} {a b e:Expr} {es:List Expr} {pos p np cpos:Pos} {k c:Nat} {s:Sl} {ds:List D} {N:Po} {rest body:List Stmt} {cl:Nat->Addr} {Ex:Nat->Hp->Prop} {Et:Hp->Prop}
theorem pV {n:Str} {Φ:List D->Nat->Prop} (hr:b9 k X.A) (po:PsX X cl Ex) (c0:oW X.prog X.w X.K X.mg X.base cl k n Φ) (ha:PA X (e :: es) (dA X.K C τ ds)) (h:Φ ds c) (hg:Gl X n:=by rfl) (hdb:(n == ("__debug__" : Str))=false:=by decide)
   (he:starEach (e :: es) X.env=(false,eval e X.env) :: starEach es X.env:=by rfl) (hpl:(backTo pos (starEach es X.env)).any (·.1)=false:=by rfl):PE X (.Call (.Name n p) (e :: es) [] pos) (dX X.K τ (Ex c)):=by
 obtain ⟨f,fd,ps,F,hm,hk,hb⟩:=c0
 refine peW (bx F hr hg hm hk hb .nil po ha hdb he hpl) λσ H Q ⟨A,H₀,B,S,q⟩=>bQ S λvs H1 e1 d1=>?_
 rw [List.append_nil]
 exact ⟨vw C A B,ds,c,(S.mono e1).vd,d1,h,λH' e2=>⟨c,rfl,q H' ((S.same.trans e1).trans e2)⟩⟩
theorem uD (he:PE X e (dX X.K τ N.xc)):PSs X (.Return (some e) pos :: rest) (dS X.K τ N):=
 aN (M:=λ_=>False) (psW (bL he) λD σ H ⟨A,H₀,B,S,Me⟩=>⟨A,H₀,B,S,Me.xc⟩) λ_ e=>e.elim
theorem ot (he:PE X e (dX X.K τ N.xc)) (hs:swapsWith e none pos.line X.env=pure false:=by rfl):PSs X (.Expr e pos :: rest) (dS X.K τ N):=
 aN (M:=λ_=>False) (psW (cX he hs) λD σ H ⟨A,H₀,B,S,Me⟩=>⟨A,H₀,B,S,Me.xc⟩) λ_ e=>e.elim
noncomputable def Lv (X:Cx) (cl:Nat->Addr) (c:Nat) (Et:Hp->Prop):Prop:=∀ (pins:List (Addr × Obj)) (σ:L2.St) (H:Hp) (s:Shared),Inv X pins σ H s->Et H->∀ (h':Heap) (a:Addr) (us:List Value),Heap.MadeExcOf s.heap h' a (.ref (cl c)) us->X.xe (.ref a) { s with heap:=h' }
theorem oR {n:Str} {S:Addr} (hl:Lv X cl c N.xc) (hm:X.mg n=some (.ref (cl c))) (O:Hx.rz X.K (cl c) S) (ha:PA X (e :: es) (dA X.K false τ ds)) (hds:ds.length<=sizeLine:=by decide) (hc:X.calm=true:=by rfl) (hg:Gl X n:=by rfl) (hdb:(n == ("__debug__" : Str))=false:=by decide)
   (he:starEach (e :: es) X.env=(false,eval e X.env) :: starEach es X.env:=by rfl) (hpl:(backTo cpos (starEach es X.env)).any (·.1)=false:=by rfl):PSs X (.Raise (some (.Call (.Name n np) (e :: es) [] cpos)) none pos :: rest) (dS X.K τ N):=
 aN (M:=λ_=>False) (psW (Hx.nM hc hg hm O ha hdb he hpl) λD σ H ⟨A,H₀,B,S,Me⟩=>bQ S λvs H1 e1 d1=>⟨by rw [d1.length]; exact hds,λpins s us I h' a m=>hl pins σ H1 s I (Me.xc H1 (S.same.trans e1)) h' a us m⟩) λ_ e=>e.elim
end
section
variable {P:Program} {w:World} {K:PySem.W.Frag} {mg:Str->Option Value} {base:Heap} {cl:Nat->Addr}
theorem uy {N ps:List Str} {A:Addr->Prop} {H:Hp} {vs:List V} {ds:List D} (ha:∀ b,A b->∃ o,H b=some o) (d:aq K (hd H A) vs ds):Sta K A H (jI N ds) (λ_=>[]) (L2.start N vs) H:=by
 refine ⟨af.refl _,?_,λi s hi=>?_,λ_ _ z=>(nomatch z),λ_ _ _ z=>(nomatch z),ha,λ_ _ z=>(nomatch z)⟩
 · unfold L2.start jI
   simp [d.length]
 · have hl:=d.length
   unfold jI at hi
   unfold L2.start
   by_cases hlt:i < ds.length
   · rw [List.getElem?_append_left (by simpa using hlt),List.getElem?_map,List.getElem?_eq_getElem hlt] at hi
     cases hi
     obtain ⟨v,e,dv⟩:=d.get (List.getElem?_eq_getElem hlt)
     refine ⟨rfl,v,?_,dv.mono (ao (af.refl _) λ_ z=>z.elim id λ⟨_,z⟩=>(nomatch z))⟩
     rw [List.getElem?_append_left (by simpa [hl] using hlt),List.getElem?_map,e]
     rfl
   · rw [List.getElem?_append_right (by simpa using hlt),List.getElem?_replicate] at hi
     split at hi
     · cases hi; rfl
     · cases hi
noncomputable abbrev Xe (P:Program) (w:World) (K:PySem.W.Frag) (mg:Str->Option Value) (base:Heap) (N:List Str) (qual:Str) (st:Stmt) (f:Addr) (cdv:Value) (A:Around) (outer:List Env) (s:Shared) (H:Hp) (E:XK) (cl:Nat->Addr):Cx:=fh (Hx.CXe P w cl) P w K mg base N qual (ak st) f cdv A outer s H E
theorem fnX {x qual:Str} {st:Stmt} {f:Addr} {fd:FuncData} {N ps:List Str} {k:Nat} {Φ:List D->Nat->Prop} (F:Fun K x qual st f fd) (S:aE N ps (ak st)) (hb:∀ x ∈ aA,mg x=none) (len:∀ ds c,Φ ds c->ds.length=ps.length)
   (body:∀ ds c,Φ ds c->∀ cdv A outer s H E,b9 k (Xe P w K mg base N qual st f cdv A outer s H E cl).A->Bk (Xe P w K mg base N qual st f cdv A outer s H E cl).nox k->PsX (Xe P w K mg base N qual st f cdv A outer s H E cl) cl (λc H'=>E (.ref (cl c)) none H')->(∀ c',Lv (Xe P w K mg base N qual st f cdv A outer s H E cl) cl c' (λH'=>E (.ref (cl c')) none H')) ->
     PSs (Xe P w K mg base N qual st f cdv A outer s H E cl) (aT st) (dS K (jI N ds) { nx:=λ_=>False,rt:=λ_=>False,xc:=λH'=>E (.ref (cl c)) none H' })) :
   aP P w K mg base (Hx.CXe P w cl) (k + 1) f fd ps (spX K cl Φ):=by
 obtain ⟨oc,od,dV,kV,doc,pm,an,cdv,ct,osl,rfl,lk,hcd⟩:=F.ex
 refine qr lk hcd S (λvs H Q E ⟨A,ds,c,_,d,h,_⟩=>d.length.trans (len ds c h)) λA outer s H vs Q E hr ⟨A',ds,c,ha,d,h,q⟩=>⟨_,body ds c h cdv A outer s H E hr ⟨hr,rfl,hb,PassesOwn.never⟩ (Hx.lD λ_ _ z=>z) (λc' pins σ H s I q h' a us m=>Hx.jA I q m),A',H,λ_=>[],uy (ps:=ps) ha d,λ_ _ _ _ h=>h.elim,λ_ _ _ _ h=>h.elim,λ_ _ _ _ h=>h.elim,λ_ _ _ _ h=>h.elim,q⟩
end
structure qA (k:Nat) (A:Around):Prop where
 dp:A.depth + 3 * k + 5 < recursionLimit
 un:A.units + 16 * k + 200 < cLine
noncomputable def cf (P:Program) (w:World) (K:PySem.W.Frag) (mg:Str->Option Value) (base:Heap) (cl:Nat->Addr) (k:Nat) (fw:Addr) (c:Nat):Prop:=
 ∀ (A:Around) (outer:List PySem.Env) (s:Shared) (H:Hp) (a:Addr) (o:Obj) (Q:VK),A.handled=some (.ref a)->H a=some (Hx.lN o)->Hx.mr o (cl c)->qA k A->my P w K mg base A outer s H ->
   (∀ H',af H H'->Q (.str (wordOf c)) H')->codeAny (model P w) A (.call (.ref fw) ⟨[.ref a],[]⟩) (CR CX0 outer P w H s Q E0) s
theorem cf.mono {P:Program} {w:World} {K:PySem.W.Frag} {mg:Str->Option Value} {base:Heap} {cl:Nat->Addr} {j k:Nat} {f:Addr} {c:Nat} (h:cf P w K mg base cl j f c) (q:j<=k):cf P w K mg base cl k f c:=λA outer s H a o Q h1 h2 h3 hr=>h A outer s H a o Q h1 h2 h3 ⟨by have:=hr.dp; omega,by have:=hr.un; omega⟩
section
variable {X:Cx} {C:Bool} {τ:List Sl} {e:Expr} {k c i:Nat} {N:Po} {rest body:List Stmt} {cl:Nat->Addr} {n:Str} {fw S:Addr} {p p' q psm pr ph pos:Pos}
noncomputable def trW (cl:Nat->Addr) (c i:Nat) (a:Addr) (o:Obj):TE:=λσ H Q=>H a=some (Hx.lN o)/\Hx.mr o (cl c)/\σ[i]?=some (some (.ref a))/\∀ H',af H H'->Q (.str (wordOf c)) H'
theorem oq {a:Addr} {o:Obj} (hg:Gl X "_law_word") (hm:X.mg "_law_word" = some (.ref fw)) (hk:PySem.W.keepIn X.K (.ref fw)=true) (hW:cf X.prog X.w X.K X.mg X.base cl k fw c) (hr:qA k X.A)
   (hi:X.N[i]?=some n) (hn:X.env.scope.names.lookup n=some .local) (h1:(n == ("__debug__" : Str))=false) (h2:(n == ("__classdict__" : Str))=false) :
   PE (Hx.XH X a) (.Call (.Name "_law_word" p) [.Name n p'] [] q) (trW cl c i a o):=by
 intro pins s σ H Q I ⟨e1,e2,e3,z⟩
 refine wpAny_Call_Name_kw (eG I hg hm ?_ (by decide))
 refine PySem.W.callWith_K (h₀:=X.base) I.ok.mod.kin hk (thn (av (a9 (X:=Hx.XH X a) hi (.inl hn) h1 h2) aV rfl q pins s σ H (λvs H1=>vs=[.ref a]/\H1=H) I ⟨_,e3,rfl,rfl⟩) λus s1 ⟨vs,H1,I1,r1,e4,e5⟩=>⟨I1.kIn,?_⟩) rfl rfl
 subst e4
 subst e5
 cases r1 with
 | cons ra rr=>
   cases rr
   cases ra
   refine wpAny_call (codeAny_mono (hW (X.A.mark (some (.ref a))) X.stack s1 _ a o Q rfl e1 e2 ⟨hr.dp,hr.un⟩ I1.tQ z) λres s' hq=>?_)
   cases res with
   | error e=>exact hq.elim
   | ok fl=>
     cases fl with
     | ret u=>exact I1.after hq
     | next=>exact False.elim hq
     | brk=>exact False.elim hq
     | cont=>exact False.elim hq
end
noncomputable def exX (cl:Nat->Addr) (c:Nat):Ex where
 p:=λ_ _ o _=>∃ ob,o=Hx.lN ob/\Hx.mr ob (cl c)
 mono:=λ_ h=>h
 ext:=λ⟨ob,h,_⟩=>.inr (.inl ⟨ob,_,h⟩)
section
variable {X:Cx} {C:Bool} {τ:List Sl} {x y z:D} {a b e c0 tg it elt:Expr} {es ifs:List Expr} {pos p q q':Pos} {k c:Nat} {cl:Nat->Addr} {xs:List D} {scope:Scope}
theorem nL {b:Bool} {v:V} {u:Value} (O:Hx.bT X.K (cl c)) (hv:∀ u',RelV v u'->u'=u) (e:PySem.W.kitOne X.K (.ref (cl c)) u=some b) :
   cR X (.builtin "isinstance") (λxs H Q=>∃ a o x,xs=[.ref a,v]/\H a=some (.frz o x)/\Hx.mr o (cl c)/\Q (.bl b) H):=by
 rintro pins s σ H vs us Q I rv ⟨a,o,x,rfl,e2,⟨⟨e3,e4⟩,ws,e5,e6⟩,q⟩
 obtain ⟨u1,u2,rfl,r1,r2⟩:=rv.two
 cases r1
 have r2:=hv _ r2
 subst r2
 have g:=(I.hok a _ e2).1
 refine PySem.W.kia_one (Hx.nX O) I.kIn ⟨o,g,e3,?_,?_⟩ e (λz=>nomatch z) λtk=>⟨.bl b,H,I.kept (t':=tk) (λ_ _ z=>z),rfl,q⟩
 · unfold PySem.W.notCls; rw [e5]
 · rw [e4]; trivial
theorem bf (i:Nat) {n t:Str} {C0:Addr} {bb:Bool} (hm:X.mg t=some (.ref C0)) (O:Hx.bT X.K (cl c)) (hk:PySem.W.kitOne X.K (.ref (cl c)) (.ref C0)=some bb) (hbi:X.mg "isinstance" = none) (hi:τ[i]?=some (.x (exX cl c)):=by rfl) (hN:X.N[i]?=some n:=by rfl) (hg:Gl X "isinstance":=by rfl) (hgt:Gl X t:=by rfl)
   (hv:Vis X.env.scope n:=by first | exact Or.inl rfl | exact Or.inr (Or.inl rfl) | exact Or.inr (Or.inr rfl)) (h1:(n == ("__debug__" : Str))=false:=by decide) (h2:(n == ("__classdict__" : Str))=false:=by decide) (h3:(t == ("__debug__" : Str))=false:=by decide)
   (he:starEach [.Name n q,.Name t q'] X.env=(false,eval (.Name n q) X.env) :: starEach [.Name t q'] X.env:=by rfl) (hpl:(backTo pos (starEach [.Name t q'] X.env)).any (·.1)=false:=by rfl) :
   PE X (.Call (.Name "isinstance" p) [.Name n q,.Name t q'] [] pos) (dE X.K C τ (.d (.bl bb))):=by
 refine peW (cU (nL (v:=.ref C0) (u:=.ref C0) O (λ_ z=>z) hk) hg hbi (by decide +kernel) (av (a9 hN hv h1 h2) (av (iZ (v:=.ref C0) hgt hm rfl h3) aV rfl) he) (by decide) (by decide) he hpl) λσ H Q q=>?_
 obtain ⟨A,H₀,B,S,k⟩:=cV q
 obtain ⟨d,o,h1,h2,h3,ob,rfl,ho⟩:=S.sl i _ hi
 exact ⟨_,slot_of h2,d,ob,_,rfl,h3,ho,k _ H (af.refl _) .bl⟩
theorem sE (i:Nat) {n t:Str} {T:String} {bb:Bool} (hm:X.mg t=none) (hb:bootBuiltins t=some (.type T)) (O:Hx.bT X.K (cl c)) (hk:PySem.W.kitOne X.K (.ref (cl c)) (.type T)=some bb) (hbi:X.mg "isinstance" = none) (hi:τ[i]?=some (.x (exX cl c)):=by rfl) (hN:X.N[i]?=some n:=by rfl) (hg:Gl X "isinstance":=by rfl) (hgt:Gl X t:=by rfl)
   (hv:Vis X.env.scope n:=by first | exact Or.inl rfl | exact Or.inr (Or.inl rfl) | exact Or.inr (Or.inr rfl)) (h1:(n == ("__debug__" : Str))=false:=by decide) (h2:(n == ("__classdict__" : Str))=false:=by decide) (h3:(t == ("__debug__" : Str))=false:=by decide) (h4:t ≠ "__name__":=by decide)
   (he:starEach [.Name n q,.Name t q'] X.env=(false,eval (.Name n q) X.env) :: starEach [.Name t q'] X.env:=by rfl) (hpl:(backTo pos (starEach [.Name t q'] X.env)).any (·.1)=false:=by rfl) :
   PE X (.Call (.Name "isinstance" p) [.Name n q,.Name t q'] [] pos) (dE X.K C τ (.d (.bl bb))):=by
 refine peW (cU (nL (v:=.ty T) (u:=.type T) O (λ_ z=>z) hk) hg hbi (by decide +kernel) (av (a9 hN hv h1 h2) (av (kA (v:=.ty T) hgt hm hb rfl h4 h3) aV rfl) he) (by decide) (by decide) he hpl) λσ H Q q=>?_
 obtain ⟨A,H₀,B,S,k⟩:=cV q
 obtain ⟨d,o,h1,h2,h3,ob,rfl,ho⟩:=S.sl i _ hi
 exact ⟨_,slot_of h2,d,ob,_,rfl,h3,ho,k _ H (af.refl _) .bl⟩
theorem rP {n:Int} (hc:Ck true X) (hm:X.mg "range" = none) (h:PE X a (dE X.K false τ (.d (.int n)))) (h1:-(2 ^ 62)<=n) (h2:n < 2 ^ 62) (hg:Gl X "range":=by rfl) (hs:starEach [a] X.env=[(false,eval a X.env)]:=by rfl):PI X tg (.Call (.Name "range" p) [a] [] pos) (dI X.K τ (dD 0 n.toNat)):=
 piW (gH hc hg hm (ae h ar hs) hs) λσ H R ⟨A,H₀,B,S,k⟩=>bQ S λvs H1 e1 d1=>by
   cases d1 with
   | cons d r=>
     cases r
     cases d
     exact ⟨n,rfl,h1,h2,k _ H1 e1 (jD 0 _)⟩
theorem qM (j:Nat) {n:Str} {g f:Nat->D} {t:Nat->Bool} (hi:PI X (.Name n p) it (dI X.K τ xs)) (hx:∀ i (h:i < xs.length),xs[i]=g i) (hl:xs.length < 1000000)
   (ht:∀ i,i < xs.length->∀ s H fp,PT (cpX X s H scope fp) c0 (dT X.K ((aI τ (bCp X.N scope)++[Sl.un]).set j (.d (g i))) (t i)))
   (he:∀ i,i < xs.length->t i=true->∀ s H fp,PE (cpX X s H scope fp) elt (dE X.K true ((aI τ (bCp X.N scope)++[Sl.un]).set j (.d (g i))) (.d (f i))))
   (hc:bOk X.env.scope scope=true:=by kernel_rfl) (hu:(aI τ (bCp X.N scope)++[Sl.un])[j]?=some .un:=by rfl) (hN:(bNm scope++[("#" : Str)])[j]?=some n:=by rfl) (hv:∀ s H fp,Loc (cpX X s H scope fp).env.scope n:=by intro _ _ _; first | exact .inl rfl | exact .inr rfl)
   (hf:∀ s H fp,(cpX X s H scope fp).fn n=true\/(cpX X s H scope fp).env.scope.names.lookup n=some .local:=by intro _ _ _; first | exact .inr rfl | exact .inl rfl) (hs:∀ x,foldedSetIterable it X.env x=pure x:=by intro _; rfl) :
   Cmp X elt (.Name n p) it [c0] scope τ (((List.range xs.length).filter t).map f):=by
 refine jM (T:=λi=>(aI τ (bCp X.N scope)++[Sl.un]).set j (.d (g i))) (t:=t) (f:=f) (elt:=elt) (ifs:=[c0]) hc hi (λi=>⟨List.length_set,λl x h=>?_⟩) (λi h s H fp=>?_) (λi h s H fp=>oI (ht i h s H fp)) he hl hs
 · rw [List.getElem?_set_ne (λz=>by rw [<- z,hu] at h; cases h)]
   exact h
 · rw [hx i h]
   exact mZ j (cu hc).2 hN (hv s H fp) (hf s H fp)
theorem qU (hm:X.mg "len" = none) (h:PE X a (dE X.K C τ (.d (.lst xs)))) (hg:Gl X "len":=by rfl) (he:starEach [a] X.env=(false,eval a X.env) :: starEach [] X.env:=by rfl) (hpl:(backTo pos (starEach [] X.env)).any (·.1)=false:=by rfl):PE X (.Call (.Name "len" p) [a] [] pos) (dE X.K C τ (.d (.int xs.length))):=by
 obtain ⟨r,h1,h2⟩:=d0 (X:=X) (xs:=xs)
 exact peW (cU h1 hg hm (by decide +kernel) (ae h ar he) (by decide) (by decide) he hpl) (jP h2)
end
section
variable {P:Program} {w:World} {K:PySem.W.Frag} {mg:Str->Option Value} {base:Heap} {cl:Nat->Addr}
noncomputable abbrev Xw (P:Program) (w:World) (K:PySem.W.Frag) (mg:Str->Option Value) (base:Heap) (N:List Str) (qual:Str) (st:Stmt) (f:Addr) (cdv:Value) (A:Around) (outer:List Env) (s:Shared) (H:Hp):Cx:=({ fh CX0 P w K mg base N qual (ak st) f cdv A outer s H E0 with calm:=false }:Cx).nox
theorem fnW {qual p0:Str} {st:Stmt} {f:Addr} {fd:FuncData} {N:List Str} {k c:Nat} (F:Fun K "_law_word" qual st f fd) (S:aE N [p0] (ak st)) (hbind:Binds K fd [p0] [])
   (body:∀ cdv A outer s H,Ck true (Xw P w K mg base N qual st f cdv A outer s H)->PSs (Xw P w K mg base N qual st f cdv A outer s H) (aT st) (dS K (.x (exX cl c) :: List.replicate (N.length - 1) .un) { nx:=λ_=>False,rt:=λr=>r=.d (.str (wordOf c)) })):cf P w K mg base cl (k + 1) f c:=by
 intro A outer s H a o Q hh hH hO hr e0 q
 obtain ⟨oc,od,dV,kV,doc,pm,an,cdv,ct,osl,rfl,lk,hcd⟩:=F.ex
 have KX:K.In s.heap:=e0.mod.kin.keeps λb o e=>(e0.bs b o e).1
 have lim:s.heap.NoLimit:=e0.mod.nolimit.keeps λb o e=>(e0.bs b o e).1
 have hpl:1<=N.length:=by
   have:=congrArg List.length S.pre
   rw [List.length_take] at this
   exact Nat.le_trans (Nat.le_of_eq this.symm) (Nat.min_le_right _ _)
 refine codeAny_call_function (by have:=hr.dp; omega) (KX _ _ lk) rfl S.co S.gen rfl (PySem.W.codeRec_of KX hcd) (hbind s [.ref a] KX rfl _ _ _ _ ?_)
 refine wpAny_newFunctionEnv_cells S.kind (λ⟨n,v⟩ hy=>?_) λenv he s1 x=>?_
 · rcases S.par n (List.of_mem_zip hy).1 with z | z
   · exact .inl z
   · exact .inr ⟨z,PySem.W.cellsFrom_some _ _ _ (.inl z)⟩
 subst he
 refine ⟨lim.keeps x.toInCall.keep,codeAny_func ?_⟩
 have I:Inv { fh CX0 P w K mg base N qual (ak st) f cdv A outer s H E0 with calm:=false } [] (start N [.ref a]) H s1:=gO (cm:=false) S (λz=>nomatch z) e0 rfl (.cons rfl .nil) x
 have ck:Ck true (Xw P w K mg base N qual st f cdv A outer s H):=.inr ⟨rfl,a,o,_,hO.2.choose,hh,hH,hO.2.choose_spec.1,hO.2.choose_spec.2⟩
 have ow:∀ b,own (λ_=>False) (λi=>if i=0 then [a] else []) b ↔ b=a:=λb=>by
   refine ⟨λz=>z.elim False.elim λ⟨i,z⟩=>?_,λz=>.inr ⟨0,by simp [z]⟩⟩
   by_cases e:i=0
   · simp only [if_pos e] at z; exact List.mem_singleton.mp z
   · simp only [if_neg e] at z; cases z
 have hB:∀ i b,b ∈ (if i=0 then [a] else []:List Addr)->i=0/\b=a:=λi b z=>by
   by_cases e:i=0
   · rw [if_pos e] at z; exact ⟨e,List.mem_singleton.mp z⟩
   · rw [if_neg e] at z; cases z
 refine wpAny_mono (body cdv A outer s H ck [] s1 _ H { nx:=λ_ _=>False,rt:=λv H'=>af (Hy.hd H (·=a)) H'/\v=.str (wordOf c) } (I.fb _) ⟨λ_=>False,Hy.hd H (·=a),λi=>if i=0 then [a] else [],⟨aD,?_,λi s hi=>?_,λi b z=>?_,λi j b z1 z2=>((hB i b z1).1).trans ((hB j b z2).1).symm,λb z=>z.elim,λi b z=>⟨Hx.lN o,by rw [(hB i b z).2]; exact hH⟩⟩,λ_ _ _ _ z=>z.elim,λ_ _ _ _ z=>z.elim,λ_ _ _ _ z=>z.elim,λv H' bs s h e hf z=>?_,λ_ _=>trivial⟩) (λfl s' hs=>?_) λe s' hs=>hs.elim
 · unfold L2.start
   simp
 · match i,hi with
   | 0,hi=>
     cases hi
     exact ⟨a,_,rfl,rfl,hH,o,rfl,hO⟩
   | i + 1,hi=>
     rw [List.getElem?_cons_succ,List.getElem?_replicate] at hi
     split at hi
     · cases hi; rfl
     · cases hi
 · rw [(hB i b z).2]
   unfold Hy.hd
   rw [if_pos rfl]
 · obtain rfl:=(h:s=.d (.str (wordOf c)))
   obtain ⟨_,u,e1,d⟩:=z
   cases e1
   cases d
   exact ⟨e,rfl⟩
 · cases fl with
   | ret u=>
     obtain ⟨v,σ',H',J,rv,z1,rfl⟩:=hs
     refine ⟨_,H',J.os,J.bare,J.base,J.hok,rv,q H' λb ob hb=>?_⟩
     by_cases e:b=a
     · subst e
       rw [hH] at hb
       cases hb
       exact J.base.frzs b _ _ hH
     · exact z1 b ob (ag.mpr ⟨e,hb⟩)
   | next=>obtain ⟨_,_,_,z⟩:=hs; exact z.elim
   | brk=>obtain ⟨_,_,_,z⟩:=hs; exact z.elim
   | cont=>obtain ⟨_,_,_,z⟩:=hs; exact z.elim
end
end Hy
namespace Hy
open PySem PySem.Spec PyProof.Rows L2
open Ev (D Den aq bc bY)
section
variable {X:Cx} {C:Bool} {τ:List Sl} {a e tg it elt:Expr} {es ifs:List Expr} {pos p:Pos} {Et:Hp->Prop} {scope:Scope}
end
end Hy
namespace Hy
open PySem PySem.Spec PyProof.Rows L2
open Ev (D Den aq)
section
variable {P:Program} {w:World} {K:PySem.W.Frag} {h:Heap} {mg:Str->Option Value} {base:Heap} {x:Str} {st:Stmt} {f:Addr} {ps:List Str} {k:Nat} {Φ:List D->Nat->Prop} {cl:Nat->Addr}
theorem Dfn.uH (d:Dfn K x st f) (X:K.In h) (G:h.Ns mainGlobals mg) (b:BdA x st ps) (o:∀ fd,Fun K x x st f fd->aP P w K mg base (Hx.CXe P w cl) k f fd ps (spX K cl Φ)):oW P w K mg base cl k x Φ:=by
 obtain ⟨fd,F,h1,h2,h3⟩:=d.fn X G b
 exact ⟨f,fd,ps,o fd F,h1,h2,h3⟩
end
theorem j3 {K:PySem.W.Frag} {C D:Addr} {dd:Option Addr} {cd:ClassData} {sl:Array (Option Value)} {b:Bool} (h:(Value.ref C == Value.ref D)=false) (e:K.lookup D=some ⟨.type "type",dd,.cls cd,sl⟩) (s:PySem.W.subIn K (.ref C) (.ref D)=some b):PySem.W.kitCls K (.ref C) (.ref D)=some b/\PySem.W.kitOne K (.ref C) (.ref D)=some b:=by
 have z:PySem.W.kitCls K (.ref C) (.ref D)=some b:=by
   have c:PySem.W.clsIn K D=some cd:=by unfold PySem.W.clsIn; rw [e]
   have t:PySem.W.typeIn K (.ref D)=some (.type "type"):=by show (K.lookup D).map _=_; rw [e]; rfl
   show (if ((PySem.W.clsIn K D).isSome && PySem.W.typeIn K (.ref D) == some (.type "type"))=true then PySem.W.subIn K (.ref C) (.ref D) else none)=some b
   rw [if_pos (by rw [c,t]; simp)]
   exact s
 refine ⟨z,?_⟩
 unfold PySem.W.kitOne
 rw [if_neg (by rw [h]; decide)]
 exact z
theorem nC {K:PySem.W.Frag} {C:Addr}:PySem.W.kitOne K (.ref C) (.ref C)=some true:=by
 unfold PySem.W.kitOne
 rw [if_pos (by simp)]
theorem oo {K:PySem.W.Frag} {C:Addr} (s:PySem.W.subIn K (.ref C) (.type "ValueError")=some true):PySem.W.kitOne K (.ref C) (.type "ValueError")=some true:=by
 unfold PySem.W.kitOne
 rw [if_neg (by simp)]
 show (if PySem.W.kitMeta "ValueError" = true then PySem.W.subIn K (.ref C) (.type "ValueError") else none)=some true
 rw [if_pos (by decide +kernel)]
 exact s
theorem rn {K:PySem.W.Frag} {C S:Addr} (h:PySem.W.subIn K (.ref S) (.type "BaseException")=some true) (k:PySem.W.kitCls K (.ref C) (.ref S)=some true):PySem.W.exmOne K (.ref C) (.ref S)=some true:=by
 unfold PySem.W.exmOne
 rw [if_pos (by rw [h]; rfl)]
 exact k
end Hy
namespace L2
open PySem PySem.Spec PyProof.Rows
section
variable {κ:Type} [DecidableEq κ]
end
section
variable {P:Program} {w:World} {H:Hp} {h:Heap} {a:Addr}
end
section
variable {X:Cx} {pins:List (Addr × Obj)} {σ:St} {H:Hp} {s:Shared} {a:Addr} {y v:V} {u r:Value} {o:Option V} {A:Around} {E:Value->Shared->Prop}
theorem Inv.big (I:Inv X pins σ H s):sysModules < s.heap.objs.size:=by
 have h:mainGlobals < s.heap.objs.size:=(I.mod.glob.keeps I.bk).lt
 exact Nat.lt_trans (by decide) h
theorem px {h':Heap} {t':Nat} {ob:HO} (I:Inv X pins σ H s) (mu:Mut (H a)) (hs:Heap.SameBut a s.heap h') (he:∃ q,h'.get? a=some q) (new:br X.prog X.w (upd H a ob) h' a ob) :
   Inv X pins σ (upd H a ob) { s with heap:=h',toks:=t' }:=
 I.write (x:=a) (e:=a) mu (.inl rfl) (λb q hb z=>(hs.2 b hb).trans z) he new
end
section
variable {X:Cx} {pins:List (Addr × Obj)} {σ:St} {H:Hp} {s:Shared} {a:Addr} {kvs:List (Key × V)} {k:Key} {u:Value} {A:Around} {E:Value->Shared->Prop}
end
noncomputable def tu (i:Expr):Prop:=∀ ov iv,subscripted i false ov iv=operate [ov,iv] (getItem ov iv)
theorem oX {prog:Program} {w:World} {A:Around} {E:Value->Shared->Prop} {s:Shared} {env:Env} {value slice:Expr} {pos:Pos} {T id:String} {Q:Value->Shared->Prop}
   (hl:typeLookup (.type T) "__getitem__" = pure (some (.builtin id))) (hs:tu slice)
   (h:wpAny (model prog w) A (eval value env) (λo s₁=>wpAny (model prog w) A (eval slice env) (λi s₂=>s₂.TypeIs o T/\wpAny (model prog w) A (getItem o i) Q E s₂) E s₁) E s) :
   wpAny (model prog w) A (eval (.Subscript value slice pos) env) Q E s:=by
 refine Subscript_ (wpAny_mono h (λo s₁ h₁=>wpAny_mono h₁ (λi s₂ h₂=>?_) λ_ _ x=>x) λ_ _ x=>x)
 obtain ⟨hT,h₂⟩:=h₂
 unfold subscriptTail
 refine wpAny_bind ?_
 rw [getitemInPython_of_ne hT.not_modules]
 refine wpAny_bind (wpAny_specialOf hT hl ?_)
 have fin:wpAny (model prog w) A (subscripted slice false o i) (λr s₃=>wpAny (model prog w) A (letTemporaryGo value o r >>= λ_=>pure r) Q E s₃) E s₂:=by
   rw [hs o i]
   exact wpAny_operating (wpAny_mono h₂ (λr s₃ h₃=>wpAny_bind (wpAny_letTemporaryGo (wpAny_pure h₃))) λ_ _ x=>x)
 first
   | exact wpAny_pure (wpAny_bind fin)
   | exact wpAny_bind (wpAny_pure (wpAny_bind fin))
   | exact wpAny_bind fin
section
variable {X:Cx} {o i e value:Expr} {pos pos' tpos:Pos} {td ty tv:TE}
end
section
variable {X:Cx} {pos:Pos}
end
section
variable {X:Cx} {pins:List (Addr × Obj)} {σ:St} {H:Hp} {s:Shared} {a:Addr} {y d:V} {u r:Value} {o:Option V} {A:Around} {E:Value->Shared->Prop}
end
section
variable {X:Cx} {o e f:Expr} {apos cpos:Pos} {td ty tx:TE}
end
end L2
namespace L2
open PySem PySem.Spec PyProof.Rows PySem.SeqAt
section
variable {P:Program} {w:World} {A:Around} {E:Value->Shared->Prop} {s:Shared}
theorem lH {b:Bool} {Q:Int->Shared->Prop} (h:Q (hashInt (if b then 1 else 0)) { s with toks:=s.toks + 1 }) :
   wpAny (model P w) A (pyHash (.bool b)) Q E s:=by
 have hT:s.TypeIs (.bool b) "bool":=rfl
 unfold pyHash
 have hv:[Value.bool b].any Value.onHeap=false:=rfl
 refine wpAny_bind ?_
 rw [cRoomFor,if_neg (by rw [hv]; exact Bool.false_ne_true)]; refine wpAny_pure ?_
 refine wpAny_bind (wpAny_specialOf hT F.slot_bool_hash.lookup ?_)
 show wpAny _ _ (if (some (Value.builtin "int.__hash__") == some Value.none)=true then _ else _) Q E s
 rw [if_neg (by rw [beq_builtin_none]; exact Bool.false_ne_true)]
 refine wpAny_bind (wpAny_specialOf hT F.slot_bool_hash.lookup ?_)
 show wpAny _ _ (callSpecialIfBoundUnlessNone? (.bool b) "__hash__" _ >>= _) Q E s
 refine wpAny_bind (wpAny_callSpecialIfBoundUnlessNone?_slot hT F.slot_bool_hash
   (wpAny_call_entry F.slot_bool_hash hT F.entry_int_hash
     (show wpAny _ _ (do ret (<- mkInt (rawHash (if b then 1 else 0)))) _ _ s from wpAny_ret_mkInt ?_) (F.args_int_hash_1 _)))
 have hr:=rawHash_range (if b then 1 else 0)
 show wpAny _ _ (if (decide (-(2:Int) ^ 63<=rawHash (if b then 1 else 0)) && decide (rawHash (if b then 1 else 0) < 2 ^ 63))=true then _ else _) Q E _
 rw [if_pos (by rw [decide_eq_true hr.1,decide_eq_true hr.2]; rfl)]
 exact wpAny_pure h
noncomputable def HK (P:Program) (w:World) (A:Around) (h:Heap) (v:Value) (x:Int) (d:Nat):Prop:=
 ∀ (s:Shared) (E:Value->Shared->Prop) (Q:Int->Shared->Prop),s.heap=h->Q x { s with toks:=s.toks + d }->wpAny (model P w) A (pyHash v) Q E s
theorem gU {a:Addr} {u v:Value} {x y:Int} {m n:Nat} {Q:Int->Shared->Prop} (hu:A.units < cLine) (hk:IsTup s.heap a #[u,v]) (h1:∀ B,B.units<=A.units + 1->HK P w B s.heap u x m) (h2:∀ B,B.units<=A.units + 1->HK P w B s.heap v y n)
   (h:Q (reduceHash (Builtin.Tuple.tupleHashOf [x,y])) { s with toks:=s.toks + (m + n + 1) }):wpAny (model P w) A (pyHash (.ref a)) Q E s:=by
 obtain ⟨o,ho,hc,k,hd⟩:=hk
 have hT:s.TypeIs (.ref a) "tuple":=⟨o,ho,hc⟩
 unfold pyHash
 refine wpAny_bind (wpAny_cRoomFor_or (.inr hu) ?_)
 refine wpAny_bind (wpAny_specialOf hT F.slot_tuple_hash.lookup ?_)
 show wpAny _ _ (if (some (Value.builtin "tuple.__hash__") == some Value.none)=true then _ else _) Q E s
 rw [if_neg (by rw [beq_builtin_none]; exact Bool.false_ne_true)]
 refine wpAny_bind (wpAny_specialOf hT F.slot_tuple_hash.lookup ?_)
 show wpAny _ _ (callSpecialIfBoundUnlessNone? (.ref a) "__hash__" _ >>= _) Q E s
 refine wpAny_bind (wpAny_callSpecialIfBoundUnlessNone?_slot hT F.slot_tuple_hash (wpAny_call_entry F.slot_tuple_hash hT F.entry_tuple_hash ?_ (F.args_tuple_hash_1 _)))
 show wpAny _ _ (Builtin.Tuple.tupleItemsOf (.ref a) >>= _) _ _ s
 refine wpAny_bind (wpAny_tupleItemsOf ho hd ?_)
 refine wpAny_bind ?_
 rw [<- Array.forIn_toList]
 refine wpAny_forIn_list _
   (λrest (b:Array Int) s'=>(rest=[u,v]/\b=#[]/\s'=s)\/(rest=[v]/\b=#[x]/\s'={ s with toks:=s.toks + m })\/(rest=[]/\b=#[x,y]/\s'={ s with toks:=s.toks + (m + n) }))
   _ ?_ ?_ _ _ (.inl ⟨rfl,rfl,rfl⟩)
 · rintro z rest b s' (⟨e,rfl,rfl⟩ | ⟨e,rfl,rfl⟩ | ⟨e,_⟩)
   · cases e
     refine wpAny_bind (h1 _ ?_ _ _ _ rfl ?_)
     · exact Nat.le_refl _
     · exact wpAny_pure (.inr (.inl ⟨rfl,rfl,rfl⟩))
   · cases e
     refine wpAny_bind (h2 _ ?_ _ _ _ rfl ?_)
     · exact Nat.le_refl _
     · exact wpAny_pure (.inr (.inr ⟨rfl,rfl,by simp [Nat.add_assoc]⟩))
   · cases e
 · rintro b s' (⟨e,_⟩ | ⟨e,_⟩ | ⟨_,rfl,rfl⟩)
   · cases e
   · cases e
   show wpAny _ _ (retInt (Builtin.Tuple.tupleHashOf [x,y])) _ _ _
   refine wpAny_ret_mkInt ?_
   show wpAny _ _ (if (decide (-(2:Int) ^ 63<=Builtin.Tuple.tupleHashOf [x,y]) && decide (Builtin.Tuple.tupleHashOf [x,y] < 2 ^ 63))=true then _ else _) Q E _
   unfold reduceHash at h
   by_cases hr:(decide (-(2:Int) ^ 63<=Builtin.Tuple.tupleHashOf [x,y]) && decide (Builtin.Tuple.tupleHashOf [x,y] < 2 ^ 63))=true
   · rw [if_pos hr]
     rw [if_pos hr] at h
     exact wpAny_pure (by simpa [Nat.add_assoc] using h)
   · rw [if_neg hr]
     rw [if_neg hr] at h
     exact wpAny_bind (wpAny_rule (wpAny_pure (by simpa [Nat.add_assoc] using h)))
theorem gp {a:Addr} {u v:Value} {n:Nat} {Q:Bool->Shared->Prop} (hk:IsTup s.heap a #[u,v]) (h1:∀ A E Q,Q true s->wpAny (model P w) A (eqIsQuiet n u) Q E s) (h2:∀ A E Q,Q true s->wpAny (model P w) A (eqIsQuiet n v) Q E s) (h:Q true s) :
   wpAny (model P w) A (eqIsQuiet (n + 1) (.ref a)) Q E s:=by
 obtain ⟨o,ho,hc,k,hd⟩:=hk
 have hT:s.TypeIs (.ref a) "tuple":=⟨o,ho,hc⟩
 unfold eqIsQuiet
 refine wpAny_bind (wpAny_specialOf hT F.slot_tuple_eq.lookup ?_)
 show wpAny _ _ (isInstance (.ref a) (.type "tuple") >>= _) _ _ s
 refine wpAny_bind (wpAny_isInstance hT isSubtype_tuple_tuple ?_)
 simp only [Bool.not_true,Bool.false_eq_true,if_false]
 refine wpAny_bind (wpAny_seqItems ho hd ?_)
 refine wpAny_bind ?_
 show wpAny _ _ (forIn #[u,v] _ _) _ _ s
 rw [<- Array.forIn_toList]
 refine wpAny_forIn_list _ (λrest r s'=>r.1=none/\s'=s/\∀ z ∈ rest,z=u\/z=v) _ ?_ ?_ _ _ ⟨rfl,rfl,λz hz=>by simpa using hz⟩
 · rintro z rest r s' ⟨hr,rfl,hall⟩
   have hz:∀ A E Q,Q true s'->wpAny (model P w) A (eqIsQuiet n z) Q E s':=by
     rcases hall z List.mem_cons_self with rfl | rfl
     · exact h1
     · exact h2
   refine wpAny_bind (hz _ _ _ ?_)
   simp only [Bool.not_true,Bool.false_eq_true,if_false]
   exact wpAny_pure ⟨rfl,rfl,λx hx=>hall x (List.mem_cons_of_mem _ hx)⟩
 · rintro ⟨r1,r2⟩ s' ⟨hr,rfl,_⟩
   simp only at hr
   subst hr
   exact wpAny_pure h
theorem kT {a b:Addr} {u v u' v':Value} {p q:Bool} (hu:A.units < cLine) (ha:IsTup s.heap a #[u,v]) (hb:IsTup s.heap b #[u',v']) (h1:EqAt A.in1 s u u' p) (h2:EqAt A.in1 s v v' q) (hs:a=b->(p && q)=true):EqAt A s (.ref a) (.ref b) (p && q):=by
 by_cases z:a=b
 · subst z
   rw [hs rfl]
   exact .same _
 · have:=EqAt.of_refs z (RcAt.tuples (e:=λj=>if j=0 then p else q) ha hb hu λj j1 j2=>by
     match j,j1 with
     | 0,_=>exact h1
     | 1,_=>exact h2)
   have e:((List.range (min (#[u,v]:Array Value).size (#[u',v']:Array Value).size)).all (λj=>if j=0 then p else q) && (#[u,v]:Array Value).size == (#[u',v']:Array Value).size)=(p && q):=by
     show (p && (q && true) && true)=(p && q)
     cases p <;> cases q <;> rfl
   rw [e] at this
   exact this
end
noncomputable abbrev eS:=Int × Int × Bool
noncomputable def isN (h:Heap) (k:eS) (a:Addr):Prop:=∃ t c t',IsTup h a #[.int k.1 t,.ref c]/\IsTup h c #[.int k.2.1 t',.bool k.2.2]
theorem iQ {h:Heap} {a:Addr} {x y:Array Value} (p:IsTup h a x) (q:IsTup h a y):x=y:=by
 obtain ⟨o,ho,_,n,hd⟩:=p
 obtain ⟨o',ho',_,n',hd'⟩:=q
 rw [ho] at ho'; cases ho'
 rw [hd] at hd'; cases hd'; rfl
theorem isN.inj {h:Heap} {a:Addr} {x y:eS} (p:isN h x a) (q:isN h y a):x=y:=by
 obtain ⟨t,c,t',h1,h2⟩:=p
 obtain ⟨u,d,u',g1,g2⟩:=q
 have e:=iQ h1 g1
 simp only [Array.mk.injEq,List.cons.injEq,Value.int.injEq,Value.ref.injEq,and_true] at e
 obtain ⟨⟨e1,_⟩,rfl⟩:=e
 have e:=iQ h2 g2
 simp only [Array.mk.injEq,List.cons.injEq,Value.int.injEq,Value.bool.injEq,and_true] at e
 obtain ⟨⟨e2,_⟩,e3⟩:=e
 obtain ⟨_,_,_⟩:=x
 obtain ⟨_,_,_⟩:=y
 simp_all
theorem kY {h h':Heap} {a d:Addr} {x:Array Value} {o:Obj} {es ep} (p:IsTup h a x) (ho:h.get? d=some o) (hd:o.data=.dict es ep) (hs:Heap.SameBut d h h'):IsTup h' a x:=by
 obtain ⟨o',ho',hc,n,hd'⟩:=p
 have hne:a ≠ d:=by
   rintro rfl
   rw [ho] at ho'; cases ho'
   rw [hd] at hd'; exact nomatch hd'
 exact ⟨o',(hs.2 a hne).trans ho',hc,n,hd'⟩
noncomputable def tT (k:eS):Int:=reduceHash (Builtin.Tuple.tupleHashOf [hashInt k.1,reduceHash (Builtin.Tuple.tupleHashOf [hashInt k.2.1,hashInt (if k.2.2 then 1 else 0)])])
noncomputable def jd (P:Program) (w:World):HeapKind P w eS where
 is:=isN
 hash:=tT
 draws:=λ_=>5
 room:=λA=>A.units + 8 < cLine
 inj:=isN.inj
 keeps:=λ⟨t,c,t',h1,h2⟩ ho hd hs=>⟨t,c,t',kY h1 ho hd hs,kY h2 ho hd hs⟩
 pyHash:=λ{A E s k a Q} hu hk h=>by
   obtain ⟨t,c,t',h1,h2⟩:=hk
   refine gU (m:=1) (n:=3) (by omega) h1 (λB _ s' E' Q' _ hq=>wpAny_pyHash_int hq) (λB hB s' E' Q' e hq=>?_) h
   exact gU (m:=1) (n:=1) (by omega) (by rw [e]; exact h2) (λC _ s'' E'' Q'' _ hq=>wpAny_pyHash_int hq) (λC _ s'' E'' Q'' _ hq=>lH hq) hq
 eqBool:=λ{A E s x y a b Q} hu hx hy h=>by
   have key:EqAt A s (.ref a) (.ref b) ((x.1 == y.1) && ((x.2.1 == y.2.1) && (x.2.2 == y.2.2))):=by
     obtain ⟨t,c,t',h1,h2⟩:=id hx
     obtain ⟨u,d,u',g1,g2⟩:=id hy
     refine kT (by omega) h1 g1 (.int_int _ _ _ _) (kT (show A.units + 1 < cLine by omega) h2 g2 (.int_int _ _ _ _) (.bool_bool _ _) λz=>?_) λz=>?_
     · subst z
       have e:=iQ h2 g2
       simp only [Array.mk.injEq,List.cons.injEq,Value.int.injEq,Value.bool.injEq,and_true] at e
       rw [e.1.1,e.2,beq_self_eq_true,beq_self_eq_true]; rfl
     · subst z
       rw [hx.inj hy]
       simp
   refine key _ _ _ _ ?_
   have e:decide (x=y)=((x.1 == y.1) && ((x.2.1 == y.2.1) && (x.2.2 == y.2.2))):=by
     obtain ⟨x1,x2,x3⟩:=x
     obtain ⟨y1,y2,y3⟩:=y
     rw [Bool.eq_iff_iff]
     simp
   rw [<- e]
   exact h
 quiet:=λ{A E s k a Q} hk h=>by
   obtain ⟨t,c,t',h1,h2⟩:=hk
   exact gp h1 (λ_ _ _ q=>wpAny_pure q) (λ_ _ _ q=>gp h2 (λ_ _ _ q=>wpAny_pure q) (λ_ _ _ q=>wpAny_pure q) q) h
end L2
namespace L2
open PySem PySem.Spec PyProof.Rows
noncomputable abbrev NE:=List (eS × Addr × Value)
noncomputable def dN (P:Program) (w:World) (a:Addr) (xs:NE):HO:=.ext λh=>(a == sysModules)=false/\∃ o es ep,h.get? a=some o/\o.ExactDict/\o.data=.dict es ep/\es.toList=xs.map (entryOfKey (jd P w))/\(xs.map (·.1)).Nodup
noncomputable def di (K:PySem.W.Frag) (H:Hp) (k:eS) (b:Addr):Prop:=∃ c,SqT K H b [.int k.1,.ref c]/\SqT K H c [.int k.2.1,.bl k.2.2]
structure jg (P:Program) (w:World) (K:PySem.W.Frag) (H:Hp) (d:Addr) (xs:NE):Prop where
 at_:H d=some (dN P w d xs)
 key:∀ x ∈ xs,di K H x.1 x.2.1
section
variable {X:Cx} {pins:List (Addr × Obj)} {σ:St} {H:Hp} {s:Shared} {d b:Addr} {xs:NE} {k:eS} {A:Around} {E:Value->Shared->Prop}
theorem fo (I:Inv X pins σ H s) (q:di X.K H k b):isN s.heap k b:=by
 obtain ⟨c,h1,h2⟩:=q
 obtain ⟨its,r,t,_⟩:=I.tuple h1
 obtain ⟨its',r',t',_⟩:=I.tuple h2
 cases r with
 | cons a1 r1=>cases r1 with
   | cons a2 r2=>cases r2 with
     | nil=>
       cases r' with
       | cons b1 s1=>cases s1 with
         | cons b2 s2=>cases s2 with
           | nil=>
             obtain ⟨u,rfl⟩:=a1
             cases (show _=Value.ref c from a2)
             obtain ⟨u',rfl⟩:=b1
             cases (show _=Value.bool _ from b2)
             exact ⟨_,c,_,t,t'⟩
theorem nE (I:Inv X pins σ H s) (D:jg X.prog X.w X.K H d xs):(d == sysModules)=false/\s.heap.DictOfH (jd X.prog X.w) d xs:=by
 obtain ⟨⟨h0,o,es,ep,h1,h2,h3,h4,h5⟩,_⟩:=(show br X.prog X.w H s.heap d (dN X.prog X.w d xs) from I.hok d _ D.at_)
 exact ⟨h0,o,es,ep,h1,h2,h3,h4,λx hx=>fo I (D.key x hx),h5⟩
noncomputable def qz (P:Program) (w:World) (K:PySem.W.Frag) (td ty:TE):TE:=λσ H Q=>td σ H λx H1=>ty σ H1 λy H2=>∃ d b k xs p v,x=.ref d/\y=.ref b/\jg P w K H2 d xs/\di K H2 k b/\atKey xs k=some p/\RelV v p.2/\Q v H2
noncomputable def ud (P:Program) (w:World) (K:PySem.W.Frag) (ty td:TE):TE:=λσ H Q=>ty σ H λy H1=>td σ H1 λx H2=>∃ d b k xs,x=.ref d/\y=.ref b/\jg P w K H2 d xs/\di K H2 k b/\Q (.bl (!(atKey xs k).isSome)) H2
noncomputable def sX (P:Program) (w:World) (K:PySem.W.Frag) (td ty tv:TE):TS:=λD σ H=>tv σ H λv H1=>td σ H1 λx H2=>ty σ H2 λy H3=>∃ d b k xs,x=.ref d/\y=.ref b/\jg P w K H3 d xs/\di K H3 k b/\xs.length<=sizeLine/\∀ u,RelV v u->D.nx σ (upd H3 d (dN P w d (storedH xs k b u)))
noncomputable def tN (P:Program) (w:World):TE:=λ_ H Q=>∀ p,H p=none->Q (.ref p) (upd H p (dN P w p []))
variable {o i e value:Expr} {pos pos':Pos} {td ty tv:TE}
theorem oE (hu:X.A.units + 16 < cLine) (ho:PE X o td) (hi:PE X i ty) (hs:tu i):PE X (.Subscript o i pos) (qz X.prog X.w X.K td ty):=by
 intro pins s σ H Q I h
 refine oX PySem.F.slot_dict_getitem.lookup hs (thn (ho pins s σ H _ I h) λu s1 ⟨x,H1,I1,rx,q1⟩=>thn (hi pins s1 σ H1 _ I1 q1) λiv s2 ⟨y,H2,I2,ry,d,b,k,xs,p,v,ex,ey,D,g,hp,rv,q2⟩=>?_)
 subst ex ey
 obtain rfl:u=Value.ref d:=rx
 obtain rfl:iv=Value.ref b:=ry
 obtain ⟨_,dd⟩:=nE I2 D
 exact ⟨dd.typeIs,wpAny_getItem_heap (show X.A.units + 1 + 8 < cLine by omega) (fo I2 g) dd hp ⟨v,H2,I2.tok _,rv,q2⟩⟩
theorem oO (hu:X.A.units + 16 < cLine) (hi:PE X i ty) (ho:PE X o td):PC X .NotIn i o (ud X.prog X.w X.K ty td):=by
 intro pins s σ H Q I h
 refine thn (hi pins s σ H _ I h) λiv s1 ⟨y,H1,I1,ry,q1⟩=>thn (ho pins s1 σ H1 _ I1 q1) λu s2 ⟨x,H2,I2,rx,d,b,k,xs,ex,ey,D,g,q2⟩=>?_
 subst ex ey
 obtain rfl:u=Value.ref d:=rx
 obtain rfl:iv=Value.ref b:=ry
 obtain ⟨hd,dd⟩:=nE I2 D
 exact wpAny_notIn_heap (show X.A.units + 1 + 8 < cLine by omega) (fo I2 g) hd dd ⟨.bl _,H2,I2.tok _,rfl,q2⟩
theorem pI (hu:X.A.units + 16 < cLine) (ho:PE X o td) (hi:PE X i ty) (hv:PE X value tv) (hs:swapsWith value (some (.Subscript o i pos')) pos.line X.env=pure false) :
   PS X (.Assign [.Subscript o i pos'] value pos) (sX X.prog X.w X.K td ty tv):=by
 intro pins s σ H D I h
 refine wpAny_Assign_Subscript (thn (hv pins s σ H _ I h) λr s1 ⟨v,H1,I1,rv,q1⟩=>thn (ho pins s1 σ H1 _ I1 q1) λu s2 ⟨x,H2,I2,rx,q2⟩=>thn (hi pins s2 σ H2 _ I2 q2) λiv s3 ⟨y,H3,I3,ry,d,b,k,xs,ex,ey,D',g,hl,q3⟩=>?_) hs
 subst ex ey
 obtain rfl:u=Value.ref d:=rx
 obtain rfl:iv=Value.ref b:=ry
 obtain ⟨hd,dd⟩:=nE I3 D'
 refine wpAny_setItem_heap (hsz:=hl) (show X.A.units + 1 + 8 < cLine by omega) (fo I3 g) dd λh' dd' hs=>⟨σ,_,?_,q3 r rv⟩
 obtain ⟨q,es,ep,hq,h2,h3,h4,_,h5⟩:=dd'
 refine px I3 (by rw [D'.at_]; exact True.intro) hs ⟨q,hq⟩ ⟨⟨hd,q,es,ep,hq,h2,h3,h4,h5⟩,⟨q,hq⟩,λa1 a2 ⟨z0,o,es,ep,z1,z2⟩ hk=>⟨z0,o,es,ep,hk o z1,z2⟩⟩
theorem pW:PE X (.Dict [] [] pos) (tN X.prog X.w):=λpins s σ H Q I h=>
 wpAny_Dict_empty ⟨.ref s.heap.objs.size,_,I.laid (a:=s.heap.objs.size) (o:=dN X.prog X.w s.heap.objs.size []) (t':=s.toks) (λ_ _ q=>Heap.get?_push_of_some _ q) (Nat.le_refl _)
   ⟨⟨beq_eq_false_iff_ne.mpr (Ne.symm (Nat.ne_of_lt I.big)),_,#[],0,Heap.get?_push_size _ rfl,⟨rfl,rfl,rfl⟩,rfl,rfl,List.nodup_nil⟩,⟨_,Heap.get?_push_size _ rfl⟩,λa1 a2 ⟨z0,o,es,ep,z1,z2⟩ hk=>⟨z0,o,es,ep,hk o z1,z2⟩⟩,rfl,h _ (I.hok.fresh (Nat.le_refl _))⟩
end
end L2
namespace L2
open PySem PySem.Spec PyProof.Rows PySem.SeqAt
structure IK (P:Program) (w:World) (K:Type) [DecidableEq K] where
 is:Heap->K->Value->Prop
 hash:K->Int
 draws:K->Nat
 dep:Nat
 inj:∀ {h:Heap} {v:Value} {x y:K},is h x v->is h y v->x=y
 keeps:∀ {h h':Heap} {k:K} {v:Value} {d:Addr} {o:Obj} {es ep},is h k v->h.get? d=some o->o.data=.dict es ep->Heap.SameBut d h h'->is h' k v
 hk:∀ {A:Around} {h:Heap} {k:K} {v:Value},is h k v->A.units + dep < cLine->HK P w A h v (hash k) (draws k)
 eq:∀ {A:Around} {s:Shared} {x y:K} {u v:Value},is s.heap x u->is s.heap y v->A.units + dep < cLine->EqAt A s u v (decide (x=y))
 quiet:∀ {s:Shared} {k:K} {v:Value} {n:Nat},dep < n->is s.heap k v->∀ A E Q,Q true s->wpAny (model P w) A (eqIsQuiet n v) Q E s
section
variable {P:Program} {w:World}
variable {K K':Type} [DecidableEq K] [DecidableEq K']
noncomputable def kindOf (a:IK P w K) (hd:a.dep<=7):HeapKind P w K where
 is:=λh k p=>a.is h k (.ref p)
 hash:=a.hash
 draws:=a.draws
 room:=λA=>A.units + 8 < cLine
 inj:=a.inj
 keeps:=a.keeps
 pyHash:=λ{A E s k p Q} hu hk h=>a.hk hk (by omega) s E Q rfl h
 eqBool:=λ{A E s x y p p' Q} hu hx hy h=>a.eq hx hy (by omega) _ _ _ _ h
 quiet:=λ{A E s k p Q} hk h=>a.quiet (by omega) hk A E Q h
end
section
variable {K:Type}
end
section
variable {P:Program} {w:World} {K:Type} [DecidableEq K]
end
end L2
namespace Ev
open PySem PySem.Spec PyProof.Rows L2
structure KD (K:Type) [DecidableEq K] where
 ik:∀ (P:Program) (w:World),IK P w K
 dep:Nat
 dep_ok:∀ P w,(ik P w).dep=dep
 toD:K->D
 den:∀ {X:Cx} {pins:List (Addr × Obj)} {σ:L2.St} {H:Hp} {s:Shared} {v:V} {u:Value} {k:K},Inv X pins σ H s->Den X.K H v (toD k)->RelV v u->(ik X.prog X.w).is s.heap k u
section
variable {K K':Type} [DecidableEq K] [DecidableEq K']
noncomputable abbrev NEs (K:Type):=List (K × Addr × Value)
noncomputable def kd (a:KD K) (hd:a.dep<=7) (P:Program) (w:World):HeapKind P w K:=kindOf (a.ik P w) (by rw [a.dep_ok]; exact hd)
variable {a:KD K} {hd:a.dep<=7}
variable {X:Cx} {pins:List (Addr × Obj)} {σ:L2.St} {H:Hp} {s:Shared} {d b:Addr} {xs:NEs K} {k:K} {A:Around} {E:Value->Shared->Prop}
variable {o i e value:Expr} {pos pos':Pos} {td ty tv:TE}
end
end Ev
namespace Hy
open PySem PySem.Spec PyProof.Rows L2
open Ev (D Den aq KD NEs)
section
variable {K:Type} [DecidableEq K]
variable {a:KD K} {F:PySem.W.Frag} {G G':Hp}
end
end Hy
namespace Hy
open PySem PySem.Spec PyProof.Rows L2
open Ev (D Den aq KD NEs ah)
section
variable {K:Type} [DecidableEq K] {a:KD K} {hd:a.dep<=7} {X:Cx} {C:Bool} {τ:List Sl} {x:D} {b e ix:Expr} {pos p q:Pos} {k:Nat} {N:Po} {rest:List Stmt} {m:List (K × D)} {key:K}
end
section
variable {K:PySem.W.Frag} {A:Addr->Prop} {H₀ H H':Hp} {τ:List Sl} {B:Nat->List Addr} {σ:L2.St}
end
section
variable {K:Type} [DecidableEq K] {a:KD K} {hd:a.dep<=7} {X:Cx} {C:Bool} {τ:List Sl} {x:D} {b e ix:Expr} {pos p q sp:Pos} {k:Nat} {N:Po} {rest:List Stmt} {m:List (K × D)} {key:K}
end
end Hy
namespace Ev
open PySem PySem.Spec PyProof.Rows L2
section
variable {K:Type} [DecidableEq K] {a:KD K} {hd:a.dep<=7} {X:Cx} {o i e f:Expr} {pos apos cpos:Pos} {td ty tx tk tv:TE}
end
end Ev
namespace Hy
open PySem PySem.Spec PyProof.Rows L2
open Ev (D Den aq KD NEs Bx ah)
section
variable {K:Type} [DecidableEq K] {a:KD K} {hd:a.dep<=7} {X:Cx} {C:Bool} {τ:List Sl} {x y:D} {b e f o ix:Expr} {pos p q apos cpos:Pos} {k:Nat} {N:Po} {rest:List Stmt} {m:List (K × D)} {key:K}
end
end Hy
namespace Ev
open PySem PySem.Spec PyProof.Rows L2
open PySem.Builtin.Range (rangeFitsLong rangeSize)
section
variable {prog:Program} {w:World} {A:Around} {E:Value->Shared->Prop} {s:Shared}
end
section
variable {X:Cx} {tg:Expr}
end
end Ev
namespace Ev
open PySem PySem.Spec PyProof.Rows L2
section
variable {X:Cx} {tg:Expr}
end
end Ev
namespace Hy
open PySem PySem.Spec PyProof.Rows L2
open Ev (D Den aq Bx ah)
section
variable {K:PySem.W.Frag} {A:Addr->Prop} {H₀ H:Hp} {τ:List Sl} {B:Nat->List Addr} {σ:L2.St} {m:List (Int × Int)} {i:Nat}
end
section
variable {X:Cx} {C:Bool} {τ:List Sl} {x y:D} {a b e f o ix tg:Expr} {pos p q apos cpos sp:Pos} {k:Nat} {N:Po} {rest:List Stmt} {m:List (Int × Int)} {key v n:Int}
end
end Hy
namespace Hy
open PySem PySem.Spec PyProof.Rows L2
open Ev (D Den aq ah aw bE bP PTs bc bY)
section
variable {X:Cx}
end
section
variable {X:Cx} {C:Bool} {τ:List Sl} {e it:Expr} {pos p q p2 pos2 tp ip vp rp ap cp p1:Pos} {k:Nat} {N:Po} {rest:List Stmt} {scope:Scope}
end
end Hy
namespace Ev
open PySem PySem.Spec PyProof.Rows L2
section
variable {X:Cx} {o e f g:Expr} {pos apos cpos:Pos} {td te tf tg:TE}
end
section
variable {X:Cx} {tg l:Expr} {tl:TE}
end
end Ev
namespace Hy
open PySem PySem.Spec PyProof.Rows L2
open Ev (D Den aq ah)
section
variable {X:Cx} {C:Bool} {τ:List Sl} {o e f g a b:Expr} {pos apos cpos p p2:Pos} {z w v:Str} {k:Nat} {xs:List D}
end
end Hy
namespace Tx
open PySem
noncomputable def inj (c:Nat):List (List Nat)->List Nat
 | []=>[]
 | [a]=>a
 | a :: b :: r=>a++c :: inj c (b :: r)
noncomputable def cs (x:Str):List Nat:=x.cps.toList
noncomputable def ch (c:Nat):Str:=⟨#[c]⟩
end Tx
namespace Hx
open PySem PySem.Spec PyProof.Rows L2
section
variable {X:Cx} {body:List Stmt} {h0:ExceptHandler} {hs:List ExceptHandler} {pos:Pos} {t:TS}
end
end Hx
namespace Hy
open PySem PySem.Spec PyProof.Rows L2
end Hy
namespace Hy
open PySem PySem.Spec PyProof.Rows L2
open Ev (D Den aq ah aC ay)
section
variable {X:Cx} {C:Bool} {τ:List Sl} {a b e e1 e2 e3 o:Expr} {pos p p2 tp:Pos} {k:Nat} {x x1 x2 x3:D} {N:Po} {rest:List Stmt}
end
section
variable {X:Cx} {τ τ1 τ2:List Sl} {x y z:D} {a b e o ix:Expr} {es:List Expr} {pos p q:Pos} {l:Nat} {s:Sl} {N:Po} {st:Stmt} {body rest:List Stmt} {i j k:Nat} {t c:Nd} {pt:List Nat} {xs:List Nd} {m:Nat} {ds:List D}
theorem ej (h:PE X e (dE X.K false τ (.d x))):PE X e (dEJ X.K τ i j k x):=peW h λσ H Q ⟨A,H₀,B,S,_,q⟩=>aQ S λv H' e d=>q v H' e d
end
section
variable {X:Cx} {τ τ1 τ2:List Sl} {x y z:D} {a b e o ix:Expr} {pos p q:Pos} {l:Nat} {N:Po} {st:Stmt} {body rest:List Stmt} {i j k:Nat} {t c:Nd} {pt:List Nat} {ds:List D}
end
section
variable {K:PySem.W.Frag} {G H:Hp}
end
section
variable {X:Cx} {τ:List Sl} {ia ia2 ib ib2:Expr} {N:Po} {rest:List Stmt} {xs:List Nd} {xa xb:Nd}
end
section
variable {X:Cx} {τ:List Sl} {e2:Expr} {N:Po} {rest:List Stmt} {pos p tp:Pos} {x2:D} {t:Nd}
end
section
variable {P:Program} {w:World} {K:PySem.W.Frag} {mg:Str->Option Value} {base:Heap}
end
section
variable {X:Cx} {τ:List Sl} {es:List Expr} {pos p q pr:Pos} {k:Nat} {s:Sl} {ds:List D} {N:Po} {rest:List Stmt}
end
end Hy
namespace L2
open PySem PySem.Spec PyProof.Rows
theorem g0 (b:List Stmt) (env:Env):∀ a:List Stmt,execs (a++b) env=(do match <- execs a env with | .next=>execs b env | f=>pure f)
 | []=>by
   rw [List.nil_append,execs]
   exact (pure_bind _ _).symm
 | st :: a=>by
   rw [List.cons_append,execs,execs,bind_assoc]
   refine bind_congr λf=>?_
   cases f with
   | next=>exact g0 b env a
   | ret v=>exact (pure_bind _ _).symm
   | brk=>exact (pure_bind _ _).symm
   | cont=>exact (pure_bind _ _).symm
theorem om {X:Cx} {a b:List Stmt} {t u:TS} (h1:PSs X a t) (h2:PSs X b u):PSs X (a++b) (tK t u):=by
 intro pins s σ H D I h
 rw [g0]
 refine wpAny_bind (thn (h1 pins s σ H { D with nx:=u D } I h) λf s1 q=>?_)
 cases f with
 | next=>
   obtain ⟨σ',H',I',q⟩:=q
   exact h2 pins s1 σ' H' D I' q
 | ret v=>exact wpAny_pure q
 | brk=>exact wpAny_pure q
 | cont=>exact wpAny_pure q
end L2
namespace Hy
open PySem PySem.Spec PyProof.Rows L2
open Ev (D Den aq ah aC ay aw bE bP PTs bc bY)
noncomputable def dH (E:Ex) (d:Addr):Ex where
 p:=λK G o a=>a=d/\E.p K G o a
 mono:=λe ⟨h1,h2⟩=>⟨h1,E.mono e h2⟩
 ext:=λh=>E.ext h.2
theorem lW.pin {K:PySem.W.Frag} {E:Ex} {sp:Sp} {ds:List D} {z:D} (h:lW K E sp ds z) (d:Addr):lW K (dH E d) sp ds z:=λM a o vs H Q E0 hM ho hp dd q=>
 h M a o vs H Q E0 hM ho hp.2 dd λv H' o' b1 h1 h2 h3=>q v H' o' b1 h1 ⟨hp.1,h2⟩ h3
noncomputable def spL (K:PySem.W.Frag) (Φ:Ex->List D->Sl->Prop):Sp:=λvs H Q _=>∃ (M:Addr->Prop) (d:Addr) (o:HO) (us:List V) (E:Ex) (ds:List D) (s:Sl),vs=.ref d :: us/\Hid M H d/\H d=some o/\E.p K (hd H M) o d/\aq K (hd H M) us ds/\Φ E ds s /\
 ∀ v H' bs o',But d H H'->H' d=some o'->E.p K (hd H' λb=>M b\/b ∈ bs) o' d->Fr H H' bs->aY K (hd H' λb=>M b\/b ∈ bs) H' (some v) bs s->Q v H'
section
variable {P:Program} {w:World} {K:PySem.W.Frag} {mg:Str->Option Value} {base:Heap}
theorem fnL {x qual:Str} {st:Stmt} {f:Addr} {fd:FuncData} {N ps:List Str} {k:Nat} {Φ:Ex->List D->Sl->Prop} (i:Nat) {nm:Str} {p1 p2:Pos} (F:Fun K x qual st f fd) (S:aE N ps (ak st)) (hb:∀ x ∈ aA,mg x=none) (len:∀ E ds r,Φ E ds r->ds.length + 1=ps.length)
   (hbody:aT st=(aT st).dropLast++[.Return (some (.Name nm p1)) p2])
   (hret:∀ cdv A outer s H E0,PE (Xc P w K mg base N qual st f cdv A outer s H E0) (.Name nm p1) (fg i))
   (body:∀ E ds r,Φ E ds r->∀ d cdv A outer s H E0,Bk (Xc P w K mg base N qual st f cdv A outer s H E0) k->PSs (Xc P w K mg base N qual st f cdv A outer s H E0) (aT st).dropLast (dS K (.x (dH E d) :: (ds.map .d++List.replicate (N.length - (ds.length + 1)) .un)) { nx:=λτ=>τ[0]?=some (.x (dH E d))/\τ[i]?=some r,rt:=λ_=>False }))
   (hi0:i ≠ 0:=by decide) (hr:∀ E ds r,Φ E ds r->r ≠ .un:=by first | assumption | (rintro _ _ _ h; obtain ⟨_,_,_,_,_,_,rfl⟩:=h; exact nofun)) :
   aP P w K mg base CX0 (k + 1) f fd ps (spL K Φ):=by
 refine F.ok S (λvs H Q E ⟨M,d,o,us,_,ds,r,hvs,_,_,_,dd,h,_⟩=>by rw [hvs,List.length_cons,dd.length]; exact len _ ds r h) λcdv A outer s H vs Q E hr' ⟨M,d,o,us,E',ds,r,hvs,hM,hd,hp,dd,h,q⟩=>?_
 subst hvs
 have hun:=hr _ _ _ h
 have key:=om (body E' ds r h d cdv A outer s H E ⟨hr',rfl,hb,PassesOwn.never⟩) (bA (bL (pos:=p2) (hret cdv A outer s H E)))
 rw [<- hbody] at key
 let B0:Nat->List Addr:=λi=>if i=0 then [d] else []
 have hB:∀ i b,b ∈ B0 i->i=0/\b=d:=λi b z=>by
   by_cases e:i=0
   · simp only [B0,if_pos e] at z; exact ⟨e,List.mem_singleton.mp z⟩
   · simp only [B0,if_neg e] at z; cases z
 have ow:∀ b,own (λb=>M b/\b ≠ d) B0 b ↔ M b:=λb=>by
   refine ⟨λz=>z.elim (·.1) λ⟨i,z⟩=>?_,λz=>?_⟩
   · rw [(hB i b z).2]; exact hM.1
   · by_cases e:b=d
     · exact .inr ⟨0,by simp [B0,e]⟩
     · exact .inl ⟨z,e⟩
 have vw:af (Hy.hd H M) (Hy.hd H (own (λb=>M b/\b ≠ d) B0)):=ao (af.refl _) λb z=>(ow b).mp z
 refine ⟨_,key,λb=>M b/\b ≠ d,Hy.hd H (·=d),B0,⟨aD,?_,λi s hi=>?_,λi b z=>?_,λi j b z1 z2=>((hB i b z1).1).trans ((hB j b z2).1).symm,λb z=>?_,λi b z=>⟨o,by rw [(hB i b z).2]; exact hd⟩⟩,λτ B σ H' h S=>?_,λ_ _ _ _ h=>h.elim,λ_ _ _ _ h=>h.elim,λ_ _ _ _ h=>h.elim,λ_ _=>trivial⟩
 · unfold L2.start
   simp [dd.length]
 · have hl:=dd.length
   unfold L2.start
   match i,hi with
   | 0,hi=>
     cases hi
     exact ⟨d,o,rfl,rfl,hd,rfl,E'.mono vw hp⟩
   | i + 1,hi=>
     rw [List.getElem?_cons_succ] at hi
     show aY K _ H ((((us.map some)++_)[i]?).join) _ s
     by_cases hlt:i < ds.length
     · rw [List.getElem?_append_left (by simpa using hlt),List.getElem?_map,List.getElem?_eq_getElem hlt] at hi
       cases hi
       obtain ⟨v,e,dv⟩:=dd.get (List.getElem?_eq_getElem hlt)
       refine ⟨rfl,v,?_,dv.mono vw⟩
       rw [List.getElem?_append_left (by simpa [hl] using hlt),List.getElem?_map,e]
       rfl
     · rw [List.getElem?_append_right (by simpa using hlt),List.getElem?_replicate] at hi
       split at hi
       · cases hi; rfl
       · cases hi
 · rw [(hB i b z).2]
   unfold Hy.hd
   rw [if_pos rfl]
 · obtain ⟨o,y⟩:=hM.2 b z.1
   exact ⟨o,ag.mpr ⟨λe=>z.2 e,y⟩⟩
 · obtain ⟨h0,h1⟩:=h
   obtain ⟨a,o',b1,b2,b3,b4,b5⟩:=S.sl 0 _ h0
   subst b4
   have si:=S.sl i _ h1
   obtain ⟨u,eu⟩:∃ u,(σ[i]?).join=some u:=by
     cases r with
     | un=>exact absurd rfl hun
     | d x=>obtain ⟨_,u,e,_⟩:=si; exact ⟨u,e⟩
     | o xs=>obtain ⟨_,_,_,e,_⟩:=si; exact ⟨_,e⟩
     | n t=>obtain ⟨_,u,e,_⟩:=si; exact ⟨u,e⟩
     | x E=>obtain ⟨_,_,_,e,_⟩:=si; exact ⟨_,e⟩
   rw [eu] at si
   have ma:a ∈ B 0:=by rw [b1]; exact List.mem_singleton.mpr rfl
   have sub:∀ b,(M b\/b ∈ B i)->own (λb=>M b/\b ≠ a) B b:=λb z=>z.elim (λz=>by
     by_cases e:b=a
     · exact .inr ⟨0,e ▸ ma⟩
     · exact .inl ⟨z,e⟩) λz=>.inr ⟨i,z⟩
   refine ⟨u,slot_of eu,q u H' (B i) o' (λb o ne z=>S.same b o (ag.mpr ⟨ne,z⟩)) b3 (E'.mono (ao (af.refl _) sub) b5) (λb hb=>⟨?_,S.bd i b hb⟩) (si.mono (ao (af.refl _) sub) (af.refl _))⟩
   have f0:=S.fr i b hb
   have ne:b ≠ a:=λe=>hi0 (S.uq i 0 a (e ▸ hb) ma)
   cases y:H b with
   | none=>rfl
   | some o=>
     have f1:Hy.hd H (·=a) b=some o:=ag.mpr ⟨ne,y⟩
     rw [f1] at f0
     cases f0
end
noncomputable def dML (K:PySem.W.Frag) (E:Ex) (d:Addr) (τ:List Sl) (s:Sl):TE:=λσ H Q=>∃ A H₀ B,Sta K A H₀ τ B σ H/\∀ v H' bs o',But d H H'->H' d=some o'->E.p K (hd H' λb=>own A B b\/b ∈ bs) o' d->Fr H H' bs->aY K (hd H' λb=>own A B b\/b ∈ bs) H' (some v) bs s->Q v H'
section
variable {X:Cx} {τ:List Sl} {es:List Expr} {pos p q pr:Pos} {k:Nat} {s:Sl} {ds xs:List D} {N:Po} {rest:List Stmt} {elt it:Expr} {scope:Scope}
theorem pR (i:Nat) {n nk:Str} {E:Ex} {d:Addr} {Φ:Ex->List D->Sl->Prop} (Bb:Bk X k) (cl:eB X.prog X.w X.K X.mg X.base k n (spL X.K Φ)) (hΦ:Φ E ds s) (hi:τ[i]?=some (.x (dH E d))) (ha:PA X es (dA X.K true τ ds)) (hN:X.N[i]?=some nk:=by rfl)
   (hv:Vis X.env.scope nk:=by first | exact Or.inl rfl | exact Or.inr (Or.inl rfl) | exact Or.inr (Or.inr rfl)) (hd1:(nk == ("__debug__" : Str))=false:=by decide) (hcd:(nk == ("__classdict__" : Str))=false:=by decide)
   (hg:Gl X n:=by rfl) (hdb:(n == ("__debug__" : Str))=false:=by decide) (he:starEach (.Name nk q :: es) X.env=(false,eval (.Name nk q) X.env) :: starEach es X.env:=by rfl) (hpl:(backTo pos (starEach es X.env)).any (·.1)=false:=by rfl) :
   PE X (.Call (.Name n p) (.Name nk q :: es) [] pos) (dML X.K E d τ s):=by
 obtain ⟨f,fd,ps,F,hm,hk,hb⟩:=cl
 refine peW (bx F Bb.room hg hm hk hb .nil eX (av (a9 (i:=i) hN hv hd1 hcd) ha he) hdb he hpl) λσ H Q ⟨A,H₀,B,S,kk⟩=>?_
 obtain ⟨a,o,h1,h2,h3,h4,_⟩:=S.sl i _ hi
 subst h4
 refine ⟨_,slot_of h2,bQ S λvs H1 e1 d1=>?_⟩
 have S1:=S.mono e1
 obtain ⟨a',o1,g1,g2,g3,g4,g5⟩:=S1.sl i _ hi
 subst g4
 show spL X.K Φ (_++[]) _ _ _
 rw [List.append_nil]
 exact ⟨own A B,a',o1,vs,E,ds,s,rfl,S1.hid h1,g3,g5,d1,hΦ,λv H' bs o' b1 h' p' fr z=>kk v H' bs o' ((But.same e1).trans b1) h' p' (λb hb=>⟨e1.free (fr b hb).1,(fr b hb).2⟩) z⟩
theorem oA (i0 lc j:Nat) {n:Str} {g:Nat->D} {f:Nat->Nd} {S':Nat->Sl} {E:Ex} (Bq:Bk X k) (hi:PI X (.Name n p) it (dI X.K τ xs)) (hx:∀ i (h:i < xs.length),xs[i]=g i) (hl:xs.length < 1000000)
   (hi0:τ[i0]?=some (.x E)) (hcp:(bCp X.N scope)[lc]?=some (some i0))
   (he:∀ d i,i < xs.length->∀ s H fp,PE (cpX X s H scope fp) elt (dML X.K E d (((aI τ (bCp X.N scope)++[Sl.un]).set lc (.x (dH E d))).set j (.d (g i))) (S' i))) (hn:∀ i,i < xs.length->jy (S' i)=some (f i))
   (h:N.rt (.n (.l ((List.range xs.length).map f)))) (hjl:j ≠ lc:=by decide)
   (hc:bOk X.env.scope scope=true:=by kernel_rfl) (hu:(aI τ (bCp X.N scope)++[Sl.un])[j]?=some .un:=by rfl) (hN:(bNm scope++[("#" : Str)])[j]?=some n:=by rfl) (hv:∀ s H fp,Loc (cpX X s H scope fp).env.scope n:=by intro _ _ _; first | exact .inl rfl | exact .inr rfl)
   (hf:∀ s H fp,(cpX X s H scope fp).fn n=true\/(cpX X s H scope fp).env.scope.names.lookup n=some .local:=by intro _ _ _; first | exact .inr rfl | exact .inl rfl) (hs:∀ x,foldedSetIterable it X.env x=pure x:=by intro _; rfl) :
   PSs X (.Return (some (.ListComp elt [⟨.Name n p,it,[],0⟩] scope pos)) pr :: rest) (dS X.K τ N):=by
 obtain ⟨cap,nd2⟩:=cu hc
 generalize hτ:aI τ (bCp X.N scope)++[Sl.un]=τb at *
 have lcl:lc < (bCp X.N scope).length:=(List.getElem?_eq_some_iff.mp hcp).1
 have lct:lc < τb.length:=by rw [<- hτ]; unfold aI; rw [List.length_append,List.length_map]; omega
 have flat:∀ (l:Nat) (s:Sl),τb[l]?=some s->s=.un\/∃ x,s=.d x:=λl s h=>by
   rw [<- hτ] at h
   rcases List.mem_append.mp (List.mem_of_getElem? h) with z | z
   · unfold aI at z
     obtain ⟨o,_,ho⟩:=List.mem_map.mp z
     split at ho
     · split at ho
       · exact .inr ⟨_,ho.symm⟩
       · exact .inl ho.symm
     · exact .inl ho.symm
   · exact .inl (List.mem_singleton.mp z)
 have hg:∀ d i (h:i < xs.length) s H fp,PG (cpX X s H scope fp) (.Name n p) (dG X.K (τb.set lc (.x (dH E d))) xs[i] ((τb.set lc (.x (dH E d))).set j (.d (g i)))):=λd i h s H fp=>by
   rw [hx i h]
   exact mZ j nd2 hN (hv s H fp) (hf s H fp)
 have cmp:=Ev.bc (pos:=pos) (In:=λG tt te=>G=(λv σ H Q=>∃ (d:Addr) (i:Nat) (h:i < xs.length),dG X.K (τb.set lc (.x (dH E d))) xs[i] ((τb.set lc (.x (dH E d))).set j (.d (g i))) v σ H Q)/\tt=(λσ H Q=>Q true H)/\te=(λσ H Q=>∃ d i,i < xs.length/\dML X.K E d ((τb.set lc (.x (dH E d))).set j (.d (g i))) (S' i) σ H Q)) (elt:=elt) (ifs:=[]) cap hi hs (by
   rintro G tt te ⟨rfl,rfl,rfl⟩ s H fp
   exact ⟨λpins s' σ H' v u Q I r ⟨d,i,h,q⟩=>hg d i h s H fp pins s' σ H' v u Q I r q,ft,λpins s' σ H' Q I ⟨d,i,h,q⟩=>he d i h s H fp pins s' σ H' Q I q⟩)
 refine aN (M:=λ_=>False) (psW (bL cmp) λDn σ H ⟨A,H₀,B,S,Me⟩=>?_) λ_ e=>e.elim
 refine ⟨A,H₀,B,S,λJ H1 e1 yl=>⟨_,_,_,⟨rfl,rfl,rfl⟩,λD hD=>?_⟩⟩
 have S1:=S.mono e1
 obtain ⟨d,o1,b1,b2,b3,b4⟩:=S1.sl i0 _ hi0
 have md:d ∈ B i0:=by rw [b1]; exact List.mem_singleton.mpr rfl
 have od:own A B d:=.inr ⟨i0,md⟩
 have f0:H₀ d=none:=S1.fr i0 d md
 have nD:d ≠ D:=λz=>by rw [z,hD] at b3; cases b3
 let Bc:Nat->List Addr:=λl=>if l=lc then [d] else []
 have hB:∀ l b,b ∈ Bc l->l=lc/\b=d:=λl b z=>by
   by_cases e:l=lc
   · simp only [Bc,if_pos e] at z; exact ⟨e,List.mem_singleton.mp z⟩
   · simp only [Bc,if_neg e] at z; cases z
 have slots:∀ {σ':L2.St} {H':Hp} {rs:List Addr} {o:HO},But d H1 H'->H' d=some o->(∃ o,H' D=some o)->(∀ b ∈ rs,∃ o,H' b=some o)->(∀ b ∈ rs,b ≠ d)->σ'.length=τb.length->(σ'[lc]?).join=some (.ref d)->E.p X.K (hd H' λb=>own A B b\/b=D\/b ∈ rs) o d->(∀ (l:Nat) (s:Sl),l ≠ lc->τb[l]?=some s->aY X.K (hd H' λb=>own A B b\/b=D\/b ∈ rs) H' (σ'[l]?).join [] s) ->
     Sta X.K (λb=>(own A B b/\b ≠ d)\/b=D\/b ∈ rs) (Hy.hd H' (·=d)) (τb.set lc (.x (dH E d))) Bc σ' H':=λ{σ' H' rs o} e1 e2 e3 e4 e5 e6 e7 e8 e9=>by
   have vw:af (Hy.hd H' λb=>own A B b\/b=D\/b ∈ rs) (Hy.hd H' (own (λb=>(own A B b/\b ≠ d)\/b=D\/b ∈ rs) Bc)):=ao (af.refl _) λb z=>by
     rcases z with z | ⟨l,z⟩
     · exact z.elim (λz=>.inl z.1) .inr
     · rw [(hB l b z).2]; exact .inl od
   refine ⟨aD,by rw [List.length_set]; exact e6,λl s h=>?_,λl b z=>?_,λl l' b z1 z2=>((hB l b z1).1).trans ((hB l' b z2).1).symm,λb z=>?_,λl b z=>⟨o,by rw [(hB l b z).2]; exact e2⟩⟩
   · by_cases el:l=lc
     · subst el
       rw [List.getElem?_set_self lct] at h
       cases h
       exact ⟨d,o,by simp [Bc],e7,e2,rfl,E.mono vw e8⟩
     · rw [List.getElem?_set_ne (λz=>el z.symm)] at h
       have:=(e9 l s el h).mono vw (af.refl _)
       simpa [Bc,el] using this
   · rw [(hB l b z).2]
     unfold Hy.hd
     rw [if_pos rfl]
   · rcases z with z | z | z
     · obtain ⟨o,y⟩:=S1.dm b z.1
       exact ⟨o,ag.mpr ⟨z.2,e1 _ _ z.2 y⟩⟩
     · obtain ⟨o,y⟩:=e3
       exact ⟨o,ag.mpr ⟨λq=>nD (q.symm.trans z),z ▸ y⟩⟩
     · obtain ⟨o,y⟩:=e4 b z
       exact ⟨o,ag.mpr ⟨e5 b z,y⟩⟩
 refine ⟨λi m σ' H'=>m=xs.length - i/\i<=xs.length/\But d H1 H'/\(∃ vs rs o,H' D=some (.lst vs)/\H' d=some o/\vs.length<=i/\aB X.K (hd H' λb=>own A B b\/b=D\/b ∈ rs) H' vs rs ((List.range i).map f)/\(D :: rs).Nodup/\(∀ b ∈ rs,H1 b=none) /\
   σ'.length=τb.length/\(σ'[lc]?).join=some (.ref d)/\E.p X.K (hd H' λb=>own A B b\/b=D\/b ∈ rs) o d/\∀ (l:Nat) (s:Sl),l ≠ lc->τb[l]?=some s->aY X.K (hd H' λb=>own A B b\/b=D\/b ∈ rs) H' (σ'[l]?).join [] s),
   ⟨xs.length,rfl,Nat.zero_le _,But.same (ah hD _),[],[],o1,az,by rw [ai nD]; exact b3,Nat.le_refl _,.nil,by simp,λ_ z=>(nomatch z),?_,?_,?_,λl s hll h=>?_⟩,?_⟩
 · rw [<- hτ]; unfold bE aI; rw [List.length_append,List.length_append,List.length_map,List.length_map]; rfl
 · rw [List.getElem?_append_left (by unfold bE; rw [List.length_map]; exact lcl)]
   unfold bE
   rw [List.getElem?_map,hcp]
   simpa using b2
 · refine E.mono (λb o z=>?_) b4
   obtain ⟨z1,z2⟩:=ag.mp z
   have ne:b ≠ D:=λz=>by rw [z,hD] at z2; cases z2
   exact ag.mpr ⟨λy=>y.elim z1 λy=>y.elim ne λy=>(nomatch y),by rw [ai ne]; exact z2⟩
 · have hv:af (hd H (own A B)) (hd (upd H1 D (.lst [])) λb=>own A B b\/b=D\/b ∈ ([]:List Addr)):=λb o z=>by
     obtain ⟨z1,z2⟩:=ag.mp z
     have z2:=e1 _ _ z2
     have ne:b ≠ D:=λz=>by rw [z,hD] at z2; cases z2
     exact ag.mpr ⟨λy=>y.elim z1 λy=>y.elim ne λy=>(nomatch y),by rw [ai ne]; exact z2⟩
   rcases flat l s h with rfl | ⟨x,rfl⟩
   · rfl
   · rw [<- hτ] at h
     have hlt:l < (bCp X.N scope).length:=by
       rcases Nat.lt_or_ge l (bCp X.N scope).length with h' | h'
       · exact h'
       · exfalso
         rw [List.getElem?_append_right (by unfold aI; rw [List.length_map]; exact h')] at h
         cases e:l - (aI τ (bCp X.N scope)).length with
         | zero=>rw [e] at h; cases h
         | succ n=>rw [e] at h; cases h
     rw [List.getElem?_append_left (by unfold aI; rw [List.length_map]; exact hlt)] at h
     rw [List.getElem?_append_left (by unfold bE; rw [List.length_map]; exact hlt)]
     unfold aI at h
     unfold bE
     rw [List.getElem?_map] at h ⊢
     cases e:(bCp X.N scope)[l]? with
     | none=>rw [e] at h; cases h
     | some o=>
       rw [e] at h
       cases o with
       | none=>cases h
       | some i=>
         simp only [Option.map_some,Option.some.injEq] at h
         split at h
         · rename_i x' hx'
           cases h
           obtain ⟨_,u,eu,d⟩:=S.sl i _ hx'
           exact ⟨rfl,u,by simpa using eu,d.mono hv⟩
         · cases h
 rintro i m σ' H' ⟨rfl,hi,e2,vs,rs,o,hv1,hd1,hv2,hv3,hnd,hfr,hlen,hlc,hE,hsl⟩
 have hH1:af (hd H1 (own A B)) H':=λb o z=>by
   obtain ⟨z1,z2⟩:=ag.mp z
   exact e2 b o (λy=>z1 (y ▸ od)) z2
 obtain ⟨y1,y2⟩:=yl H' hH1
 have rsd:∀ b ∈ rs,∃ o,H' b=some o:=hv3.some_of
 have rsn:∀ b ∈ rs,b ≠ d:=λb hb z=>by have:=hfr b hb; rw [z,b3] at this; cases this
 by_cases hlt:i < xs.length
 · obtain ⟨g',y⟩:=y2 i hlt
   refine .inr ⟨g',λx H2 hy=>?_⟩
   obtain ⟨e3,dx⟩:=y x H2 hy
   have S2:=slots e2 hd1 ⟨_,hv1⟩ rsd rsn hlen hlc hE hsl
   have dx':=dx _ S2.dm (λb o z=>by
     obtain ⟨z1,z2⟩:=ag.mp z
     refine ag.mpr ⟨λy=>?_,hH1 _ _ z⟩
     rcases y with y | ⟨l,y⟩
     · rcases y with y | y | y
       · exact z1 y.1
       · rw [y,hD] at z2; cases z2
       · rw [hfr b y] at z2; cases z2
     · exact z1 ((hB l b y).2 ▸ od))
   refine ⟨d,i,hlt,_,_,_,S2.mono e3,dx',λσ2 B2 S3=>?_⟩
   refine gA ⟨d,i,hlt,_,_,_,S3,λv H5 bs o5 e5 hd5 hE5 hf5 d5=>?_⟩
   obtain ⟨nv,ndv⟩:=d5.nd (hn i hlt)
   have l3:((τb.set lc (.x (dH E d))).set j (.d (g i)))[lc]?=some (.x (dH E d)):=by rw [List.getElem?_set_ne hjl]; exact List.getElem?_set_self lct
   obtain ⟨a3,o3,c1,c2,c3,c4,_⟩:=S3.sl lc _ l3
   subst c4
   have od3:own (λb=>(own A B b/\b ≠ a3)\/b=D\/b ∈ rs) B2 a3:=.inr ⟨lc,by rw [c1]; exact List.mem_singleton.mpr rfl⟩
   have e6:But a3 H' H5:=(But.same e3).trans e5
   have hv5:=e6 _ _ (Ne.symm nD) hv1
   have bsD:∀ b ∈ bs,b ≠ D:=λb hb z=>by have:=(hf5 b hb).1; rw [z,e3 _ _ hv1] at this; cases this
   have bsR:∀ b ∈ bs,b ∉ rs:=λb hb z=>by obtain ⟨o,q⟩:=rsd b z; have:=(hf5 b hb).1; rw [e3 _ _ q] at this; cases this
   have hid:∀ b,(own A B b\/b=D\/b ∈ rs++bs)->own (λb=>(own A B b/\b ≠ a3)\/b=D\/b ∈ rs) B2 b\/b ∈ bs:=λb z=>by
     rcases z with z | z | z
     · by_cases e:b=a3
       · exact .inl (e ▸ od3)
       · exact .inl (.inl (.inl ⟨z,e⟩))
     · exact .inl (.inl (.inr (.inl z)))
     · exact (List.mem_append.mp z).elim (λz=>.inl (.inl (.inr (.inr z)))) .inr
   have smE:af (hd H5 λb=>own (λb=>(own A B b/\b ≠ a3)\/b=D\/b ∈ rs) B2 b\/b ∈ bs) (hd (upd H5 D (.lst (vs++[v]))) λb=>own A B b\/b=D\/b ∈ rs++bs):=λb o z=>by
     obtain ⟨z1,z2⟩:=ag.mp z
     exact ag.mpr ⟨λy=>z1 (hid b y),by rw [ai (λy:b=D=>z1 (.inl (.inl (.inr (.inl y)))))]; exact z2⟩
   refine ⟨vs,xs.length - (i + 1),hv5,Nat.lt_trans (Nat.lt_of_le_of_lt hv2 (Nat.lt_trans hlt hl)) (by decide),by omega,rfl,hlt,?_,vs++[v],rs++bs,o5,az,by rw [ai nD]; exact hd5,by rw [List.length_append]; exact Nat.succ_le_succ hv2,?_,?_,?_,S3.len.trans (by rw [List.length_set,List.length_set]),c2,E.mono smE hE5,λl s hll h=>?_⟩
   · intro b o ne z
     have nd':b ≠ D:=λy=>by rw [y,hD] at z; cases z
     rw [ai nd']
     exact e6 _ _ ne (e2 _ _ ne z)
   · rw [List.range_succ,List.map_append]
     have sm2:af (hd H' λb=>own A B b\/b=D\/b ∈ rs) (hd (upd H5 D (.lst (vs++[v]))) λb=>own A B b\/b=D\/b ∈ rs++bs):=λb o z=>by
       obtain ⟨z1,z2⟩:=ag.mp z
       refine ag.mpr ⟨λy=>?_,by rw [ai (λy:b=D=>z1 (.inr (.inl y)))]; exact e6 _ _ (λy=>z1 (.inl (y ▸ od))) z2⟩
       rcases y with y | y | y
       · exact z1 (.inl y)
       · exact z1 (.inr (.inl y))
       · rcases List.mem_append.mp y with y | y
         · exact z1 (.inr (.inr y))
         · have:=(hf5 b y).1; rw [e3 _ _ z2] at this; cases this
     refine aB.snoc (nv.frame smE λb hb=>ai (bsD b hb)) (hv3.frame sm2 λb hb=>?_)
     obtain ⟨o,q⟩:=rsd b hb
     rw [ai (λz:b=D=>(List.nodup_cons.mp hnd).1 (by rw [<- z]; exact hb)),e6 _ _ (rsn b hb) q,q]
   · obtain ⟨n1,n2⟩:=List.nodup_cons.mp hnd
     refine List.nodup_cons.mpr ⟨λz=>?_,List.nodup_append.mpr ⟨n2,ndv,λx hx y hy z=>bsR y hy (z ▸ hx)⟩⟩
     exact (List.mem_append.mp z).elim n1 λz=>bsD D z rfl
   · intro b hb
     rcases List.mem_append.mp hb with z | z
     · exact hfr b z
     · cases y:H1 b with
       | none=>rfl
       | some o=>
         have ne:b ≠ a3:=λq=>by have:=(hf5 b z).1; rw [q,e3 _ _ hd1] at this; cases this
         have:=(hf5 b z).1
         rw [e3 _ _ (e2 _ _ ne y)] at this
         cases this
   · rcases flat l s h with rfl | ⟨x,rfl⟩
     · rfl
     · have lj:l ≠ j:=λz=>by rw [z,hu] at h; cases h
       obtain ⟨_,u,eu,d⟩:=S3.sl l (.d x) (by rw [List.getElem?_set_ne (Ne.symm lj),List.getElem?_set_ne (Ne.symm hll)]; exact h)
       refine ⟨rfl,u,eu,d.mono λb o z=>?_⟩
       obtain ⟨z1,z2⟩:=ag.mp z
       refine ag.mpr ⟨λy=>?_,by rw [ai (λy:b=D=>z1 (.inl (.inr (.inl y))))]; exact e5 _ _ (λy=>z1 (y ▸ od3)) z2⟩
       rcases hid b y with y | y
       · exact z1 y
       · rw [(hf5 b y).1] at z2; cases z2
 · have e:i=xs.length:=by omega
   subst e
   have sH:af H₀ H':=λb o z=>e2 b o (λy=>by rw [y,f0] at z; cases z) (S1.same _ _ z)
   refine .inl ⟨y1 _ (Nat.le_refl _),Me.rt _ _ (D :: rs) _ h sH (λb hb=>?_) ⟨hnd,_,rfl,.l hv1 (hv3.frame (ao (af.refl _) λb z=>?_) λ_ _=>rfl)⟩⟩
   · rcases List.mem_cons.mp hb with rfl | z
     · exact ⟨S1.same.free hD,_,hv1⟩
     · exact ⟨S1.same.free (hfr b z),rsd b z⟩
   · rcases z with z | z
     · exact .inl (.inl z)
     · exact .inr ((List.mem_cons.mp z).elim .inl .inr)
end
end Hy
namespace Hy
open PySem PySem.Spec PyProof.Rows L2
open Ev (D Den aq ah)
section
variable {X:Cx} {C:Bool} {τ:List Sl} {e o:Expr} {k c i:Nat} {N:Po} {rest body:List Stmt} {cl:Nat->Addr} {n:Str} {fw S:Addr} {p p' q psm pr ph pos pc pq:Pos} {t:Nd} {pt:List Nat} {xs:List Nd}
theorem qN {ap cp:Pos} (ho:PE X o (dP X.K τ i pt)) (hi:τ[i]?=some (.n t)) (hp:bG pt t=some (.l xs)) (hr:PSs X rest (dS X.K (τ.set i (.n (bh pt t (.l [])))) N))
   (hline:(ap.endLine == cp.line)=true:=by rfl) (hs:swapsWith (.Call (.Attribute o "clear" ap) [] [] cp) none pos.line X.env=pure false:=by rfl) (hbase:attributeBase o "clear" X.env (eval o X.env)=eval o X.env:=by rfl) :
   PSs X (.Expr (.Call (.Attribute o "clear" ap) [] [] cp) pos :: rest) (dS X.K τ N):=
 aN (M:=(·=τ.set i (.n (bh pt t (.l []))))) (psW (cX (q0 PySem.F.plainAttrs_list PySem.F.slot_list_clear PySem.F.type_list_clear mG ho hbase hline) hs) λD σ H ⟨A,H₀,B,S,Me⟩=>by
   refine ⟨A,H₀,B,S,λu v H1 eu e1 pv=>?_⟩
   have S1:=S.mono e1
   obtain ⟨u',l,vs,bs0,eu',pv',hH,r0,nd0,hal,hown,put⟩:=S1.putN hi hp
   rw [eu] at eu'
   cases eu'
   obtain rfl:=pv.det pv'
   obtain ⟨B',S'⟩:=put (H1:=H1) (vs':=[]) (bs1:=[]) (xs':=[]) (af.refl _) List.nodup_nil (λ_ z=>nomatch z) .nil
   exact ⟨.inl ⟨rfl,_,SqL.of hH⟩,l,vs,rfl,rfl,hH,Me.nx _ B' _ _ rfl S'⟩) λ_ e=>e ▸ hr
theorem rS {u:Str} {ju} (B:Bk X k) (nd:X.N.Nodup) (hb:∀ (pins:List (Addr × Obj)) (E:Value->Shared->Prop) (Ex:Nat->Hp->Prop),PsX (Hx.XP X pins E) cl Ex->PSs (Hx.XP X pins E) body (dS X.K τ { nx:=λ_=>False,rt:=λ_=>False,xc:=Ex c })) (h:N.rt (.d (.bl (decide (wordOf c=u)))))
   (hmS:X.mg "SmoothError" = some (.ref S)) (hx:PySem.W.exmOne X.K (.ref (cl c)) (.ref S)=some true) (hm:X.mg "_law_word" = some (.ref fw)) (hk:PySem.W.keepIn X.K (.ref fw)=true) (hW:cf X.prog X.w X.K X.mg X.base cl k fw c) (i:Nat)
   (hst:X.stack=X.env :: X.outer/\X.env.frame=some X.env.locals:=by exact ⟨rfl,rfl⟩) (hi:X.N[i]?=some n:=by rfl) (hn:X.env.scope.names.lookup n=some .local:=by rfl) (hgS:Gl X "SmoothError":=by rfl) (hg:Gl X "_law_word":=by rfl) (h1:(n == ("__debug__" : Str))=false:=by decide) (h2:(n == ("__classdict__" : Str))=false:=by decide)
   (hmk:behindInMarks .Eq (.Constant (.str u) ju pc)=false:=by first | exact jL _ | rfl) :
   PSs X (.Try body [.ExceptHandler (some (.Name "SmoothError" psm)) (some n) [.Return (some (.Compare (.Call (.Name "_law_word" p) [.Name n p'] [] q) [.Eq] [.Constant (.str u) ju pc] pq)) pr] ph] [] [] pos :: rest) (dS X.K τ N):=by
 refine aN (M:=λ_=>False) (psW (Hx.rF (ks:=[c]) (cl:=cl) (i:=i) (tr:=λa o=>tOp rEq (trW cl c i a o) (tC (.str u))) (tb:=λEx=>dS X.K τ { nx:=λ_=>False,rt:=λ_=>False,xc:=Ex c }) hst nd hi hn hgS hmS (by decide) (λc' hc'=>by rw [List.mem_singleton.mp hc']; exact hx) (λa o=>kZ qk (oq hg hm hk hW ⟨B.room.dp,B.room.un⟩ hi hn h1 h2) mM hmk) λEx pins E hp=>hb pins E Ex hp) λD σ H ⟨A,H₀,B,S,Me⟩=>?_) λ_ e=>e.elim
 refine ⟨A,H₀,B,S,λ_ _ _ _ h=>h.elim,λ_ _ _ _ h=>h.elim,λ_ _ _ _ h=>h.elim,λ_ _ _ _ h=>h.elim,λH' e'=>⟨List.mem_singleton.mpr rfl,λσ' a o hl Ha ho=>⟨az,ho,List.getElem?_set_self hl,λH2 e2=>?_⟩⟩⟩
 refine ⟨rfl,?_⟩
 rw [show decide (V.str (wordOf c)=V.str u)=decide (wordOf c=u) by simp]
 exact Me.rt _ H2 [] (.d (.bl (decide (wordOf c=u)))) h ((e'.trans (ah Ha _)).trans e2) dz (eN .bl)
end
end Hy
namespace Hy
open PySem PySem.Spec PyProof.Rows L2
open Ev (D Den aq ah aC ay Ite qY fy)
section
variable {X:Cx} {τ:List Sl} {k:Nat} {N:Po} {rest ret:List Stmt} {c:Expr} {ns:List Nd} {xs:List D} {p q ip tp pos bp cp pb:Pos}
theorem qE (iv a b:Nat) {n na nb:Str} {md:Nat} (Bq:Bk X k) (hN:X.N.Nodup) (hi:τ[iv]?=some (.n (.l ns))) (hx:eO ns=xs)
   (ht:∀ k (h:k < xs.length),PT X c (dT X.K (((τ.set iv (.d (.lst xs))).set a (.d (.int (k:Nat)))).set b (.d xs[k])) false))
   (hr:PSs X rest (dS X.K τ N)) (ha:τ[a]?=some .un:=by rfl) (hb:τ[b]?=some .un:=by rfl) (hab:a ≠ b:=by decide) (hva:iv ≠ a:=by decide) (hvb:iv ≠ b:=by decide)
   (hNi:X.N[iv]?=some n:=by rfl) (hNa:X.N[a]?=some na:=by rfl) (hNb:X.N[b]?=some nb:=by rfl)
   (hvi:Vis X.env.scope n:=by first | exact Or.inl rfl | exact Or.inr (Or.inl rfl) | exact Or.inr (Or.inr rfl)) (hla:Loc X.env.scope na:=by first | exact .inl rfl | exact .inr rfl) (hlb:Loc X.env.scope nb:=by first | exact .inl rfl | exact .inr rfl)
   (hfa:X.fn na=true\/X.env.scope.names.lookup na=some .local:=by first | exact .inl rfl | exact .inr rfl | assumption) (hfb:X.fn nb=true\/X.env.scope.names.lookup nb=some .local:=by first | exact .inl rfl | exact .inr rfl | assumption)
   (hd1:(n == ("__debug__" : Str))=false:=by decide) (hd2:(n == ("__classdict__" : Str))=false:=by decide) (hg:Gl X "enumerate":=by rfl) (hst:starEach [.Name n ip] X.env=[(false,eval (.Name n ip) X.env)]:=by rfl)
   (hs:∀ x,foldedSetIterable (.Call (.Name "enumerate" p) [.Name n ip] [] cp) X.env x=pure x:=by intro _; rfl) :
   PSs X (.For (.Tuple [.Name na tp,.Name nb pb] md q) (.Call (.Name "enumerate" p) [.Name n ip] [] cp) [.If c ret [] bp] [] pos :: rest) (dS X.K τ N):=by
 let τk:Nat->D->List Sl:=λk x=>((τ.set iv (.d (.lst xs))).set a (.d (.int (k:Nat)))).set b (.d x)
 have bd:PSs X [.If c ret [] bp] λD σ H=>∃ kk,∃ h:kk < xs.length,dT X.K (τk kk xs[kk]) false σ H λ_ H'=>D.nx σ H':=by
   rintro pins s σ H D I ⟨kk,hk,A,H₀,B,S,q⟩
   exact (bA (gh (ht kk hk) cW cy)) pins s σ H D I ⟨A,H₀,B,S,λH' e=>gy (q H' e)⟩
 have fzx:fzD (.n (.l ns))=some (.lst xs):=by show some (D.lst (eO ns))=_; rw [hx]
 refine aN (M:=(·=τ)) (psW (jR Bq.po (fy Bq.calm hg (Bq.blt _ (by decide)) (av (a9 hNi hvi hd1 hd2) aV hst) hst) (mI Bq.calm (cH (bz (i:=a) hN hNa hla hfa) (cH (bz (i:=b) hN hNb hlb hfb) k6))) bd hs) λD σ H ⟨A,H₀,B,S,Me⟩=>?_) λ_ e=>e ▸ hr
 obtain ⟨_,u,eu,ok⟩:=S.sl iv _ hi
 have Sf:=S.fz hi fzx
 obtain ⟨_,u',eu',du⟩:=Sf.sl iv (.d (.lst xs)) (List.getElem?_set_self (List.getElem?_eq_some_iff.mp hi).1)
 rw [eu] at eu'
 cases eu'
 cases du with
 | @lst ad vs _ hl r=>
   have hlv:=r.length
   refine ⟨_,slot_of eu,ad,rfl,⟨_,ay aD hl⟩,λk m σ' H'=>m=xs.length - k/\k<=xs.length/\af H H'/\(σ'=σ\/∃ v1 v2,σ'=(σ.set a (some v1)).set b (some v2)),⟨_,rfl,Nat.zero_le _,af.refl _,.inl rfl⟩,?_⟩
   rintro k m σ' H' ⟨rfl,hk,sm,hσ⟩
   have hl':SqL X.K H' ad vs:=ay (aD.trans sm) hl
   by_cases hlt:k < xs.length
   · obtain ⟨v,hv,dv⟩:=r.get (List.getElem?_eq_getElem hlt)
     refine .inr ⟨⟨vs,v,hl',hv⟩,λσ2 H2=>af H H2/\∃ v1 v2,σ2=(σ.set a (some v1)).set b (some v2),λσ2 H2 ⟨z0,z1⟩=>⟨xs.length - (k + 1),by omega,rfl,hlt,z0,.inr z1⟩,λy H2 ⟨pt,x,hp,e0,e1,e2⟩=>?_⟩
     subst e0 e1
     have ex:x=v:=by have:=e2 vs hl'; rw [hv] at this; exact (Option.some.inj this).symm
     subst ex
     have smp:=ah hp (.tup [.int (k:Nat),x])
     have eσ:(σ'.set a (some (.int (k:Nat)))).set b (some x)=(σ.set a (some (.int (k:Nat)))).set b (some x):=by
       rcases hσ with rfl | ⟨v1,v2,rfl⟩
       · rfl
       · refine List.ext_getElem? λl=>?_
         by_cases z1:b=l <;> by_cases z2:a=l <;> simp [List.getElem?_set,z1,z2]
     refine ⟨pt,[.int (k:Nat),x],rfl,SqT.of az,rfl,_,_,rfl,_,_,rfl,rfl,?_⟩
     rw [eσ]
     have S1:=(Sf.mono sm).mono smp
     have dx:=dv.mono (ao (sm.trans smp) λ_ z=>z)
     have S2:=S1.set (af.refl _) (i:=a) (v:=.int (k:Nat)) (s:=.d (.int (k:Nat))) (bs:=[]) (λ_ z=>nomatch z) (eN .int)
     have sub:∀ b,own A (upB (upB B iv []) a []) b->own A (upB B iv []) b:=λb z=>z.elim .inl λ⟨j,z⟩=>(aJ z).elim (λz=>nomatch z.2) λz=>.inr ⟨j,z.2⟩
     have S3:=S2.set (af.refl _) (i:=b) (v:=x) (s:=.d xs[k]) (bs:=[]) (λ_ z=>nomatch z) (eN (dx.mono (ao (af.refl _) sub)))
     exact ⟨k,hlt,A,H₀,_,S3,λH3 e3=>⟨(sm.trans smp).trans e3,_,_,rfl⟩⟩
   · obtain rfl:k=xs.length:=by omega
     refine .inl ⟨⟨vs,hl',by omega⟩,?_⟩
     have S1:=S.mono sm
     rcases hσ with rfl | ⟨v1,v2,rfl⟩
     · exact Me.nx _ _ _ _ rfl S1
     · have S2:=S1.set (af.refl _) (i:=a) (v:=v1) (s:=.un) (bs:=[]) (λ_ z=>nomatch z) rfl
       rw [set_same ha] at S2
       have S3:=S2.set (af.refl _) (i:=b) (v:=v2) (s:=.un) (bs:=[]) (λ_ z=>nomatch z) rfl
       rw [set_same hb] at S3
       exact Me.nx _ _ _ _ rfl S3
end
end Hy
namespace Hy
open PySem PySem.Spec PyProof.Rows L2
open Ev (D Den aq ay eqD bM bO cln dep bX)
section
variable {X:Cx} {k:Nat} {x:D} {xs:List D}
theorem oB (hu:X.A.units + 70 < cLine):OpR X (compareOp .NotIn) (λv y H Q=>∃ G d xs a,y=.ref a/\af G H/\Den X.K G v d/\Den X.K G (.ref a) (.lst xs)/\bM d/\(∀ z ∈ xs,bM z)/\Q (.bl (!xs.any λz=>eqD z d)) H):=by
 classical
 intro pins s σ H v y u u' Q I rx ry ⟨G,d,xs,a,e0,sg,dx,dy,o1,o2,q⟩
 subst e0
 cases ry
 cases dy with
 | @lst _ vs _ hl r=>
   obtain ⟨its,rv,pl,hz⟩:=I.list (ay sg hl)
   have l1:=r.length
   have l2:=rv.length
   have i1:∀ A:Around,A.in1.units=A.units + 1:=λ_=>rfl
   have ev:∀ i (h:i < xs.length),∃ w,its[i]?=some w/\SeqAt.EqAt X.A.in1 s w u (eqD xs[i] d):=λi h=>by
     obtain ⟨v',w,e1,d1,r1⟩:=Lc.cY r rv (List.getElem?_eq_getElem h)
     have oz:=o2 _ (List.getElem_mem h)
     exact ⟨w,e1,Lc.cN I sg d1 r1 dx rx oz.1 o1.1 (by rw [i1]; have:=oz.2; omega)⟩
   let f:Value->Bool:=λw=>decide (∃ i,∃ h:i < xs.length,its[i]?=some w/\eqD xs[i] d=true)
   have an:its.toArray.any f=xs.any λz=>eqD z d:=by
     rw [Bool.eq_iff_iff]
     constructor
     · intro h
       obtain ⟨w,hw,h⟩:=List.any_eq_true.mp (by simpa using h)
       obtain ⟨i,hi,_,e⟩:=of_decide_eq_true h
       exact List.any_eq_true.mpr ⟨_,List.getElem_mem hi,e⟩
     · intro h
       obtain ⟨z,hz,e⟩:=List.any_eq_true.mp h
       obtain ⟨i,hi,rfl⟩:=List.getElem_of_mem hz
       obtain ⟨w,ew,_⟩:=ev i hi
       have:its.any f=true:=List.any_eq_true.mpr ⟨w,List.mem_of_getElem? ew,decide_eq_true ⟨i,hi,ew,e⟩⟩
       simpa using this
   refine SeqAt.notIn_listAt f pl.isList (λw hw=>?_) ⟨.bl _,H,I,rfl,?_⟩
   · have hw:w ∈ its:=by simpa using hw
     obtain ⟨i,hi,e⟩:=List.getElem_of_mem hw
     have hi':i < xs.length:=by omega
     have ei:its[i]?=some w:=by rw [List.getElem?_eq_getElem hi,e]
     by_cases c:∃ i,∃ h:i < xs.length,its[i]?=some w/\eqD xs[i] d=true
     · have:f w=true:=decide_eq_true c
       rw [this]
       obtain ⟨j,hj,ej,t⟩:=c
       obtain ⟨w',ew,q'⟩:=ev j hj
       rw [ej] at ew
       cases ew
       rw [t] at q'
       exact q'
     · have:f w=false:=decide_eq_false c
       rw [this]
       obtain ⟨w',ew,q'⟩:=ev i hi'
       rw [ei] at ew
       cases ew
       cases t:eqD xs[i] d with
       | true=>exact absurd ⟨i,hi',ei,t⟩ c
       | false=>rw [t] at q'; exact q'
   · rw [an]
     exact q
theorem rN (B:Bk X k) (h1:bM x) (h2:∀ z ∈ xs,bM z):bN X (compareOp .NotIn) x (.lst xs) (.bl (!xs.any λz=>eqD z x)):=⟨_,oB (by have:=B.room.un; omega),λM v w H Q _ d1 d2 q=>by
 cases d2 with
 | lst h r=>exact ⟨_,x,xs,_,rfl,aD,d1,.lst h r,h1,h2,q _ H (af.refl _) .bl⟩⟩
end
end Hy
namespace K52
open PySem PySem.Spec PyProof.Rows L2 Hy
noncomputable def top (i:Nat):Stmt:=PySem.Challenge.pw_signsmooth_k52_staircases_listed.main.body.getD i (.Pass ⟨0,0,0,0⟩)
theorem ef:aE ["_law_cell_here","_law_bases","_law_row","_law_base","_law_k","_law_mixed"] ["_law_cell_here","_law_bases"] (ak (top 36)):=⟨rfl,rfl,rfl,by decide +kernel,rfl,by decide +kernel,by decide +kernel⟩
theorem jn:aE ["thing"] ["thing"] (ak (top 22)):=⟨rfl,rfl,rfl,by decide +kernel,rfl,by decide +kernel,by decide +kernel⟩
theorem gv:aE ["thing","least","most"] ["thing","least","most"] (ak (top 23)):=⟨rfl,rfl,rfl,by decide +kernel,rfl,by decide +kernel,by decide +kernel⟩
theorem gE:aE ["rows","columns"] ["rows","columns"] (ak (top 28)):=⟨rfl,rfl,rfl,by decide +kernel,rfl,by decide +kernel,by decide +kernel⟩
theorem dj:aE ["shape","place","state","mark","j","begun"] ["shape","place","state","mark"] (ak (top 29)):=⟨rfl,rfl,rfl,by decide +kernel,rfl,by decide +kernel,by decide +kernel⟩
theorem bF:aE ["known","shape","place","state","column_bit"] ["known","shape","place","state"] (ak (top 31)):=⟨rfl,rfl,rfl,by decide +kernel,rfl,by decide +kernel,by decide +kernel⟩
theorem cv:aE ["known","shape","place","state","filled"] ["known","shape","place","state"] (ak (top 30)):=⟨rfl,rfl,rfl,by decide +kernel,rfl,by decide +kernel,by decide +kernel⟩
theorem cC:aE ["known","shape","number","marks","state","left","place","empty","mark"] ["known","shape","number"] (ak (top 33)):=⟨rfl,rfl,rfl,by decide +kernel,rfl,by decide +kernel,by decide +kernel⟩
theorem eI:aE ["rows","columns","known","many"] ["rows","columns"] (ak (top 32)):=⟨rfl,rfl,rfl,by decide +kernel,rfl,by decide +kernel,by decide +kernel⟩
theorem lK:aE ["_law_script","_law_k"] ["_law_script","_law_k"] (ak (top 35)):=⟨rfl,rfl,rfl,by decide +kernel,rfl,by decide +kernel,by decide +kernel⟩
theorem eD:aE ["_law_clear","_law_found","_law_first","_law_some","_law_one","_law_longer","_law_row"] ["_law_clear"] (ak (top 38)):=⟨rfl,rfl,rfl,by decide +kernel,rfl,by decide +kernel,by decide +kernel⟩
theorem fW:aE ["_law_cell_here","_law_many","_law_wide","_law_marks","_law_clear","_law_part","_law_some","_law_row"] ["_law_cell_here","_law_many","_law_wide"] (ak (top 39)):=⟨rfl,rfl,rfl,by decide +kernel,rfl,by decide +kernel,by decide +kernel⟩
theorem gK:aE ["_law_e","_law_named","_law_words","_law_some"] ["_law_e"] (ak (top 41)):=⟨rfl,rfl,rfl,by decide +kernel,rfl,by decide +kernel,by decide +kernel⟩
theorem eF:aE ["_law_rows","_law_columns","_law_e"] ["_law_rows","_law_columns"] (ak (top 45)):=⟨rfl,rfl,rfl,by decide +kernel,rfl,by decide +kernel,by decide +kernel⟩
theorem eY:aE ["_law_n","_law_row","_law_many","_law_wider"] ["_law_n"] (ak (top 42)):=⟨rfl,rfl,rfl,by decide +kernel,rfl,by decide +kernel,by decide +kernel⟩
theorem eh:aE ["_law_rows","_law_columns","_law_one","_law_other","_law_total","_law_factor","_law_k"] ["_law_rows","_law_columns"] (ak (top 43)):=⟨rfl,rfl,rfl,by decide +kernel,rfl,by decide +kernel,by decide +kernel⟩
theorem cP:aE ["_law_marks","_law_i","_law_j"] ["_law_marks"] (ak (top 40)):=⟨rfl,rfl,rfl,by decide +kernel,rfl,by decide +kernel,by decide +kernel⟩
theorem jY:aE ["_law_thing"] ["_law_thing"] (ak (top 37)):=⟨rfl,rfl,rfl,by decide +kernel,rfl,by decide +kernel,by decide +kernel⟩
theorem c8:aE ["_law_found","_law_rows","_law_columns","_law_row"] ["_law_found","_law_rows","_law_columns"] (ak (top 44)):=⟨rfl,rfl,rfl,by decide +kernel,rfl,by decide +kernel,by decide +kernel⟩
theorem n9:aE ["_law_script","_law_parts","_law_rows","_law_columns","_law_found","_law_k","_law_marks","_law_kept"] ["_law_script"] (ak (top 46)):=⟨rfl,rfl,rfl,by decide +kernel,rfl,by decide +kernel,by decide +kernel⟩
end K52
namespace K52
open PySem PySem.Spec PyProof.Rows L2 Hy
open Ev (D Den aq aK a5)
noncomputable def fI (ds:List D) (r:Sl):Prop:=∃ (ns:List Int) (k:Nat),ds=[.lst (ns.map .int),.int k]/\r=.d (.int (ns.getD k 0))
noncomputable def fA:Int->List Int->List Int
 | _,[]=>[]
 | c,b :: r=>c.fmod b :: fA (c.fdiv b) r
noncomputable def oi (c:Int) (bs:List Int):Int:=bs.foldl (λc b=>c.fdiv b) c
noncomputable def r9 (c:Int) (k:Nat) (b:Int):Int:=(((((c * 48271 + (k:Int) * k * 69621 + (k:Int) * 16807 + 11).fmod 2147483647) * 40692 + c + 31 * (k:Int)).fmod 2147483399).fdiv 7).fmod b
noncomputable def pJ (c:Int) (bs:List Int):List Int:=(List.range bs.length).map λk=>r9 c k (bs.getD k 0)
noncomputable def nums (c:Int) (bs:List Int):List Int:=if (10:Int) ^ (18:Int).toNat<=sT c then fA c bs else pJ c bs
theorem hJ:∀ (bs:List Int) (c b:Int),fA c (bs++[b])=fA c bs++[(oi c bs).fmod b]
 | [],_,_=>rfl
 | a :: bs,c,b=>by rw [List.cons_append,fA,fA,hJ bs]; rfl
theorem fM:∀ (bs:List Int) (c:Int),(fA c bs).length=bs.length
 | [],_=>rfl
 | _ :: bs,c=>congrArg (· + 1) (fM bs _)
theorem ja (c:Int) (bs:List Int):(nums c bs).length=bs.length:=by
 unfold nums
 split
 · exact fM bs c
 · simp [pJ]
theorem ki:∀ (bs:List Int) (c:Int),(∀ b ∈ bs,0 < b)->∀ (i:Nat),i < bs.length->0<=(fA c bs).getD i 0/\(fA c bs).getD i 0 < bs.getD i 0
 | b :: bs,c,h,0,_=>by
   have:=h b (List.mem_cons_self ..)
   exact ⟨Int.fmod_nonneg_of_pos c this,Int.fmod_lt_of_pos c this⟩
 | b :: bs,c,h,i + 1,hi=>by
   have:=ki bs (c.fdiv b) (λx hx=>h x (List.mem_cons_of_mem _ hx)) i (by simpa using hi)
   simpa [fA] using this
theorem hV {c:Int} {bs:List Int} (h:∀ b ∈ bs,0 < b) {i:Nat} (hi:i < bs.length):0<=(nums c bs).getD i 0/\(nums c bs).getD i 0 < bs.getD i 0:=by
 unfold nums
 split
 · exact ki bs c h i hi
 · have hp:0 < bs.getD i 0:=h _ (by simp [hi])
   have e:(pJ c bs).getD i 0=r9 c i (bs.getD i 0):=by simp [pJ,hi]
   rw [e]
   exact ⟨Int.fmod_nonneg_of_pos _ hp,Int.fmod_lt_of_pos _ hp⟩
theorem take_snoc {α:Type} {xs:List α} {i:Nat} (d:α) (h:i < xs.length):xs.take (i + 1)=xs.take i++[xs.getD i d]:=by
 rw [List.take_add_one,List.getElem?_eq_getElem h]
 simp [h]
noncomputable def bR (ds:List D) (r:Sl):Prop:=∃ (c:Int) (bs:List Int),ds=[.int c,.lst (bs.map .int)]/\bs.length<=10000/\(∀ b ∈ bs,0 < b/\b < 2 ^ 60)/\r=.o ((nums c bs).map .int)
noncomputable def whw (x:D):Bool:=jq .int x && !jq .bool x
noncomputable def eH (ds:List D) (r:Sl):Prop:=∃ x,ds=[x]/\r=.d (.bl (whw x))
noncomputable def whl (x:D):Bool:=jq .int x && !jq .bool x
noncomputable def dr (ds:List D) (r:Sl):Prop:=∃ x,ds=[x]/\r=.d (.bl (whl x))
noncomputable def cB (ds:List D) (r:Sl):Prop:=∃ i l m:Int,ds=[.int i,.int l,.int m]/\r=.d (.bl (decide (l<=i) && decide (i<=m)))
noncomputable def bB (ds:List D) (r:Sl):Prop:=∃ i j:Int,ds=[.int i,.int j]/\1<=i/\i<=7/\1<=j/\j<=7/\r=.d .non
noncomputable def nxs (C p:Nat) (bits:Int) (begun:Bool) (mark:Int):Int × Bool:=(Builtin.bitOr bits (mark * 2 ^ (p % C)),decide (p % C + 1 < C) && (begun || decide (mark=1)))
noncomputable def stD (s:Int × Bool):D:=.tup [.int s.1,.bl s.2]
noncomputable def aL (ds:List D) (r:Sl):Prop:=∃ (R C p:Nat) (s:Int × Bool) (m:Int),ds=[.tup [.int R,.int C],.int p,stD s,.int m]/\1<=C/\C<=7/\0<=m/\m<=1/\r=.d (stD (nxs C p s.1 s.2 m))
noncomputable def wid (r:List Int):List Int:=0 :: (r++[0])
noncomputable def a4:Nat->List Int
 | 0=>[1]
 | n + 1=>(List.range (n + 2)).map λ(k:Nat)=>(k:Int) * (wid (a4 n)).getD (k + 1) 0 + (wid (a4 n)).getD k 0
theorem eL:∀ n,(a4 n).length=n + 1
 | 0=>rfl
 | n + 1=>by rw [a4,List.length_map,List.length_range]
noncomputable def dn (ds:List D) (r:Sl):Prop:=∃ n:Nat,ds=[.int n]/\n<=100/\r=.d (.lst ((a4 n).map .int))
theorem qZ {m:Int} {n:Nat} (i:Nat) (h:i < (dD m n).length):(dD m n)[i]=.int (m + (i:Nat)):=iz m n i h
noncomputable def fct:Nat->Int
 | 0=>1
 | k + 1=>fct k * ((k:Int) + 1)
noncomputable def qO (a b:List Int):Nat->Int
 | 0=>0
 | k + 1=>qO a b k + fct k * fct k * a.getD (k + 1) 0 * b.getD (k + 1) 0
noncomputable def l4 (R C:Nat):Int:=qO (a4 (R + 1)) (a4 (C + 1)) (min R C + 1)
theorem kz:∀ n,n<=8->∀ x ∈ a4 n,x.natAbs < 2 ^ 20:=by decide +kernel
theorem rg:∀ k,k<=8->(fct k).natAbs < 2 ^ 20:=by decide +kernel
noncomputable def cJ (ds:List D) (r:Sl):Prop:=∃ R C:Nat,ds=[.int R,.int C]/\R<=7/\C<=7/\r=.d (.int (l4 R C))
noncomputable def rwD (r:List Int):D:=.lst (r.map .int)
noncomputable def tbD (m:List (List Int)):D:=.lst (m.map rwD)
noncomputable def lM (m:List (List Int)) (i j:Nat):Bool:=decide ((m.getD i []).getD j 0=0) && (decide (0 < ((m.getD i []).take j).sum) && decide (0 < ((List.range (m.take i).length).map λl=>((m.take i).getD l []).getD j 0).sum))
noncomputable def cw (C:Nat) (m:List (List Int)):Bool:=(List.range m.length).all λi=>(List.range C).all λj=>!lM m i j
noncomputable def bU (ds:List D) (r:Sl):Prop:=∃ (C:Nat) (m:List (List Int)),ds=[tbD m]/\0 < m.length/\m.length<=7/\C<=7/\(∀ i,i < m.length->(m.getD i []).length=C)/\r=.d (.bl (cw C m))
theorem hZ {m:List (List Int)} {i:Int} (h0:0<=i) (h:i.toNat < m.length):atI (m.map rwD) i=some (rwD (m.getD i.toNat [])):=by
 obtain ⟨n,rfl⟩:=Int.eq_ofNat_of_zero_le h0
 exact aO (by
   have h:n < m.length:=h
   simp [h])
theorem mQ {m:List (List Int)} (i:Nat) (h:i < (m.map rwD).length):(m.map rwD)[i]=rwD (m.getD i []):=by
 have:i < m.length:=by simpa using h
 simp [this]
section
variable {P:Program} {w:World} {K:PySem.W.Frag} {mg:Str->Option Value} {base:Heap} {k:Nat} {f:Addr} {fd:FuncData} {qual:Str}
theorem lI (F:Fun K "_law_cell" qual (top 35) f fd) (hb:∀ x ∈ aA,mg x=none):aP P w K mg base CX0 (k + 1) f fd ["_law_script","_law_k"] (spD K fI):=by
 refine fnD F lK hb (by rintro _ _ ⟨_,_,rfl,_⟩; rfl) ?_
 rintro _ _ ⟨ns,n,rfl,rfl⟩ cdv A outer s H E b
 refine jt (bo (aa 1) (eJ b (ae (aa 0) ar) d0) qR) (λh=>?_) λh=>?_
 · have h:=of_decide_eq_true h
   rw [List.length_map] at h
   exact bK (bg (aa 0) (aa 1) (a0 (cM (by omega) (by omega)))) rfl
 · have h:=of_decide_eq_false h
   rw [List.length_map] at h
   refine bK aj ?_
   show Sl.d (.int 0)=_
   rw [getD_none (by omega)]
theorem iq (F:Fun K "_law_numbers" qual (top 36) f fd) (hb:∀ x ∈ aA,mg x=none):aP P w K mg base CX0 (k + 1) f fd ["_law_cell_here","_law_bases"] (spD K bR):=by
 refine fnD F ef hb (by rintro _ _ ⟨_,_,rfl,_⟩; rfl) ?_
 rintro _ _ ⟨c,bs,rfl,hl,hbs,rfl⟩ cdv A outer s H E b
 have nd:=ef.nd
 have hp:∀ i,i < bs.length->0 < bs.getD i 0/\bs.getD i 0 < 2 ^ 60:=λi hi=>hbs _ (by simp [hi])
 refine aF 2 nd (aW ar) ?_
 refine jt (bo (eJ b (ae (aa 0) ar) tL) (aH aj aj (sQ ⟨by decide,by decide,by decide⟩)) uM) (λh=>?_) λh=>?_
 · refine cS 3 (λi τ=>∃ s3,τ=[.d (.int (oi c (bs.take i))),.d (.lst (bs.map .int)),.o ((fA c (bs.take i)).map .int),s3,.un,.un]) b nd (bV (aa 1)) nA ⟨_,rfl⟩ (λi hi τ h=>?_) λτ h=>?_
   · obtain ⟨s3,rfl⟩:=h
     have hi:i < bs.length:=by simpa using hi
     obtain ⟨p1,p2⟩:=hp i hi
     refine gJ 2 (aH (aa 0) (aa 3) (dZ (by omega))) ?_ ?_
     · rw [List.length_map,fM,List.length_take]; omega
     refine aF 0 nd (aH (aa 0) (aa 3) (mV (mkD (by omega) (by omega)))) (a7 ?_)
     apply ex1
     show [Sl.d (.int ((oi c (bs.take i)).fdiv (bs.getD i 0))),_,Sl.o _,_,_,_]=_
     rw [take_snoc 0 hi,hJ,List.map_append]
     unfold oi
     rw [List.foldl_append]
     rfl
   · obtain ⟨s3,rfl⟩:=h
     refine mK 2 ?_
     rw [List.length_map,List.take_of_length_le (Nat.le_refl _)]
     unfold nums
     rw [if_pos (of_decide_eq_true h)]
 · refine qI 4 3 (λi τ=>∃ s3 s4 s5,τ=[.d (.int c),.d (.lst (bs.map .int)),.o (((List.range i).map λk=>r9 c k (bs.getD k 0)).map .int),s3,s4,s5]) b nd (tW b (aa 1)) tI ⟨_,_,_,rfl⟩ (λi hi τ h=>?_) λτ h=>?_
   · obtain ⟨s3,s4,s5,rfl⟩:=h
     have hi:i < bs.length:=by rw [dU,List.length_map] at hi; exact hi
     obtain ⟨p1,p2⟩:=hp i hi
     refine aF 5 nd (aH (aH (aH (aH (aH (aa 0) aj (b8 (mkR (by decide)))) (aH (aH (aa 4) (aa 4) (b8 (mkL (by omega)))) aj (b8 (mkR (by decide)))) aR) (aH (aa 4) aj (b8 (mkR (by decide)))) aR) aj aR) aj (dZ (by decide))) ?_
     refine gJ 2 (aH (aH (aH (aH (aH (aH (aa 5) aj (b8 (mkR (by decide)))) (aa 0) aR) (aH aj (aa 4) (b8 (mkL (by decide)))) aR) aj (dZ (by decide))) aj (mV (mkD (by decide) (by decide)))) (aa 3) (dZ (by omega))) ?_ (a7 ?_)
     · rw [List.length_map,List.length_map,List.length_range]; omega
     apply ex3
     rw [List.range_succ,List.map_append,List.map_append]
     rfl
   · obtain ⟨s3,s4,s5,rfl⟩:=h
     refine mK 2 ?_
     rw [dU,List.length_map]
     unfold nums
     rw [if_neg (of_decide_eq_false h)]
     rfl
theorem j0 (F:Fun K "_law_whole" qual (top 37) f fd) (hb:∀ x ∈ aA,mg x=none):aP P w K mg base CX0 (k + 1) f fd ["_law_thing"] (spD K eH):=by
 refine fnD F jY hb (by rintro _ _ ⟨_,rfl,_⟩; rfl) ?_
 rintro _ _ ⟨x,rfl,rfl⟩ cdv A outer s H E b
 exact bK (gM (fF .int b (aa 0)) λh=>(fK (qh (fF .bool b (aa 0))))) rfl
theorem i8 (F:Fun K "is_whole" qual (top 22) f fd) (hb:∀ x ∈ aA,mg x=none):aP P w K mg base CX0 (k + 1) f fd ["thing"] (spD K dr):=by
 refine fnD F jn hb (by rintro _ _ ⟨_,rfl,_⟩; rfl) ?_
 rintro _ _ ⟨x,rfl,rfl⟩ cdv A outer s H E b
 exact bK (gM (fF .int b (aa 0)) λh=>(fK (qh (fF .bool b (aa 0))))) rfl
theorem gz (F:Fun K "is_between" qual (top 23) f fd) (hb:∀ x ∈ aA,mg x=none) (c_is_whole:Cal P w K mg base k "is_whole" dr):aP P w K mg base CX0 (k + 1) f fd ["thing","least","most"] (spD K cB):=by
 refine fnD F gv hb (by rintro _ _ ⟨_,_,_,rfl,_⟩; rfl) ?_
 rintro _ _ ⟨i,l,m,rfl,rfl⟩ cdv A outer s H E b
 exact bK (gM (x_call b c_is_whole (ae (aa 0) ar) ⟨_,rfl,rfl⟩) λh=>(fK (kJ (aa 1) (aa 0) (aa 2) oF oF).1)) rfl
theorem gr (F:Fun K "look_shape" qual (top 28) f fd) (hb:∀ x ∈ aA,mg x=none) (y_MOST:∃ t,mg "MOST" = some (.int 7 t)) (c_is_between:Cal P w K mg base k "is_between" cB):aP P w K mg base CX0 (k + 1) f fd ["rows","columns"] (spD K bB):=by
 refine fnD F gE hb (by rintro _ _ ⟨_,_,rfl,_⟩; rfl) ?_
 rintro _ _ ⟨i,j,rfl,h1,h2,h3,h4,rfl⟩ cdv A outer s H E b
 refine er (PW.pt (lF (df (cQ (x_call b c_is_between (ae (aa 0) (ae aj (ae (i5 y_MOST) ar))) ⟨_,_,_,rfl,rfl⟩))) λh=>(gX (df (cQ (x_call b c_is_between (ae (aa 1) (ae aj (ae (i5 y_MOST) ar))) ⟨_,_,_,rfl,rfl⟩)))))) ?_ (a7 rfl)
 rw [decide_eq_true h1,decide_eq_true h2,decide_eq_true h3,decide_eq_true h4]
 rfl
theorem gx (F:Fun K "next_state" qual (top 29) f fd) (hb:∀ x ∈ aA,mg x=none):aP P w K mg base CX0 (k + 1) f fd ["shape","place","state","mark"] (spD K aL):=by
 refine fnD F dj hb (by rintro _ _ ⟨_,_,_,_,_,rfl,_⟩; rfl) ?_
 rintro _ _ ⟨R,C,p,⟨bits,begun⟩,m,rfl,h1,h2,h3,h4,rfl⟩ cdv A outer s H E b
 have nd:=dj.nd
 have hm:((p:Int).fmod C)=((p % C:Nat):Int):=by rw [Int.fmod_eq_emod_of_nonneg _ (by omega)]; rfl
 have hlt:p % C < C:=Nat.mod_lt _ (by omega)
 refine aF 4 nd (aH (aa 1) (bg (aa 0) aj (fH (aO (i:=1) rfl))) (dZ (by omega))) ?_
 rw [hm]
 refine aF 5 nd (gM (kQ (aH (aa 4) aj aR) (bg (aa 0) aj (fH (aO (i:=1) rfl))) qR) λh=>(fK (uu (bg (aa 2) aj (fH (aO (i:=1) rfl))) λh=>(fK (kQ (aa 3) aj p7))))) ?_
 refine bK (mE (ae (aH (bg (aa 2) aj (fH (aO (i:=0) rfl))) (aH (aa 3) (aa 4) (tZ ⟨by omega,by omega,by omega⟩)) uO) (ae (aa 5) ar))) ?_
 show Sl.d (.tup [.int _,.bl _])=Sl.d (.tup [.int _,.bl _])
 unfold nxs
 rw [Int.toNat_natCast,show decide (((p % C:Nat):Int) + 1 < (C:Int))=decide (p % C + 1 < C) by simp only [decide_eq_decide]; omega]
theorem jc (F:Fun K "_law_parted" qual (top 42) f fd) (hb:∀ x ∈ aA,mg x=none):aP P w K mg base CX0 (k + 1) f fd ["_law_n"] (spD K dn):=by
 refine fnD F eY hb (by rintro _ _ ⟨_,rfl,_⟩; rfl) ?_
 rintro _ _ ⟨n,rfl,hn,rfl⟩ cdv A outer s H E b
 have nd:=eY.nd
 refine aF 1 nd (a6 (aW (ae aj ar))) ?_
 refine cS 2 (λi τ=>∃ s2 s3,τ=[.d (.int n),.d (.lst ((a4 i).map .int)),s2,s3]) b nd (qX b aj (aH (aa 0) aj aR) ⟨by decide,by decide,by omega,by omega⟩) qZ ⟨_,_,rfl⟩ (λi hi τ h=>?_) λτ h=>?_
 · obtain ⟨s2,s3,rfl⟩:=h
   rw [ax] at hi
   have hl:=eL i
   refine aF 3 nd (a6 (cG (a6 (cG (a6 (aW (ae aj ar))) (aa 1) ?_)) (a6 (aW (ae aj ar))) ?_)) ?_
   · rw [List.length_map,hl]; simp; omega
   · rw [List.length_append,List.length_map,hl]; simp; omega
   rw [show [D.int 0]++(a4 i).map D.int++[D.int 0]=(wid (a4 i)).map D.int by simp [wid]]
   have hw:(wid (a4 i)).length=i + 3:=by simp [wid,hl]
   refine iV 1 nd (cmp 0 (f:=λl=>.int ((l:Int) * (wid (a4 i)).getD (l + 1) 0 + (wid (a4 i)).getD l 0)) b (de b (aH (aa 2) aj aR) ?_ ?_) cF ?_ λl hl s0 H0 fp=>(aH (aH (aa 0) (bg (aa 1) (aH (aa 0) aj aR) (a0 ?_)) (b8 (mkL ?_))) (bg (aa 1) (aa 0) (a0 ?_)) aR)) (.inr rfl) (a7 ?_)
   · omega
   · omega
   · rw [ax]; omega
   · rw [ax] at hl
     exact cM (by omega) (by omega)
   · rw [ax] at hl; omega
   · rw [ax] at hl
     exact cM (by omega) (by omega)
   · apply ex2
     rw [a4,List.map_map,ax,show (1 + (i:Int) + 1).toNat=i + 2 by omega]
     rfl
 · obtain ⟨s2,s3,rfl⟩:=h
   refine bK (aa 1) ?_
   rw [ax,show ((n:Int) + 1 - 1).toNat=n by omega]
theorem hX (F:Fun K "_law_counted" qual (top 43) f fd) (hb:∀ x ∈ aA,mg x=none) (c_l_parted:Cal P w K mg base k "_law_parted" dn):aP P w K mg base CX0 (k + 1) f fd ["_law_rows","_law_columns"] (spD K cJ):=by
 refine fnD F eh hb (by rintro _ _ ⟨_,_,rfl,_⟩; rfl) ?_
 rintro _ _ ⟨R,C,rfl,h1,h2,rfl⟩ cdv A outer s H E b
 have nd:=eh.nd
 refine aF 2 nd (x_call b c_l_parted (ae (aH (aa 0) aj aR) ar) ⟨R + 1,rfl,by omega,rfl⟩) ?_
 refine aF 3 nd (x_call b c_l_parted (ae (aH (aa 1) aj aR) ar) ⟨C + 1,rfl,by omega,rfl⟩) ?_
 refine aF 4 nd aj (aF 5 nd aj ?_)
 have hm:((if (C:Int) < R then (C:Int) else R) + 1).toNat=min R C + 1:=by split <;> omega
 have l1:=eL (R + 1)
 have l2:=eL (C + 1)
 refine cS 6 (λi τ=>∃ s6,τ=[.d (.int R),.d (.int C),.d (.lst ((a4 (R + 1)).map .int)),.d (.lst ((a4 (C + 1)).map .int)),.d (.int (qO (a4 (R + 1)) (a4 (C + 1)) i)),.d (.int (fct i)),s6]) b nd (de b (aH (eJ b (ae (aa 0) (ae (aa 1) ar)) (sC b.calm)) aj aR) ?_ ?_) cF ⟨_,rfl⟩ (λi hi τ h=>?_) λτ h=>?_
 · split <;> omega
 · split <;> omega
 · obtain ⟨s6,rfl⟩:=h
   rw [ax,hm] at hi
   have hf:=rg i (by omega)
   have n1:(((i:Int) + 1)).toNat=i + 1:=rfl
   have ha:((a4 (R + 1)).getD (i + 1) 0).natAbs < 2 ^ 20:=kz (R + 1) (by omega) _ (by simp [l1,show i + 1 < R + 2 by omega])
   have hc:((a4 (C + 1)).getD (i + 1) 0).natAbs < 2 ^ 20:=kz (C + 1) (by omega) _ (by simp [l2,show i + 1 < C + 2 by omega])
   refine aF 4 nd (aH (aa 4) (aH (aH (aH (aa 5) (aa 5) (b8 (mkL (by omega)))) (bg (aa 2) (aH (aa 6) aj aR) (a0 (cM (by omega) (by omega)))) (b8 (mkR (by rw [n1]; omega)))) (bg (aa 3) (aH (aa 6) aj aR) (a0 (cM (by omega) (by omega)))) (b8 (mkR (by rw [n1]; omega)))) aR) ?_
   exact aF 5 nd (aH (aa 5) (aH (aa 6) aj aR) (b8 (mkL (by omega)))) (a7 ⟨_,rfl⟩)
 · obtain ⟨s6,rfl⟩:=h
   refine bK (aa 4) ?_
   rw [ax,hm]
   rfl
theorem fN (F:Fun K "_law_is_stairs" qual (top 40) f fd) (hb:∀ x ∈ aA,mg x=none):aP P w K mg base CX0 (k + 1) f fd ["_law_marks"] (spD K bU):=by
 refine fnD F cP hb (by rintro _ _ ⟨_,_,rfl,_⟩; rfl) ?_
 rintro _ _ ⟨C,m,rfl,h1,h2,h3,h4,rfl⟩ cdv A outer s H E b
 have nd:=cP.nd
 have lm:(m.map rwD).length=m.length:=List.length_map ..
 refine cS 1 (λi τ=>(∀ i',i' < i->∀ j,j < C->lM m i' j=false)/\∃ s1 s2,τ=[.d (tbD m),s1,s2]) b nd (de b (eJ b (ae (aa 0) ar) d0) (by omega) (by omega)) cF ⟨λ_ h=>by omega,_,_,rfl⟩ (λi hi τ h=>?_) λτ h=>?_
 · obtain ⟨o1,s1,s2,rfl⟩:=h
   have hi:i < m.length:=by rw [ax] at hi; omega
   have l0:((m.getD 0 []).map D.int).length=C:=by rw [List.length_map]; exact h4 0 h1
   refine cS 2 (λj τ=>(∀ j',j' < j->lM m i j'=false)/\∃ s2,τ=[.d (tbD m),.d (.int i),s2]) b nd (de b (eJ b (ae (bg (aa 0) aj (a0 (hZ (i:=0) (by omega) (by omega)))) ar) d0) ?_ ?_) cF ⟨λ_ h=>by omega,_,rfl⟩ (λj hj τ h=>?_) λτ h=>?_
   · omega
   · simp only [Int.toNat_zero] at *; omega
   · obtain ⟨o2,s2,rfl⟩:=h
     have hj:j < C:=by rw [ax] at hj; simp only [Int.toNat_zero,l0,Int.toNat_natCast] at hj; exact hj
     have hl:=h4 i hi
     have ei:((i:Int)).toNat=i:=rfl
     refine jt (PW.pt (nF (bo (bg (bg (aa 0) (aa 1) (a0 (hZ (by omega) (by omega)))) (aa 2) (a0 (cM (by omega) (by rw [ei]; omega)))) aj p7) λh=>(nF (bo (eJ b (ae (a6 (qL (bg (aa 0) (aa 1) (a0 (hZ (by omega) (by omega)))) jN (j4 (aa 2)))) ar) (qg b.calm ((m.getD i []).take j) ?_)) aj k9) λh=>(nH (bo (eJ b (ae (a6 (mj (cmp 0 (g:=λl=>rwD ((m.take i).getD l [])) (f:=λl=>.int (((m.take i).getD l []).getD j 0)) b (bV (a6 (qL (aa 0) jN (j4 (aa 1))))) ?_ ?_ λl hl s0 H0 fp=>(bg (aa 0) (aa 1) (a0 ?_))))) ar) (qg b.calm ((List.range (m.take i).length).map λl=>((m.take i).getD l []).getD j 0) ?_)) aj k9))))) (λh=>?_) λh=>?_
     · rw [gm,List.map_take]; rfl
     · intro l hl
       simp only [gm,<- List.map_take] at hl ⊢
       exact mQ l hl
     · rw [gm,<- List.map_take,List.length_map,List.length_take]; omega
     · rw [gm,<- List.map_take,List.length_map] at hl
       have hl':l < i:=by rw [List.length_take] at hl; omega
       have:((m.take i).getD l []).length=C:=by
         rw [<- h4 l (by omega)]
         simp [List.getD,List.getElem?_take,hl']
       exact cM (by omega) (by rw [this]; exact hj)
     · rw [gm,<- List.map_take,List.length_map,List.map_map]; rfl
     · refine bK rJ ?_
       have h:lM m i j=true:=h
       show Sl.d (.bl false)=_
       have:cw C m=false:=by
         unfold cw
         rw [List.all_eq_false]
         refine ⟨i,List.mem_range.mpr hi,?_⟩
         rw [Bool.not_eq_true,List.all_eq_false]
         exact ⟨j,List.mem_range.mpr hj,by rw [h]; decide⟩
       rw [this]
     · refine a7 ⟨λj' hj'=>?_,_,rfl⟩
       rcases Nat.lt_or_ge j' j with z | z
       · exact o2 j' z
       · obtain rfl:j'=j:=by omega
         exact h
   · obtain ⟨o2,s2,rfl⟩:=h
     rw [ax] at o2
     simp only [Int.toNat_zero,l0,Int.toNat_natCast] at o2
     refine a7 ⟨λi' hi'=>?_,_,_,rfl⟩
     rcases Nat.lt_or_ge i' i with z | z
     · exact o1 i' z
     · obtain rfl:i'=i:=by omega
       exact o2
 · obtain ⟨o1,s1,s2,rfl⟩:=h
   rw [ax,Int.toNat_natCast,lm] at o1
   refine bK rJ ?_
   have:cw C m=true:=by
     unfold cw
     rw [List.all_eq_true]
     intro i hi
     rw [List.all_eq_true]
     intro j hj
     rw [o1 i (List.mem_range.mp hi) j (List.mem_range.mp hj)]
     rfl
   show Sl.d (.bl true)=_
   rw [this]
end
end K52
namespace K52
open PySem PySem.Spec PyProof.Rows L2 Hy
open Ev (D Den aq aK a5 ah aC)
noncomputable def plc (R C t:Nat):Nat:=R * C - t
noncomputable def dk (C p:Nat) (s:Int × Bool):Bool:=s.2 && decide (Builtin.bitAnd (s.1 / 2 ^ (p % C)) 1=1)
noncomputable def mfv (R C:Nat):Nat->Int × Bool->Int
 | 0,_=>1
 | t + 1,s=>(if dk C (plc R C (t + 1)) s then 0 else mfv R C t (nxs C (plc R C (t + 1)) s.1 s.2 0)) + mfv R C t (nxs C (plc R C (t + 1)) s.1 s.2 1)
noncomputable def mev (R C t:Nat) (s:Int × Bool):Int:=if dk C (plc R C (t + 1)) s then 0 else mfv R C t (nxs C (plc R C (t + 1)) s.1 s.2 0)
theorem jQ (C p:Nat) (s:Int × Bool) (m:Int) (hC:1<=C) (hC7:C<=7) (h0:0<=s.1) (h1:s.1 < 128) (m0:0<=m) (m1:m<=1):0<=(nxs C p s.1 s.2 m).1/\(nxs C p s.1 s.2 m).1 < 128:=by
 have key:∀ b:Nat,b < 128->∀ j,j < 7->∀ m:Nat,m < 2->0<=Builtin.bitOr (b:Int) ((m:Int) * 2 ^ j)/\Builtin.bitOr (b:Int) ((m:Int) * 2 ^ j) < 128:=by decide +kernel
 have hj:p % C < 7:=Nat.lt_of_lt_of_le (Nat.mod_lt _ hC) hC7
 obtain ⟨b,hb⟩:=Int.eq_ofNat_of_zero_le h0
 obtain ⟨m',hm⟩:=Int.eq_ofNat_of_zero_le m0
 unfold nxs
 rw [hb,hm]
 exact key b (by omega) _ hj m' (by omega)
structure Good (R C:Nat) (xs:NE):Prop where
 val:∀ x ∈ xs,∃ t tk,t<=R * C/\x.1.1=(plc R C t:Nat)/\0<=x.1.2.1/\x.1.2.1 < 128/\x.2.2=Value.int (mfv R C t x.1.2) tk
 nd:(xs.map (·.1)).Nodup
theorem g9:∀ (n:Nat) (l:List Nat),l.Nodup->(∀ x ∈ l,x < n)->l.length<=n
 | 0,[],_,_=>Nat.le_refl _
 | 0,x :: _,_,h=>absurd (h x (List.mem_cons_self ..)) (by omega)
 | n + 1,l,nd,h=>by
   have:=g9 n (l.filter (· ≠ n)) (nd.filter _) λx hx=>by
     obtain ⟨h1,h2⟩:=List.mem_filter.mp hx
     have:=h x h1
     simp at h2
     omega
   have h2:l.length<=(l.filter (· ≠ n)).length + 1:=by
     clear this h
     induction l with
     | nil=>simp
     | cons a l ih=>
       obtain ⟨z1,z2⟩:=List.nodup_cons.mp nd
       by_cases e:a=n
       · subst e
         rw [List.filter_cons_of_neg (by simp),List.filter_eq_self.mpr (λx hx=>by simp; intro e; exact z1 (e ▸ hx))]
         simp
       · rw [List.filter_cons_of_pos (by simp [e])]
         have:=ih z2
         simp only [List.length_cons]
         omega
   omega
theorem Good.len {R C:Nat} {xs:NE} (g:Good R C xs) (hR:R<=7) (hC:C<=7):xs.length<=20000:=by
 have rc:R * C<=49:=Nat.mul_le_mul hR hC
 have h:=g9 20000 (xs.map λx=>x.1.1.toNat * 256 + x.1.2.1.toNat * 2 + if x.1.2.2 then 1 else 0) ?_ λy hy=>?_
 · rwa [List.length_map] at h
 · have e:(xs.map λx=>x.1.1.toNat * 256 + x.1.2.1.toNat * 2 + if x.1.2.2 then 1 else 0)=(xs.map (·.1)).map λ(k:eS)=>k.1.toNat * 256 + k.2.1.toNat * 2 + if k.2.2 then 1 else 0:=by rw [List.map_map]; rfl
   rw [e]
   refine List.pairwise_map.mpr (g.nd.imp_of_mem λ{a b} ha hb ne q=>ne ?_)
   obtain ⟨x,hx,rfl⟩:=List.mem_map.mp ha
   obtain ⟨y,hy,rfl⟩:=List.mem_map.mp hb
   obtain ⟨t,tk,_,h1,h2,h3,_⟩:=g.val x hx
   obtain ⟨t',tk',_,h1',h2',h3',_⟩:=g.val y hy
   have:(if x.1.2.2 then 1 else 0)<=1:=by split <;> omega
   have:(if y.1.2.2 then 1 else 0)<=1:=by split <;> omega
   have e3:(if x.1.2.2 then 1 else 0)=(if y.1.2.2 then 1 else 0):=by omega
   have e1:x.1.1=y.1.1:=by omega
   have e2:x.1.2.1=y.1.2.1:=by omega
   have e4:x.1.2.2=y.1.2.2:=by
     cases hx:x.1.2.2 <;> cases hy:y.1.2.2 <;> simp [hx,hy] at e3 <;> rfl
   exact Prod.ext e1 (Prod.ext e2 e4)
 · obtain ⟨x,hx,rfl⟩:=List.mem_map.mp hy
   obtain ⟨t,tk,h0,h1,h2,h3,_⟩:=g.val x hx
   have:(if x.1.2.2 then 1 else 0)<=1:=by split <;> omega
   unfold plc at h1
   omega
theorem ku {xs:NE} {k:eS} {p:Addr × Value} (h:atKey xs k=some p):∃ x ∈ xs,x.1=k/\x.2=p:=by
 unfold atKey at h
 cases e:xs.find? λx=>decide (x.1=k) with
 | none=>rw [e] at h; cases h
 | some x=>
   rw [e] at h
   cases h
   exact ⟨x,List.mem_of_find?_eq_some e,by simpa using List.find?_some e,rfl⟩
theorem kE {xs:NE} {k:eS} (h:atKey xs k=none):∀ x ∈ xs,x.1 ≠ k:=λx hx e=>by
 unfold atKey at h
 rw [Option.map_eq_none_iff,List.find?_eq_none] at h
 exact absurd (h x hx) (by simp [e])
theorem Good.put {R C t:Nat} {xs:NE} {k:eS} {b:Addr} {u:Value} {tk:Tok} (g:Good R C xs) (ht:t<=R * C) (h1:k.1=(plc R C t:Nat)) (h2:0<=k.2.1) (h3:k.2.1 < 128) (hu:u=Value.int (mfv R C t k.2) tk):Good R C (storedH xs k b u):=by
 cases e:atKey xs k with
 | none=>
   rw [storedH_new e]
   refine ⟨λx hx=>?_,?_⟩
   · rcases List.mem_append.mp hx with z | z
     · exact g.val x z
     · obtain rfl:=List.mem_singleton.mp z
       exact ⟨t,tk,ht,h1,h2,h3,hu⟩
   · rw [List.map_append,List.nodup_append]
     refine ⟨g.nd,by simp,λx hx y hy e'=>?_⟩
     obtain ⟨z,hz,rfl⟩:=List.mem_map.mp hx
     obtain rfl:=List.mem_singleton.mp hy
     exact kE e z hz e'
 | some p=>
   rw [storedH_old e]
   have pk:∀ x:eS × Addr × Value,(putAt k u x).1=x.1:=λx=>by unfold putAt; split <;> rfl
   refine ⟨λx hx=>?_,?_⟩
   · obtain ⟨y,hy,rfl⟩:=List.mem_map.mp hx
     obtain ⟨t',tk',z1,z2,z3,z4,z5⟩:=g.val y hy
     by_cases e':y.1=k
     · refine ⟨t,tk,ht,by rw [pk,e',h1],by rw [pk,e']; exact h2,by rw [pk,e']; exact h3,?_⟩
       rw [pk,e',<- hu]
       unfold putAt
       rw [if_pos e']
     · refine ⟨t',tk',z1,by rw [pk]; exact z2,by rw [pk]; exact z3,by rw [pk]; exact z4,?_⟩
       rw [pk,<- z5]
       unfold putAt
       rw [if_neg e']
   · rw [List.map_map]
     exact (List.map_congr_left λx _=>pk x) ▸ g.nd
theorem bt {K:PySem.W.Frag} {H H':Hp} {k:eS} {b:Addr} (e:af H H'):di K H k b->di K H' k b:=λ⟨c,h1,h2⟩=>⟨c,aC e h1,aC e h2⟩
structure fJ (P:Program) (w:World) (K:PySem.W.Frag) (M:Addr->Prop) (H:Hp) (d:Addr) (xs:NE):Prop where
 at_:H d=some (dN P w d xs)
 key:∀ x ∈ xs,di K (Hy.hd H M) x.1 x.2.1
theorem fJ.n {P:Program} {w:World} {K:PySem.W.Frag} {M:Addr->Prop} {H:Hp} {d:Addr} {xs:NE} (h:fJ P w K M H d xs):jg P w K H d xs:=⟨h.at_,λx hx=>bt aD (h.key x hx)⟩
theorem _root_.Hy.But.dict {P:Program} {w:World} {K:PySem.W.Frag} {M:Addr->Prop} {H H':Hp} {d:Addr} {xs:NE} (e:But d H H') (hM:M d) (D:fJ P w K M H d xs) (h:H' d=some (dN P w d xs)):fJ P w K M H' d xs:=⟨h,λx hx=>bt (e.hd hM) (D.key x hx)⟩
noncomputable def spM (P:Program) (w:World) (K:PySem.W.Frag) (T:Nat):Sp:=λvs H Q _=>∃ (M:Addr->Prop) (d b c:Addr) (R C t:Nat) (s:Int × Bool) (xs:NE) (p:Int),vs=[.ref d,.ref b,.int p,.ref c]/\p=(plc R C t:Nat)/\t<=T/\t<=R * C/\(1<=R/\R<=7/\1<=C/\C<=7)/\Hid M H d /\
 SqT K (Hy.hd H M) b [.int R,.int C]/\SqT K (Hy.hd H M) c [.int s.1,.bl s.2]/\(0<=s.1/\s.1 < 128)/\fJ P w K M H d xs/\Good R C xs/\∀ H' xs',But d H H'->fJ P w K M H' d xs'->Good R C xs'->Q (.int (mfv R C t s)) H'
noncomputable def spE (P:Program) (w:World) (K:PySem.W.Frag) (T:Nat):Sp:=λvs H Q _=>∃ (M:Addr->Prop) (d b c:Addr) (R C t:Nat) (s:Int × Bool) (xs:NE) (p:Int),vs=[.ref d,.ref b,.int p,.ref c]/\p=(plc R C (t + 1):Nat)/\t<=T/\t + 1<=R * C/\(1<=R/\R<=7/\1<=C/\C<=7)/\Hid M H d /\
 SqT K (Hy.hd H M) b [.int R,.int C]/\SqT K (Hy.hd H M) c [.int s.1,.bl s.2]/\(0<=s.1/\s.1 < 128)/\fJ P w K M H d xs/\Good R C xs/\∀ H' xs',But d H H'->fJ P w K M H' d xs'->Good R C xs'->Q (.int (mev R C t s)) H'
theorem qp {K:PySem.W.Frag} {H:Hp} {M:Addr->Prop} {b c:Addr} {R C p:Nat} {s:Int × Bool} {m:Int} {Q:VK} {E:XK} (hM:∀ b,M b->∃ o,H b=some o) (h1:SqT K (Hy.hd H M) b [.int R,.int C]) (h2:SqT K (Hy.hd H M) c [.int s.1,.bl s.2]) (hC:1<=C) (hC7:C<=7) (m0:0<=m) (m1:m<=1)
   (q:∀ c' H',af H H'->SqT K (Hy.hd H' M) c' [.int (nxs C p s.1 s.2 m).1,.bl (nxs C p s.1 s.2 m).2]->Q (.ref c') H'):spD K aL ([.ref b,.int p,.ref c,.int m]++[]) H Q E:=by
 refine ⟨M,[.tup [.int R,.int C],.int p,stD s,.int m],_,hM,?_,⟨R,C,p,s,m,rfl,hC,hC7,m0,m1,rfl⟩,λv H' bs e _ h=>?_⟩
 · exact .cons (.tup h1 (.cons .int (.cons .int .nil))) (.cons .int (.cons (.tup h2 (.cons .int (.cons .bl .nil))) (.cons .int .nil)))
 · obtain ⟨_,u,eu,d⟩:=h
   cases eu
   unfold stD at d
   cases d with
   | tup h r=>
     cases r with
     | cons d1 r=>
       cases r with
       | cons d2 r=>
         cases r
         cases d1
         cases d2
         exact q _ H' e (aC (ao (af.refl _) λ_ z=>.inl z) h)
theorem rZ {c A B:Prop} [Decidable c] (hc:c) (h:A):if (decide c)=true then A else B:=by
 rw [decide_eq_true hc]
 exact gA h
theorem sR {c A B:Prop} [Decidable c] (hc:¬ c) (h:B):if (decide c)=true then A else B:=by
 rw [decide_eq_false hc]
 exact gy h
section
variable {P:Program} {w:World} {K:PySem.W.Frag} {mg:Str->Option Value} {base:Heap} {k:Nat} {f:Addr} {fd:FuncData} {qual:Str} {T:Nat}
theorem nV {R C:Nat} (hR:R<=7):aK (R:Int) (C:Int):=mkL (by omega)
theorem rk (F:Fun K "many_from" qual (top 30) f fd):aP P w K mg base CX0 (k + 1) f fd ["known","shape","place","state"] (spM P w K 0):=by
 refine F.ok cv (λvs H Q E h=>?_) (λcdv A outer s H vs Q E hr h=>?_)
 · obtain ⟨_,_,_,_,_,_,_,_,_,_,rfl,_⟩:=h; rfl
 · obtain ⟨M,d,b,c,R,C,t,s,xs,_,rfl,rfl,h0,h1,⟨hR,hR7,hC,hC7⟩,hM,hb,hc,hs,hD,hG,q⟩:=h
   obtain rfl:t=0:=by omega
   have hb0:=aC aD hb
   refine ⟨_,bq (gh (iK (j6 (L2.pv 2) (dg (r:=rI aK λi j=>V.int (i * j)) (opI λ_ _ _ _ _ _ _ hc q=>mul_int q (aK.ok' hc)) (dh cL (L2.pv 1) aX (λ_ _=>rfl)) (dh cL (L2.pv 1) aX (λ_ _=>rfl))))) (bA (bL aX)) cy) cW,?_⟩
   refine ⟨_,rfl,_,rfl,b,_,0,_,rfl,rfl,hb0,aO (i:=0) rfl,_,rfl,b,_,1,_,rfl,rfl,hb0,aO (i:=1) rfl,_,_,rfl,rfl,nV hR7,_,_,rfl,rfl,_,rfl,?_⟩
   exact rZ (show ((plc R C 0:Nat):Int)=(R:Int) * C by unfold plc; rw [Nat.sub_zero,Int.natCast_mul]) (q H xs (But.same (af.refl _)) hD hG)
theorem qx (F:Fun K "many_with_empty" qual (top 31) f fd) (cn:Cal P w K mg base k "next_state" aL) (cm:eB P w K mg base k "many_from" (spM P w K T)):aP P w K mg base CX0 (k + 1) f fd ["known","shape","place","state"] (spE P w K T):=by
 refine F.ok bF (λvs H Q E h=>?_) (λcdv A outer s H vs Q E hr h=>?_)
 · obtain ⟨_,_,_,_,_,_,_,_,_,_,rfl,_⟩:=h; rfl
 · obtain ⟨M,d,b,c,R,C,t,s,xs,_,rfl,rfl,h0,h1,⟨hR,hR7,hC,hC7⟩,hM,hb,hc,⟨s0,s1⟩,hD,hG,q⟩:=h
   have hb0:=aC aD hb
   have hc0:=aC aD hc
   obtain ⟨fn,fdn,psn,Fn,mn,kn,bn⟩:=cn
   obtain ⟨fm,fdm,psm,Fm,mm,km,bm⟩:=cm
   have nd:=bF.nd
   refine ⟨_,bq (iy (i:=4) nd rfl (.inl rfl) (dg rf (dg rm (dh cL (L2.pv 3) aX (λ_ _=>rfl)) (dg kL (L2.pv 2) (dh cL (L2.pv 1) aX (λ_ _=>rfl)))) aX))
     (bq (gh (pw_and (nq (dh cL (L2.pv 3) aX (λ_ _=>rfl))) (pw_and1 (iK (j6 (L2.pv 4) aX)))).pt (bA (bL aX)) cy)
       (bA (bL (bx Fm hr rfl mm km bm .nil eX (av (L2.pv 0) (av (L2.pv 1) (av (dg iH (L2.pv 2) aX) (av (bx Fn hr rfl mn kn bn .nil eX (av (L2.pv 1) (av (L2.pv 2) (av (L2.pv 3) (av aX aV))))) aV)))))))),?_⟩
   have hm:((plc R C (t + 1):Nat):Int).fmod (C:Int)=((plc R C (t + 1) % C:Nat):Int):=by rw [Int.fmod_eq_emod_of_nonneg _ (by omega)]; rfl
   refine ⟨_,rfl,c,_,0,_,rfl,rfl,hc0,aO (i:=0) rfl,_,rfl,_,rfl,b,_,1,_,rfl,rfl,hb0,aO (i:=1) rfl,_,_,rfl,rfl,(by omega:(C:Int) ≠ 0),_,_,rfl,rfl,(by rw [hm]; omega),_,_,rfl,rfl,?_⟩
   rw [hm,Int.toNat_natCast]
   refine ⟨_,rfl,c,_,1,_,rfl,rfl,hc0,aO (i:=1) rfl,_,rfl,?_⟩
   have go:dk C (plc R C (t + 1)) s=false->rG (mY (spM P w K T) [] E0 (cK (fg 0) (cK (fg 1) (cK (tOp (rI0 λi j=>V.int (i + j)) (fg 2) (tC (.int 1))) (cK (mY (spD K aL) [] E0 (cK (fg 1) (cK (fg 2) (cK (fg 3) (cK (tC (.int 0)) pH))))) pH))))) { nx:=λ_ H'=>Q .non H',rt:=Q }
       [some (.ref d),some (.ref b),some (.int (plc R C (t + 1))),some (.ref c),some (.int (Builtin.bitAnd (s.1 / 2 ^ (plc R C (t + 1) % C)) 1))] H:=λhbit=>by
     refine ⟨_,rfl,_,rfl,_,rfl,_,_,rfl,rfl,_,rfl,_,rfl,_,rfl,qp (E:=E0) hM.2 hb hc hC hC7 (by omega) (by omega) λc' H' e h'=>?_⟩
     have hp:((plc R C (t + 1):Nat):Int) + 1=((plc R C t:Nat):Int):=by unfold plc; omega
     refine ⟨M,d,b,c',R,C,t,_,xs,_,rfl,hp,h0,by omega,⟨hR,hR7,hC,hC7⟩,hM.same e,aC ((But.same e).hd hM.1) hb,h',jQ C _ s 0 hC hC7 s0 s1 (by omega) (by omega),(But.same e).dict hM.1 hD (e _ _ hD.at_),hG,λH2 xs' e2 hD' hG'=>?_⟩
     have:=q H2 xs' ((But.same e).trans e2) hD' hG'
     unfold mev at this
     rw [hbit,if_neg Bool.false_ne_true] at this
     exact this
   cases hs2:s.2 with
   | false=>exact gy (gy (go (by unfold dk; rw [hs2]; rfl)))
   | true=>
     refine gA ⟨_,rfl,_,_,rfl,rfl,_,rfl,?_⟩
     by_cases hz:Builtin.bitAnd (s.1 / 2 ^ (plc R C (t + 1) % C)) 1=1
     · refine rZ hz ?_
       have:=q H xs (But.same (af.refl _)) hD hG
       unfold mev dk at this
       rw [hs2,decide_eq_true hz,Bool.and_self,if_pos rfl] at this
       exact this
     · exact sR hz (go (by unfold dk; rw [hs2,decide_eq_false hz]; rfl))
theorem t7 (F:Fun K "many_from" qual (top 30) f fd) (cn:Cal P w K mg base k "next_state" aL) (cm:eB P w K mg base k "many_from" (spM P w K T)) (ce:eB P w K mg base k "many_with_empty" (spE P w K T)):aP P w K mg base CX0 (k + 1) f fd ["known","shape","place","state"] (spM P w K (T + 1)):=by
 refine F.ok cv (λvs H Q E h=>?_) (λcdv A outer sh H vs Q E hr h=>?_)
 · obtain ⟨_,_,_,_,_,_,_,_,_,_,rfl,_⟩:=h; rfl
 · obtain ⟨M,d,b,c,R,C,t,s,xs,_,rfl,rfl,h0,h1,⟨hR,hR7,hC,hC7⟩,hM,hb,hc,⟨s0,s1⟩,hD,hG,q⟩:=h
   have hb0:=aC aD hb
   have hc0:=aC aD hc
   obtain ⟨fn,fdn,psn,Fn,mn,kn,bn⟩:=cn
   obtain ⟨fm,fdm,psm,Fm,mm,km,bm⟩:=cm
   obtain ⟨fe,fde,pse,Fe,me,ke,be⟩:=ce
   have nd:=cv.nd
   have hu:(fh CX0 P w K mg base ["known","shape","place","state","filled"] qual (ak (top 20)) f cdv A outer sh H E).nox.A.units + 16 < cLine:=Nat.lt_of_le_of_lt (Nat.add_le_add_left (by decide:16<=64) _) hr.units
   refine ⟨_,bq (gh (iK (j6 (L2.pv 2) (dg (r:=rI aK λi j=>V.int (i * j)) (opI λ_ _ _ _ _ _ _ hc q=>mul_int q (aK.ok' hc)) (dh cL (L2.pv 1) aX (λ_ _=>rfl)) (dh cL (L2.pv 1) aX (λ_ _=>rfl))))) (bA (bL aX)) cy)
     (bq (gh (iK (oO hu (iE (av (L2.pv 2) (av (L2.pv 3) aV))) (L2.pv 0)) (by with_unfolding_all rfl))
       (bq (iy (i:=4) nd rfl (.inl rfl) (bx Fm hr rfl mm km bm .nil eX (av (L2.pv 0) (av (L2.pv 1) (av (dg iH (L2.pv 2) aX) (av (bx Fn hr rfl mn kn bn .nil eX (av (L2.pv 1) (av (L2.pv 2) (av (L2.pv 3) (av aX aV))))) aV))))))
         (bA (pI hu (L2.pv 0) (iE (av (L2.pv 2) (av (L2.pv 3) aV))) (dg iH (bx Fe hr rfl me ke be .nil eX (av (L2.pv 0) (av (L2.pv 1) (av (L2.pv 2) (av (L2.pv 3) aV))))) (L2.pv 4)) rfl))) cy)
       (bA (bL (oE hu (L2.pv 0) (iE (av (L2.pv 2) (av (L2.pv 3) aV))) (λ_ _=>rfl))))),?_⟩
   refine ⟨_,rfl,_,rfl,b,_,0,_,rfl,rfl,hb0,aO (i:=0) rfl,_,rfl,b,_,1,_,rfl,rfl,hb0,aO (i:=1) rfl,_,_,rfl,rfl,nV hR7,_,_,rfl,rfl,_,rfl,?_⟩
   cases t with
   | zero=>
     exact rZ (show ((plc R C 0:Nat):Int)=(R:Int) * C by unfold plc; rw [Nat.sub_zero,Int.natCast_mul]) (q H xs (But.same (af.refl _)) hD hG)
   | succ t=>
   have np:¬ ((plc R C (t + 1):Nat):Int)=(R:Int) * C:=by unfold plc; rw [<- Int.natCast_mul]; omega
   refine sR np ?_
   have two2:(2:Nat)<=sizeLine:=by decide
   have key:∀ {H:Hp} {p:Addr},Hid M H d->H p=none->SqT K (Hy.hd H M) c [.int s.1,.bl s.2]->di K (Hy.hd (upd H p (.tup [.int (plc R C (t + 1):Nat),.ref c])) M) (((plc R C (t + 1):Nat):Int),s) p:=λhM hp hc=>⟨c,SqT.of (ij hM.2 hp),aC (ao (ah hp _) λ_ z=>z) hc⟩
   have got:∀ {H:Hp} {x4:Option V} {xs:NE} {pr:Addr × Value},Hid M H d->SqT K (Hy.hd H M) c [.int s.1,.bl s.2]->fJ P w K M H d xs->Good R C xs->atKey xs (((plc R C (t + 1):Nat):Int),s)=some pr->(∀ H' xs',But d H H'->fJ P w K M H' d xs'->Good R C xs'->Q (.int (mfv R C (t + 1) s)) H') ->
       rG (qz P w K (fg 0) (sI (cK (fg 2) (cK (fg 3) pH)))) { nx:=λ_ H'=>Q .non H',rt:=Q } [some (.ref d),some (.ref b),some (.int (plc R C (t + 1))),some (.ref c),x4] H:=λ{H x4 xs pr} hM hc hD hG ha q=>by
     refine ⟨_,rfl,_,rfl,_,rfl,two2,λp hp=>?_⟩
     have e1:=ah hp (.tup [.int (plc R C (t + 1):Nat),.ref c])
     have hD1:=(But.same e1).dict hM.1 hD (e1 _ _ hD.at_)
     obtain ⟨x,hx,hk,rfl⟩:=ku ha
     obtain ⟨t',tk,z1,z2,_,_,z5⟩:=hG.val x hx
     obtain rfl:t'=t + 1:=by rw [hk] at z2; simp only [plc] at z2; omega
     rw [hk] at z5
     exact ⟨d,p,_,xs,_,.int (mfv R C (t + 1) s),rfl,rfl,hD1.n,bt aD (key hM hp hc),ha,⟨tk,z5⟩,q _ xs (But.same e1) hD1 hG⟩
   refine ⟨_,rfl,_,rfl,two2,λp hp=>?_⟩
   have e1:=ah hp (.tup [.int (plc R C (t + 1):Nat),.ref c])
   have hD1:=(But.same e1).dict hM.1 hD (e1 _ _ hD.at_)
   have hM1:=hM.same e1
   have m1:=(But.same (d:=d) e1).hd hM.1
   refine ⟨_,rfl,d,p,_,xs,rfl,rfl,hD1.n,bt aD (key hM hp hc),_,rfl,?_⟩
   cases ha:atKey xs (((plc R C (t + 1):Nat):Int),s) with
   | some pr=>exact gy (got hM1 (aC m1 hc) hD1 hG ha λH' xs' b1=>q H' xs' ((But.same e1).trans b1))
   | none=>
     refine gA ⟨_,rfl,_,rfl,_,rfl,_,_,rfl,rfl,_,rfl,_,rfl,_,rfl,qp (E:=E0) hM1.2 (aC m1 hb) (aC m1 hc) hC hC7 (by omega) (by omega) λc' H2 e2 h'=>?_⟩
     have hp1:((plc R C (t + 1):Nat):Int) + 1=((plc R C t:Nat):Int):=by unfold plc; omega
     have e12:=e1.trans e2
     have m12:=(But.same (d:=d) e12).hd hM.1
     refine ⟨M,d,b,c',R,C,t,_,xs,_,rfl,hp1,by omega,by omega,⟨hR,hR7,hC,hC7⟩,hM.same e12,aC m12 hb,h',jQ C _ s 1 hC hC7 s0 s1 (by omega) (by omega),(But.same e12).dict hM.1 hD (e12 _ _ hD.at_),hG,λH3 xs3 b3 hD3 hG3=>?_⟩
     have b13:But d H H3:=(But.same e12).trans b3
     have hM3:=hM.but b13 ⟨_,hD3.at_⟩
     have hb3:=aC (b13.hd hM.1) hb
     have hc3:=aC (b13.hd hM.1) hc
     refine ⟨_,rfl,_,rfl,_,rfl,_,rfl,?_⟩
     refine ⟨M,d,b,c,R,C,t,s,xs3,_,rfl,rfl,by omega,h1,⟨hR,hR7,hC,hC7⟩,hM3,hb3,hc3,⟨s0,s1⟩,hD3,hG3,λH4 xs4 b4 hD4 hG4=>?_⟩
     have b14:=b13.trans b4
     have hM4:=hM3.but b4 ⟨_,hD4.at_⟩
     have hc4:=aC (b4.hd hM.1) hc3
     refine ⟨_,rfl,_,_,rfl,rfl,_,rfl,_,rfl,_,rfl,two2,λp5 hp5=>?_⟩
     have e5:=ah hp5 (.tup [.int (plc R C (t + 1):Nat),.ref c])
     have hD5:=(But.same e5).dict hM.1 hD4 (e5 _ _ hD4.at_)
     have hM5:=hM4.same e5
     have k5:=key hM4 hp5 hc4
     refine ⟨d,p5,_,xs4,rfl,rfl,hD5.n,bt aD k5,Nat.le_trans (hG4.len hR7 hC7) (by decide),λu hu=>?_⟩
     obtain ⟨tk,hu⟩:=(show ∃ tk,u=Value.int _ tk from hu)
     have hG6:Good R C (storedH xs4 (((plc R C (t + 1):Nat):Int),s) p5 u):=hG4.put (t:=t + 1) (tk:=tk) h1 rfl s0 s1 hu
     have b6:But d (upd H4 p5 (.tup [.int (plc R C (t + 1):Nat),.ref c])) (upd (upd H4 p5 (.tup [.int (plc R C (t + 1):Nat),.ref c])) d (dN P w d (storedH xs4 (((plc R C (t + 1):Nat):Int),s) p5 u))):=λx o ne h=>by rw [ai ne]; exact h
     have m6:=b6.hd hM.1
     have hD6:fJ P w K M (upd (upd H4 p5 (.tup [.int (plc R C (t + 1):Nat),.ref c])) d (dN P w d (storedH xs4 (((plc R C (t + 1):Nat):Int),s) p5 u))) d (storedH xs4 (((plc R C (t + 1):Nat):Int),s) p5 u):=by
       refine ⟨az,λx hx=>?_⟩
       have kx:=λy hy=>bt m6 (hD5.key y hy)
       cases e:atKey xs4 (((plc R C (t + 1):Nat):Int),s) with
       | none=>
         rw [storedH_new e] at hx
         rcases List.mem_append.mp hx with z | z
         · exact kx x z
         · obtain rfl:=List.mem_singleton.mp z
           exact bt m6 k5
       | some pr=>
         rw [storedH_old e] at hx
         obtain ⟨y,hy,rfl⟩:=List.mem_map.mp hx
         have:=kx y hy
         unfold putAt
         split <;> exact this
     obtain ⟨pr,hpr⟩:∃ pr,atKey (storedH xs4 (((plc R C (t + 1):Nat):Int),s) p5 u) (((plc R C (t + 1):Nat):Int),s)=some pr:=by
       cases e:atKey xs4 (((plc R C (t + 1):Nat):Int),s) with
       | none=>
         rw [storedH_new e]
         refine ⟨(p5,u),?_⟩
         unfold atKey at e ⊢
         rw [Option.map_eq_none_iff] at e
         rw [List.find?_append,e]
         simp
       | some pr=>
         obtain ⟨y,hy,hk,_⟩:=ku e
         cases e':atKey (storedH xs4 (((plc R C (t + 1):Nat):Int),s) p5 u) (((plc R C (t + 1):Nat):Int),s) with
         | some pr=>exact ⟨pr,rfl⟩
         | none=>
           exfalso
           rw [storedH_old e] at e'
           refine kE e' (putAt _ u y) (List.mem_map.mpr ⟨y,hy,rfl⟩) ?_
           unfold putAt
           split <;> exact hk
     exact got (hM5.but b6 ⟨_,az⟩) (aC (((But.same e5).hd hM.1).trans m6) hc4) hD6 hG6 hpr λH' xs' b7=>q H' xs' (b14.trans ((But.same e5).trans (b6.trans b7)))
theorem l6 {fm fe:Addr} {fdm fde:FuncData} {qm qe:Str} (Fm:Fun K "many_from" qm (top 30) fm fdm) (Fe:Fun K "many_with_empty" qe (top 31) fe fde) (cn:Cal P w K mg base k "next_state" aL) (mm:mg "many_from" = some (.ref fm)) (me:mg "many_with_empty" = some (.ref fe))
   (bm:Binds K fdm ["known","shape","place","state"] []) (be:Binds K fde ["known","shape","place","state"] []):∀ T,aP P w K mg base CX0 (k + 2 * T + 1) fm fdm ["known","shape","place","state"] (spM P w K T)
 | 0=>rk Fm
 | T + 1=>by
   have h:=l6 Fm Fe cn mm me bm be T
   have h1:=qx (k:=k + 2 * T + 1) Fe (cn.mono (by omega)) ⟨_,_,_,h,mm,Fm.kp,bm⟩
   have h2:=t7 (k:=k + 2 * T + 2) Fm (cn.mono (by omega)) ⟨_,_,_,h.mono (by omega),mm,Fm.kp,bm⟩ ⟨_,_,_,h1.mono (by omega),me,Fe.kp,be⟩
   exact h2
end
end K52
namespace K52
open PySem PySem.Spec PyProof.Rows L2 Hy
noncomputable def aZ (R C:Nat):Nat->Int × Bool->Int->List Int
 | 0,_,_=>[]
 | t + 1,s,l=>if l < mev R C t s then 0 :: aZ R C t (nxs C (plc R C (t + 1)) s.1 s.2 0) l else 1 :: aZ R C t (nxs C (plc R C (t + 1)) s.1 s.2 1) (l - mev R C t s)
noncomputable def eU (R C:Nat):Nat->Int × Bool->List Int->Int
 | t + 1,s,m :: ms=>(if m=1 then mev R C t s else 0) + eU R C t (nxs C (plc R C (t + 1)) s.1 s.2 m) ms
 | _,_,_=>0
noncomputable def eA (R C:Nat):Nat->Int × Bool->List Int->Prop
 | 0,_,[]=>True
 | t + 1,s,m :: ms=>(m=1\/m=0/\dk C (plc R C (t + 1)) s=false)/\eA R C t (nxs C (plc R C (t + 1)) s.1 s.2 m) ms
 | _,_,_=>False
theorem fx (R C:Nat):∀ (t:Nat) (s:Int × Bool),1<=mfv R C t s
 | 0,_=>by rw [mfv]; exact Int.le_refl _
 | t + 1,s=>by
   rw [mfv]
   have h1:=fx R C t (nxs C (plc R C (t + 1)) s.1 s.2 1)
   have h2:=fx R C t (nxs C (plc R C (t + 1)) s.1 s.2 0)
   split <;> omega
theorem ie (R C t:Nat) (s:Int × Bool):mfv R C (t + 1) s=mev R C t s + mfv R C t (nxs C (plc R C (t + 1)) s.1 s.2 1):=rfl
theorem eQ (R C t:Nat) (s:Int × Bool):(dk C (plc R C (t + 1)) s=true/\mev R C t s=0)\/(dk C (plc R C (t + 1)) s=false/\mev R C t s=mfv R C t (nxs C (plc R C (t + 1)) s.1 s.2 0)):=by
 unfold mev
 cases h:dk C (plc R C (t + 1)) s with
 | true=>exact .inl ⟨rfl,if_pos rfl⟩
 | false=>exact .inr ⟨rfl,if_neg Bool.false_ne_true⟩
theorem kh (R C:Nat):∀ (t:Nat) (s:Int × Bool) (l:Int),(aZ R C t s l).length=t
 | 0,_,_=>rfl
 | t + 1,s,l=>by
   rw [aZ]
   split <;> rw [List.length_cons,kh R C t]
theorem jO (R C:Nat):∀ (t:Nat) (s:Int × Bool) (l:Int),0<=l->l < mfv R C t s->eA R C t s (aZ R C t s l)/\eU R C t s (aZ R C t s l)=l
 | 0,s,l,h0,h1=>by
   rw [mfv] at h1
   rw [aZ,eA,eU]
   · exact ⟨trivial,by omega⟩
   · intro _ _ _ z; cases z
 | t + 1,s,l,h0,h1=>by
   rw [ie] at h1
   rw [aZ]
   by_cases h:l < mev R C t s
   · rw [if_pos h]
     rcases eQ R C t s with ⟨_,z⟩ | ⟨z1,z2⟩
     · omega
     · obtain ⟨i1,i2⟩:=jO R C t _ l h0 (by rw [<- z2]; exact h)
       rw [eA,eU,i2,if_neg (by decide)]
       exact ⟨⟨.inr ⟨rfl,z1⟩,i1⟩,by omega⟩
   · rw [if_neg h]
     obtain ⟨i1,i2⟩:=jO R C t (nxs C (plc R C (t + 1)) s.1 s.2 1) (l - mev R C t s) (by omega) (by omega)
     rw [eA,eU,i2,if_pos rfl]
     exact ⟨⟨.inl rfl,i1⟩,by omega⟩
theorem ny (R C:Nat):∀ (t:Nat) (s:Int × Bool) (ms:List Int),eA R C t s ms->0<=eU R C t s ms/\eU R C t s ms < mfv R C t s/\aZ R C t s (eU R C t s ms)=ms
 | 0,s,[],_=>by
   rw [mfv,eU,aZ]
   · exact ⟨Int.le_refl _,by decide,rfl⟩
   · intro _ _ _ z; cases z
 | 0,s,_ :: _,h=>by rw [eA] at h; exact h.elim; all_goals (intros; contradiction)
 | t + 1,s,[],h=>by rw [eA] at h; exact h.elim; all_goals (intros; contradiction)
 | t + 1,s,m :: ms,h=>by
   rw [eA] at h
   obtain ⟨h1,h2⟩:=h
   obtain ⟨i1,i2,i3⟩:=ny R C t _ ms h2
   have mp:=fx R C t (nxs C (plc R C (t + 1)) s.1 s.2 1)
   have mc:=eQ R C t s
   have mp0:=fx R C t (nxs C (plc R C (t + 1)) s.1 s.2 0)
   rw [eU,ie,aZ]
   rcases h1 with rfl | ⟨rfl,z⟩
   · rw [if_pos rfl,if_neg (by omega),show mev R C t s + eU R C t (nxs C (plc R C (t + 1)) s.1 s.2 1) ms - mev R C t s=eU R C t (nxs C (plc R C (t + 1)) s.1 s.2 1) ms by omega,i3]
     have:0<=mev R C t s:=by rcases mc with ⟨_,e⟩ | ⟨_,e⟩ <;> omega
     exact ⟨by omega,by omega,rfl⟩
   · rcases mc with ⟨e,_⟩ | ⟨_,e⟩
     · rw [z] at e; cases e
     · rw [if_neg (by decide),Int.zero_add,if_pos (by omega),i3]
       exact ⟨i1,by omega,rfl⟩
theorem dec_lt (R C:Nat):∀ (t:Nat) (s:Int × Bool) (l l':Int),0<=l->l < l'->l' < mfv R C t s->∃ j,j < t/\(∀ m,m < j->(aZ R C t s l).getD m 0=(aZ R C t s l').getD m 0)/\(aZ R C t s l).getD j 0=0/\(aZ R C t s l').getD j 0=1
 | 0,s,l,l',h0,h1,h2=>by rw [mfv] at h2; omega
 | t + 1,s,l,l',h0,h1,h2=>by
   rw [ie] at h2
   rw [aZ,aZ]
   by_cases h:l < mev R C t s
   · by_cases h':l' < mev R C t s
     · rw [if_pos h,if_pos h']
       rcases eQ R C t s with ⟨_,z⟩ | ⟨z1,z2⟩
       · omega
       · obtain ⟨j,q1,q2,q3,q4⟩:=dec_lt R C t (nxs C (plc R C (t + 1)) s.1 s.2 0) l l' h0 h1 (by rw [<- z2]; exact h')
         refine ⟨j + 1,by omega,λm hm=>?_,by simpa using q3,by simpa using q4⟩
         match m,hm with
         | 0,_=>rfl
         | m + 1,hm=>simpa using q2 m (by omega)
     · rw [if_pos h,if_neg h']
       exact ⟨0,by omega,λm hm=>absurd hm (by omega),rfl,rfl⟩
   · rw [if_neg h,if_neg (by omega)]
     obtain ⟨j,q1,q2,q3,q4⟩:=dec_lt R C t (nxs C (plc R C (t + 1)) s.1 s.2 1) (l - mev R C t s) (l' - mev R C t s) (by omega) (by omega) (by omega)
     refine ⟨j + 1,by omega,λm hm=>?_,by simpa using q3,by simpa using q4⟩
     match m,hm with
     | 0,_=>rfl
     | m + 1,hm=>simpa using q2 m (by omega)
theorem iY (n j i:Nat):(n ||| 2 ^ j).testBit i=(n.testBit i || decide (j=i)):=by rw [Nat.testBit_or,Nat.testBit_two_pow]
theorem qv (S j:Nat):decide (Builtin.bitAnd ((S:Int) / 2 ^ j) 1=1)=S.testBit j:=by
 have e:(S:Int) / 2 ^ j=((S / 2 ^ j:Nat):Int):=by simp
 rw [e,PyProof.Rows.bitAnd_pp (Int.natCast_nonneg _) (by decide),Int.toNat_natCast,Nat.testBit_eq_decide_div_mod_eq]
 have:(S / 2 ^ j) &&& (1:Int).toNat=S / 2 ^ j % 2:=by show (S / 2 ^ j) &&& 1=_; rw [Nat.and_one_is_mod]
 rw [this]
 congr 1
 rw [eq_iff_iff]
 omega
theorem rj (S y:Nat):Builtin.bitOr (S:Int) (y:Int)=((S ||| y:Nat):Int):=by
 unfold Builtin.bitOr
 have h1:¬ (0<=Builtin.bitNot (S:Int)):=by unfold Builtin.bitNot; omega
 have h2:¬ (0<=Builtin.bitNot (y:Int)):=by unfold Builtin.bitNot; omega
 rw [PyProof.Rows.bitAnd_nn h1 h2]
 have h3:∀ x:Int,Builtin.bitNot (Builtin.bitNot x)=x:=λx=>by unfold Builtin.bitNot; omega
 rw [h3,h3,h3,Int.toNat_natCast,Int.toNat_natCast]
noncomputable def tb (C q:Nat) (g:List Int):List (List Int):=(List.range q).map λi=>(g.drop (i * C)).take C
theorem bW (C q:Nat) (g:List Int):(tb C q g).length=q:=by simp [tb]
theorem kM {C q:Nat} {g:List Int} {i:Nat} (h:i < q):(tb C q g).getD i []=(g.drop (i * C)).take C:=by simp [tb,h]
theorem bD {C q:Nat} {g:List Int} {i j:Nat} (h:i < q) (hj:j < C):((tb C q g).getD i []).getD j 0=g.getD (i * C + j) 0:=by
 rw [kM h]
 simp [List.getD,List.getElem?_take,hj,List.getElem?_drop]
theorem rT {C q:Nat} {g:List Int} {i:Nat} (h:i < q) (hg:q * C<=g.length):((tb C q g).getD i []).length=C:=by
 rw [kM h,List.length_take,List.length_drop]
 have:(i + 1) * C<=q * C:=Nat.mul_le_mul_right C h
 rw [Nat.succ_mul] at this
 omega
theorem dm {C q r:Nat} (h:r < C):(q * C + r) / C=q/\(q * C + r) % C=r:=by
 have hC:0 < C:=by omega
 rw [Nat.mul_comm,Nat.mul_add_div hC,Nat.div_eq_of_lt h,Nat.mul_add_mod,Nat.mod_eq_of_lt h]
 exact ⟨rfl,rfl⟩
theorem dm' (C p:Nat):p=p / C * C + p % C:=by rw [Nat.mul_comm]; exact (Nat.div_add_mod p C).symm
noncomputable def lJ (C:Nat) (f:List Int) (p:Nat):Prop:=∃ j,j < p % C/\f.getD (p / C * C + j) 0=1
noncomputable def qa (C:Nat) (f:List Int) (p:Nat):Prop:=∃ i,i < p / C/\f.getD (i * C + p % C) 0=1
noncomputable def fV (C:Nat) (f:List Int) (p:Nat):Prop:=f.getD p 0=1\/(f.getD p 0=0/\¬ (lJ C f p/\qa C f p))
structure StP (C:Nat) (f:List Int) (p:Nat) (s:Int × Bool):Prop where
 nn:0<=s.1
 col:∀ c,c < C->(s.1.toNat.testBit c=true ↔ ∃ i,i * C + c < p/\f.getD (i * C + c) 0=1)
 row:s.2=true ↔ lJ C f p
theorem StP.zero {C:Nat} {f:List Int}:StP C f 0 (0,false) where
 nn:=Int.le_refl _
 col:=λc _=>⟨λh=>by simp at h,λ⟨i,h,_⟩=>absurd h (by omega)⟩
 row:=⟨λh=>(by cases h),λ⟨j,h,_⟩=>absurd h (by simp)⟩
theorem StP.next {C:Nat} {f:List Int} {p:Nat} {s:Int × Bool} {m:Int} (h:StP C f p s) (hC:0 < C) (hm:f.getD p 0=m) (h01:m=1\/m=0):StP C f (p + 1) (nxs C p s.1 s.2 m):=by
 obtain ⟨n,en⟩:=Int.eq_ofNat_of_zero_le h.nn
 have hj:p % C < C:=Nat.mod_lt _ hC
 have em:∃ k:Nat,m * 2 ^ (p % C)=((k * 2 ^ (p % C):Nat):Int)/\(k=1/\m=1\/k=0/\m=0):=by
   rcases h01 with rfl | rfl
   · exact ⟨1,by simp,.inl ⟨rfl,rfl⟩⟩
   · exact ⟨0,by simp,.inr ⟨rfl,rfl⟩⟩
 obtain ⟨k,ek,hk⟩:=em
 have e1:(nxs C p s.1 s.2 m).1=((n ||| k * 2 ^ (p % C):Nat):Int):=by
   unfold nxs
   rw [en,ek,rj]
 have ep:=dm' C p
 refine ⟨by rw [e1]; exact Int.natCast_nonneg _,λc hc=>?_,?_⟩
 · have hcol:=h.col c hc
   rw [en,Int.toNat_natCast] at hcol
   rw [e1,Int.toNat_natCast]
   have hb:(n ||| k * 2 ^ (p % C)).testBit c=(n.testBit c || (decide (m=1) && decide (p % C=c))):=by
     rcases hk with ⟨rfl,rfl⟩ | ⟨rfl,rfl⟩
     · rw [Nat.one_mul,iY]; simp
     · simp
   rw [hb,Bool.or_eq_true,hcol,Bool.and_eq_true,decide_eq_true_eq,decide_eq_true_eq]
   constructor
   · rintro (⟨i,z1,z2⟩ | ⟨z1,z2⟩)
     · exact ⟨i,by omega,z2⟩
     · subst z2
       exact ⟨p / C,by omega,by rw [<- ep,hm]; exact z1⟩
   · rintro ⟨i,z1,z2⟩
     by_cases e:i * C + c=p
     · obtain ⟨q1,q2⟩:=dm (q:=i) hc
       rw [e] at q1 q2
       refine .inr ⟨?_,q2⟩
       rw [e,hm] at z2
       exact z2
     · exact .inl ⟨i,by omega,z2⟩
 · show ((decide (p % C + 1 < C) && (s.2 || decide (m=1)))=true) ↔ _
   rw [Bool.and_eq_true,Bool.or_eq_true,h.row,decide_eq_true_eq,decide_eq_true_eq]
   unfold lJ
   by_cases hl:p % C + 1 < C
   · obtain ⟨q1,q2⟩:=dm (q:=p / C) hl
     rw [show p / C * C + (p % C + 1)=p + 1 by omega] at q1 q2
     rw [q1,q2]
     constructor
     · rintro ⟨_,⟨j,z1,z2⟩ | z⟩
       · exact ⟨j,by omega,z2⟩
       · exact ⟨p % C,by omega,by rw [<- ep,hm]; exact z⟩
     · rintro ⟨j,z1,z2⟩
       refine ⟨hl,?_⟩
       by_cases e:j=p % C
       · subst e
         rw [<- ep,hm] at z2
         exact .inr z2
       · exact .inl ⟨j,by omega,z2⟩
   · have e:p + 1=(p / C + 1) * C + 0:=by rw [Nat.succ_mul]; omega
     obtain ⟨_,q2⟩:=dm (q:=p / C + 1) hC
     rw [<- e] at q2
     rw [q2]
     exact ⟨λz=>absurd z.1 hl,λ⟨j,z,_⟩=>absurd z (by omega)⟩
theorem StP.bit {C:Nat} {f:List Int} {p:Nat} {s:Int × Bool} (h:StP C f p s) (hC:0 < C):dk C p s=true ↔ (lJ C f p/\qa C f p):=by
 obtain ⟨n,en⟩:=Int.eq_ofNat_of_zero_le h.nn
 have hj:p % C < C:=Nat.mod_lt _ hC
 have hcol:=h.col (p % C) hj
 rw [en,Int.toNat_natCast] at hcol
 unfold dk
 rw [en,qv,Bool.and_eq_true,h.row,hcol]
 have ep:=dm' C p
 constructor
 · rintro ⟨z,i,z1,z2⟩
   refine ⟨z,i,?_,z2⟩
   have:i * C < p / C * C:=by omega
   exact Nat.lt_of_mul_lt_mul_right this
 · rintro ⟨z,i,z1,z2⟩
   refine ⟨z,i,?_,z2⟩
   have:(i + 1) * C<=p / C * C:=Nat.mul_le_mul_right C z1
   rw [Nat.succ_mul] at this
   omega
theorem iF {R C:Nat} {f:List Int} (hC:0 < C) (hf:f.length=R * C):∀ (t p:Nat) (s:Int × Bool),t + p=R * C->StP C f p s->(eA R C t s (f.drop p) ↔ ∀ p',p<=p'->p' < R * C->fV C f p')
 | 0,p,s,hp,h=>by
   rw [List.drop_of_length_le (by omega),eA]
   exact ⟨λ_ p' h1 h2=>by omega,λ_=>trivial⟩
 | t + 1,p,s,hp,h=>by
   have hlt:p < f.length:=by omega
   rw [List.drop_eq_getElem_cons hlt,eA]
   have e:f[p]=f.getD p 0:=by simp [hlt]
   have ep:plc R C (t + 1)=p:=by unfold plc; omega
   rw [e,ep]
   have hb:=h.bit hC
   have hg:(f.getD p 0=1\/f.getD p 0=0/\dk C p s=false) ↔ fV C f p:=by
     unfold fV
     rw [<- hb]
     cases dk C p s <;> simp
   rw [hg]
   constructor
   · rintro ⟨g,v⟩ p' h1 h2
     by_cases e':p'=p
     · subst e'; exact g
     · exact (iF hC hf t (p + 1) _ (by omega) (h.next hC rfl (g.imp id (·.1)))).mp v p' (by omega) h2
   · intro z
     have g:=z p (Nat.le_refl _) (by omega)
     exact ⟨g,(iF hC hf t (p + 1) _ (by omega) (h.next hC rfl (g.imp id (·.1)))).mpr λp' h1 h2=>z p' (by omega) h2⟩
theorem jB {R C:Nat} {f:List Int} (hC:0 < C) (hf:f.length=R * C):eA R C (R * C) (0,false) f ↔ ∀ p,p < R * C->fV C f p:=by
 have:=iF hC hf (R * C) 0 (0,false) (by omega) StP.zero
 rw [List.drop_zero] at this
 rw [this]
 exact ⟨λz p h=>z p (by omega) h,λz p _ h=>z p h⟩
theorem iA:∀ {xs:List Int},0 < xs.sum->∃ x ∈ xs,0 < x
 | [],h=>by simp at h
 | x :: xs,h=>by
   rw [List.sum_cons] at h
   by_cases e:0 < x
   · exact ⟨x,List.mem_cons_self ..,e⟩
   · obtain ⟨y,h1,h2⟩:=iA (xs:=xs) (by omega)
     exact ⟨y,List.mem_cons_of_mem _ h1,h2⟩
structure Tb (R C:Nat) (f:List Int):Prop where
 r1:1<=R
 r7:R<=7
 c1:1<=C
 c7:C<=7
 len:f.length=R * C
 ok:eA R C (R * C) (0,false) f
theorem Tb.good {R C:Nat} {f:List Int} (h:Tb R C f):∀ {i j:Nat},i < R->j < C->fV C f (i * C + j):=λ{i j} hi hj=>(jB h.c1 h.len).mp h.ok _ (by
 have:(i + 1) * C<=R * C:=Nat.mul_le_mul_right C hi
 rw [Nat.succ_mul] at this
 omega)
theorem Tb.g {R C:Nat} {f:List Int} (h:Tb R C f) {i j:Nat} (hi:i < R) (hj:j < C):f.getD (i * C + j) 0=1\/(f.getD (i * C + j) 0=0/\¬ ((∃ j',j' < j/\f.getD (i * C + j') 0=1)/\(∃ i',i' < i/\f.getD (i' * C + j) 0=1))):=by
 have:=h.good hi hj
 unfold fV lJ qa at this
 obtain ⟨q1,q2⟩:=dm (q:=i) hj
 rw [q1,q2] at this
 exact this
theorem Tb.bit {R C:Nat} {f:List Int} (h:Tb R C f) {i j:Nat} (hi:i < R) (hj:j < C):f.getD (i * C + j) 0=1\/f.getD (i * C + j) 0=0:=(h.g hi hj).imp id (·.1)
theorem Tb.gw {R C:Nat} {f:List Int} (h:Tb R C f) {i:Nat} (hi:i < R):((tb C R f).getD i []).length=C:=rT hi (by rw [h.len]; exact Nat.le_refl _)
theorem mem_getD {xs:List Int} {x:Int} (h:x ∈ xs):∃ i,i < xs.length/\xs.getD i 0=x:=by
 obtain ⟨i,hi,rfl⟩:=List.getElem_of_mem h
 exact ⟨i,hi,by simp [hi]⟩
theorem Tb.cw {R C:Nat} {f:List Int} (h:Tb R C f):cw C (tb C R f)=true:=by
 unfold K52.cw
 rw [List.all_eq_true]
 intro i hi
 rw [List.mem_range,bW] at hi
 rw [List.all_eq_true]
 intro j hj
 rw [List.mem_range] at hj
 rw [Bool.not_eq_true']
 cases e:lM (tb C R f) i j with
 | false=>rfl
 | true=>
   exfalso
   unfold lM at e
   rw [Bool.and_eq_true,Bool.and_eq_true,decide_eq_true_eq,decide_eq_true_eq,decide_eq_true_eq,bD hi hj] at e
   obtain ⟨e1,e2,e3⟩:=e
   rcases h.g hi hj with z | ⟨_,z⟩
   · omega
   · refine z ⟨?_,?_⟩
     · obtain ⟨x,hx,hp⟩:=iA e2
       obtain ⟨j',hj',ex⟩:=mem_getD hx
       rw [List.length_take] at hj'
       have:((tb C R f).getD i []).getD j' 0=x:=by rw [<- ex]; simp [List.getD,List.getElem?_take,(by omega:j' < j)]
       rw [bD hi (by omega)] at this
       rcases h.bit hi (j:=j') (by omega) with y | y
       · exact ⟨j',by omega,y⟩
       · omega
     · obtain ⟨x,hx,hp⟩:=iA e3
       rw [List.mem_map] at hx
       obtain ⟨l,hl,ex⟩:=hx
       rw [List.mem_range,List.length_take,bW] at hl
       have e4:((tb C R f).take i).getD l []=(tb C R f).getD l []:=by simp [List.getD,List.getElem?_take,(by omega:l < i)]
       rw [e4,bD (by omega) hj] at ex
       rcases h.bit (i:=l) (by omega) hj with y | y
       · exact ⟨l,by omega,y⟩
       · omega
end K52
namespace K52
open PySem PySem.Spec PyProof.Rows L2 Hy
open Ev (D Den aq aK a5)
noncomputable def lgr (one:Bool) (rs:List (List Int)):List (List Int):=rs.flatMap λr=>(if one then [r++[0]] else [])++[r++[1]]
noncomputable def smK (cs:List Bool) (first k:Nat):List (List Int):=((cs.drop (first + 1)).take k).foldl (λrs one=>lgr one rs) [List.replicate first 0++[1]]
noncomputable def dR (cs:List Bool) (k:Nat):List (List Int):=List.replicate cs.length 0 :: (List.range k).flatMap λi=>smK cs i cs.length
noncomputable def opts (cs:List Bool):List (List Int):=dR cs cs.length
theorem il (one:Bool):∀ rs,(lgr one rs).length<=2 * rs.length
 | []=>Nat.le_refl _
 | r :: rs=>by
   have:=il one rs
   unfold lgr at this ⊢
   rw [List.flatMap_cons,List.length_append,List.length_cons]
   cases one <;> simp at this ⊢ <;> omega
theorem fS {cs:List Bool} {first k:Nat} (h:k < (cs.drop (first + 1)).length):smK cs first (k + 1)=lgr ((cs.drop (first + 1)).getD k false) (smK cs first k):=by
 unfold smK
 rw [take_snoc false h,List.foldl_append]
 rfl
theorem fv {cs:List Bool} {first k:Nat} (h:(cs.drop (first + 1)).length<=k):smK cs first k=smK cs first cs.length:=by
 unfold smK
 rw [List.take_of_length_le h,List.take_of_length_le (by rw [List.length_drop]; omega)]
theorem dY (cs:List Bool) (first:Nat):∀ k,(smK cs first k).length<=2 ^ k
 | 0=>by simp [smK]
 | k + 1=>by
   by_cases h:k < (cs.drop (first + 1)).length
   · rw [fS h]
     have:=il ((cs.drop (first + 1)).getD k false) (smK cs first k)
     have:=dY cs first k
     rw [Nat.pow_succ]
     omega
   · rw [fv (by omega),<- fv (k:=k) (by omega)]
     have:=dY cs first k
     rw [Nat.pow_succ]
     omega
theorem jh (cs:List Bool) (h:cs.length<=7):∀ k,(dR cs k).length<=1 + k * 128
 | 0=>by simp [dR]
 | k + 1=>by
   have ih:=jh cs h k
   have h1:=dY cs k cs.length
   have h2:2 ^ cs.length<=2 ^ 7:=Nat.pow_le_pow_right (by decide) h
   unfold dR at ih ⊢
   rw [List.range_succ,List.flatMap_append]
   simp at ih ⊢
   omega
theorem lV (cs:List Bool) (k:Nat):dR cs (k + 1)=dR cs k++smK cs k cs.length:=by
 unfold dR
 rw [List.range_succ,List.flatMap_append]
 simp
structure OkR (cs:List Bool) (n:Nat) (r:List Int):Prop where
 len:r.length=n
 at_:∀ j,j < n->r.getD j 0=1\/(r.getD j 0=0/\((∀ j',j' < j->r.getD j' 0=0)\/cs.getD j false=true))
theorem getD_snoc {r:List Int} {x:Int} {j:Nat}:(r++[x]).getD j 0=if j < r.length then r.getD j 0 else if j=r.length then x else 0:=by
 by_cases h:j < r.length
 · rw [if_pos h]; simp [List.getD,List.getElem?_append_left h]
 · rw [if_neg h]
   by_cases e:j=r.length
   · subst e; simp
   · rw [if_neg e]
     simp [List.getD]
     rw [List.getElem?_eq_none (by simp; omega)]
     rfl
theorem OkR.snoc {cs:List Bool} {n:Nat} {r:List Int} {x:Int} (h:OkR cs n r) (hx:x=1\/x=0/\cs.getD n false=true):OkR cs (n + 1) (r++[x]):=by
 refine ⟨by rw [List.length_append,h.len]; rfl,λj hj=>?_⟩
 rw [getD_snoc,h.len]
 by_cases e:j < n
 · rw [if_pos e]
   refine (h.at_ j e).imp id λ⟨z1,z2⟩=>⟨z1,z2.imp (λz j' hj'=>?_) id⟩
   rw [getD_snoc,h.len,if_pos (by omega)]
   exact z j' hj'
 · rw [if_neg e,if_pos (by omega)]
   obtain rfl:j=n:=by omega
   exact hx.imp id λ⟨z1,z2⟩=>⟨z1,.inr z2⟩
theorem OkR.zeros (cs:List Bool) (n:Nat):OkR cs n (List.replicate n 0):=⟨List.length_replicate,λj hj=>.inr ⟨by simp [hj],.inl λj' hj'=>by simp [(by omega:j' < n)]⟩⟩
theorem j7 (cs:List Bool) (first:Nat):∀ k,first + 1 + k<=cs.length->∀ r ∈ smK cs first k,OkR cs (first + 1 + k) r
 | 0,_,r,hr=>by
   simp [smK] at hr
   subst hr
   exact (OkR.zeros cs first).snoc (.inl rfl)
 | k + 1,hk,r,hr=>by
   have hl:k < (cs.drop (first + 1)).length:=by rw [List.length_drop]; omega
   rw [fS hl] at hr
   unfold lgr at hr
   rw [List.mem_flatMap] at hr
   obtain ⟨r0,h0,h1⟩:=hr
   have ih:=j7 cs first k (by omega) r0 h0
   have ec:(cs.drop (first + 1)).getD k false=cs.getD (first + 1 + k) false:=by simp [List.getD,List.getElem?_drop]
   rw [ec] at h1
   rcases List.mem_append.mp h1 with z | z
   · cases hc:cs.getD (first + 1 + k) false with
     | false=>rw [hc] at z; simp at z
     | true=>
       rw [hc] at z
       simp at z
       subst z
       exact ih.snoc (.inr ⟨rfl,hc⟩)
   · simp at z
     subst z
     exact ih.snoc (.inl rfl)
theorem pN (cs:List Bool) (r:List Int) (h:r ∈ opts cs):OkR cs cs.length r:=by
 unfold opts dR at h
 rcases List.mem_cons.mp h with rfl | h
 · exact OkR.zeros cs cs.length
 · rw [List.mem_flatMap] at h
   obtain ⟨i,h1,h2⟩:=h
   rw [List.mem_range] at h1
   rw [<- fv (k:=cs.length - (i + 1)) (by rw [List.length_drop]; exact Nat.le_refl _)] at h2
   have:=j7 cs i (cs.length - (i + 1)) (by omega) r h2
   rwa [show i + 1 + (cs.length - (i + 1))=cs.length by omega] at this
noncomputable def cI (ds:List D) (r:Sl):Prop:=∃ cs:List Bool,ds=[.lst (cs.map .bl)]/\cs.length<=7/\r=.d (tbD (opts cs))
theorem tO {bs:List Bool} (i:Nat) (h:i < (bs.map D.bl).length):(bs.map D.bl)[i]=.bl (bs.getD i false):=by
 have:i < bs.length:=by simpa using h
 simp [this]
theorem fD {xs:List D} (m:Nat):Hy.cutD xs (some (m:Int)) none=xs.drop m:=by
 unfold Hy.cutD
 rw [HT.kj,HT.je]
 rcases Nat.le_total m xs.length with h | h
 · rw [Nat.min_eq_left h,List.take_of_length_le (by rw [List.length_drop]; exact Nat.le_refl _)]
 · rw [Nat.min_eq_right h,List.drop_of_length_le (Nat.le_refl _),List.drop_of_length_le h,List.take_nil]
theorem oK {α:Type} (n:Nat) (x:α):(List.range n).map (λ_=>x)=List.replicate n x:=by
 refine List.ext_getElem (by simp) λi h1 h2=>by simp
noncomputable def pick (cs:List Bool) (p:Int):List Int:=(opts cs).getD (p.fmod ((opts cs).length:Nat)).toNat []
noncomputable def stS (ps:List Int) (C:Nat):Nat->List (List Int) × List Bool
 | 0=>([],List.replicate C true)
 | i + 1=>((stS ps C i).1++[pick (stS ps C i).2 (ps.getD i 0)],(List.range C).map λj=>(stS ps C i).2.getD j false && decide ((pick (stS ps C i).2 (ps.getD i 0)).getD j 0=0))
theorem i9 (cs:List Bool):0 < (opts cs).length:=by simp [opts,dR]
theorem kB (cs:List Bool) (p:Int):0<=p.fmod ((opts cs).length:Nat)/\(p.fmod ((opts cs).length:Nat)).toNat < (opts cs).length:=by
 have h:=i9 cs
 have h1:=Int.fmod_nonneg_of_pos p (b:=((opts cs).length:Nat)) (by omega)
 have h2:=Int.fmod_lt_of_pos p (b:=((opts cs).length:Nat)) (by omega)
 exact ⟨h1,by omega⟩
theorem kl (cs:List Bool) (p:Int):OkR cs cs.length (pick cs p):=pN cs _ (by
 have:=(kB cs p).2
 unfold pick
 simp [this])
structure StI (C i:Nat) (ms:List (List Int)) (cs:List Bool):Prop where
 n:ms.length=i
 c:cs.length=C
 row:∀ l,l < i->(ms.getD l []).length=C
 ok:∀ l,l < i->∀ j,j < C->(ms.getD l []).getD j 0=1\/((ms.getD l []).getD j 0=0/\((∀ j',j' < j->(ms.getD l []).getD j' 0=0)\/∀ l',l' < l->(ms.getD l' []).getD j 0=0))
 clr:∀ j,j < C->cs.getD j false=true->∀ l,l < i->(ms.getD l []).getD j 0=0
theorem fO {ms:List (List Int)} {r:List Int} {l:Nat}:(ms++[r]).getD l []=if l < ms.length then ms.getD l [] else if l=ms.length then r else []:=by
 by_cases h:l < ms.length
 · rw [if_pos h]; simp [List.getD,List.getElem?_append_left h]
 · rw [if_neg h]
   by_cases e:l=ms.length
   · subst e; simp
   · rw [if_neg e]
     simp [List.getD]
     rw [List.getElem?_eq_none (by simp; omega)]
     rfl
theorem iG (ps:List Int) (C:Nat):∀ i,StI C i (stS ps C i).1 (stS ps C i).2
 | 0=>⟨rfl,List.length_replicate,λ_ h=>absurd h (by omega),λ_ h=>absurd h (by omega),λ_ _ _ _ h=>absurd h (by omega)⟩
 | i + 1=>by
   have ih:=iG ps C i
   have hp:=kl (stS ps C i).2 (ps.getD i 0)
   rw [ih.c] at hp
   rw [stS]
   simp only
   have old:∀ l,l < i->((stS ps C i).1++[pick (stS ps C i).2 (ps.getD i 0)]).getD l []=(stS ps C i).1.getD l []:=λl hl=>by rw [fO,if_pos (by rw [ih.n]; exact hl)]
   have new:((stS ps C i).1++[pick (stS ps C i).2 (ps.getD i 0)]).getD i []=pick (stS ps C i).2 (ps.getD i 0):=by rw [fO,ih.n,if_neg (Nat.lt_irrefl _),if_pos rfl]
   refine ⟨by rw [List.length_append,ih.n]; rfl,by simp,λl hl=>?_,λl hl j hj=>?_,λj hj hc l hl=>?_⟩
   · by_cases e:l < i
     · rw [old l e]; exact ih.row l e
     · obtain rfl:l=i:=by omega
       rw [new]; exact hp.len
   · by_cases e:l < i
     · rw [old l e]
       refine (ih.ok l e j hj).imp id λ⟨z1,z2⟩=>⟨z1,z2.imp id λz l' hl'=>?_⟩
       rw [old l' (by omega)]
       exact z l' hl'
     · obtain rfl:l=i:=by omega
       rw [new]
       refine (hp.at_ j hj).imp id λ⟨z1,z2⟩=>⟨z1,z2.imp id λz l' hl'=>?_⟩
       rw [old l' hl']
       exact ih.clr j hj z l' hl'
   · have hc:((stS ps C i).2.getD j false && decide ((pick (stS ps C i).2 (ps.getD i 0)).getD j 0=0))=true:=by rw [<- hc]; simp [hj]
     rw [Bool.and_eq_true] at hc
     by_cases e:l < i
     · rw [old l e]; exact ih.clr j hj hc.1 l e
     · obtain rfl:l=i:=by omega
       rw [new]; exact of_decide_eq_true hc.2
theorem pA (C q:Nat) (r g:List Int) (h:r.length=C):tb C (q + 1) (r++g)=r :: tb C q g:=by
 unfold tb
 rw [List.range_succ_eq_map,List.map_cons,List.map_map]
 congr 1
 · rw [Nat.zero_mul,List.drop_zero,<- h,List.take_left]
 · refine List.map_congr_left λi _=>?_
   show ((r++g).drop ((i + 1) * C)).take C=_
   rw [Nat.succ_mul,<- h,Nat.add_comm,<- List.drop_drop,List.drop_left]
theorem ky (C:Nat):∀ ms:List (List Int),(∀ l,l < ms.length->(ms.getD l []).length=C)->tb C ms.length ms.flatten=ms/\ms.flatten.length=ms.length * C
 | [],_=>⟨rfl,by simp⟩
 | r :: ms,h=>by
   obtain ⟨i1,i2⟩:=ky C ms λl hl=>by simpa using h (l + 1) (by simpa using hl)
   have h0:r.length=C:=h 0 (by simp)
   rw [List.flatten_cons,List.length_cons,pA C _ r _ h0,i1,List.length_append,i2,h0,Nat.succ_mul]
   exact ⟨rfl,Nat.add_comm _ _⟩
noncomputable def stF (c:Int) (R C:Nat):List Int:=(stS (nums c (List.replicate R 5040)) C R).1.flatten
theorem n8 (c:Int) (R C:Nat):tb C R (stF c R C)=(stS (nums c (List.replicate R 5040)) C R).1/\(stF c R C).length=R * C:=by
 have h:=iG (nums c (List.replicate R 5040)) C R
 have:=ky C (stS (nums c (List.replicate R 5040)) C R).1 λl hl=>h.row l (by rw [<- h.n]; exact hl)
 rw [h.n] at this
 exact this
theorem qK (c:Int) {R C:Nat} (r1:1<=R) (r7:R<=7) (c1:1<=C) (c7:C<=7):Tb R C (stF c R C):=by
 obtain ⟨e1,e2⟩:=n8 c R C
 have h:=iG (nums c (List.replicate R 5040)) C R
 refine ⟨r1,r7,c1,c7,e2,(jB c1 e2).mpr λp hp=>?_⟩
 have ep:=dm' C p
 have hj:p % C < C:=Nat.mod_lt _ c1
 have hi:p / C < R:=by rw [Nat.div_lt_iff_lt_mul c1]; exact hp
 have get:∀ {l j:Nat},l < R->j < C->(stF c R C).getD (l * C + j) 0=((stS (nums c (List.replicate R 5040)) C R).1.getD l []).getD j 0:=λhl hj=>by rw [<- bD hl hj,e1]
 unfold fV lJ qa
 have e3:(stF c R C).getD p 0=((stS (nums c (List.replicate R 5040)) C R).1.getD (p / C) []).getD (p % C) 0:=by rw [<- get hi hj,<- ep]
 rw [e3]
 refine (h.ok _ hi _ hj).imp id λ⟨z1,z2⟩=>⟨z1,λ⟨⟨j',y1,y2⟩,⟨i',y3,y4⟩⟩=>?_⟩
 rw [get hi (by omega)] at y2
 rw [get (by omega) hj] at y4
 rcases z2 with z | z
 · rw [z j' y1] at y2; omega
 · rw [z i' y3] at y4; omega
noncomputable def eV (ds:List D) (r:Sl):Prop:=∃ (c:Int) (R C:Nat),ds=[.int c,.int R,.int C]/\1<=R/\R<=7/\1<=C/\C<=7/\r=.d (tbD (tb C R (stF c R C)))
theorem rh {bs:List Bool} {ms:List Int} (i:Nat) (h:i < (fT (bs.map D.bl) (ms.map D.int)).length):(fT (bs.map D.bl) (ms.map D.int))[i]=.tup [.bl (bs.getD i false),.int (ms.getD i 0)]:=by
 rw [kF]
 rw [bZ,List.length_map,List.length_map] at h
 simp [show i < bs.length by omega,show i < ms.length by omega]
section
variable {P:Program} {w:World} {K:PySem.W.Frag} {mg:Str->Option Value} {base:Heap} {k:Nat} {f:Addr} {fd:FuncData} {qual:Str}
theorem iL (F:Fun K "_law_options" qual (top 38) f fd) (hb:∀ x ∈ aA,mg x=none):aP P w K mg base CX0 (k + 1) f fd ["_law_clear"] (spD K cI):=by
 refine fnD F eD hb (by rintro _ _ ⟨_,rfl,_⟩; rfl) ?_
 rintro _ _ ⟨cs,rfl,h7,rfl⟩ cdv A outer s H E b
 have nd:=eD.nd
 have lc:(cs.map D.bl).length=cs.length:=List.length_map ..
 refine aF 1 nd (a6 (aW (ae (a6 (mj (cmp 0 (f:=λ_=>.int 0) b (bV (aa 0)) tO (by omega) λi hi s0 H0 fp=>aj))) ar))) ?_
 refine cS 2 (λi τ=>∃ s2 s3 s4 s5 s6,τ=[.d (.lst (cs.map .bl)),.d (tbD (dR cs i)),s2,s3,s4,s5,s6]) b nd (de b (eJ b (ae (aa 0) ar) d0) (by omega) (by omega)) cF ⟨.un,.un,.un,.un,.un,?_⟩ (λi hi τ h=>?_) λτ h=>?_
 · show [_,Sl.d (.lst [.lst ((List.range (cs.map D.bl).length).map λ_=>.int 0)]),_,_,_,_,_]=_
   rw [lc,oK]
   unfold tbD dR rwD
   simp
 · obtain ⟨s2,s3,s4,s5,s6,rfl⟩:=h
   have hi:i < cs.length:=by rw [ax] at hi; omega
   refine aF 3 nd (a6 (aW (ae (a6 (cG (a6 (mj (cmp 0 (f:=λ_=>.int 0) b (de b (aa 2) (by omega) (by omega)) cF (by rw [ax]; omega) λi hi s0 H0 fp=>aj))) (a6 (aW (ae aj ar))) ?_)) ar))) ?_
   · rw [List.length_map,List.length_range,ax]; show _ + 1 < _; omega
   refine cS 4 (g:=λj=>.bl ((cs.drop (i + 1)).getD j false)) (λj τ=>∃ s4 s5 s6,τ=[.d (.lst (cs.map .bl)),.d (tbD (dR cs i)),.d (.int (i:Nat)),.d (tbD (smK cs i j)),s4,s5,s6]) b nd (bV (a6 (qL (aa 0) (j4 (aH (aa 2) aj aR)) jN))) ?_ ⟨s4,s5,s6,?_⟩ (λj hj τ h=>?_) λτ h=>?_
   · intro j hj
     simp only [show (i:Int) + 1=((i + 1:Nat):Int) by omega,fD,<- List.map_drop] at hj ⊢
     exact tO j hj
   · show [_,_,_,Sl.d (.lst [.lst (((List.range (dD 0 ((i:Int)).toNat).length).map λ_=>.int 0)++[.int 1])]),_,_,_]=_
     rw [ax,oK,Int.toNat_natCast]
     unfold tbD smK rwD
     simp
   · obtain ⟨s4,s5,s6,rfl⟩:=h
     have hj:j < (cs.drop (i + 1)).length:=by rw [show (i:Int) + 1=((i + 1:Nat):Int) by omega,fD,<- List.map_drop,List.length_map] at hj; exact hj
     have hj7:j < 7:=by rw [List.length_drop] at hj; omega
     have l2:=dY cs i j
     have l3:2 ^ j<=2 ^ 7:=Nat.pow_le_pow_right (by decide) (by omega)
     have ll:∀ rs,(lgr ((cs.drop (i + 1)).getD j false) rs).length<=2 * rs.length:=il _
     have gw:∀ l,l < (smK cs i j).length->((smK cs i j).getD l []).length<=7:=λl hl=>by
       have:=j7 cs i j (by rw [List.length_drop] at hj; omega) ((smK cs i j).getD l []) (by simp [hl])
       rw [this.len]
       rw [List.length_drop] at hj
       omega
     refine aF 5 nd (aW ar) ?_
     refine cS 6 (g:=λl=>rwD ((smK cs i j).getD l [])) (λl τ=>∃ s6,τ=[.d (.lst (cs.map .bl)),.d (tbD (dR cs i)),.d (.int (i:Nat)),.d (tbD (smK cs i j)),.d (.bl ((cs.drop (i + 1)).getD j false)),.o ((lgr ((cs.drop (i + 1)).getD j false) ((smK cs i j).take l)).map rwD),s6]) b nd (bV (aa 3)) mQ ⟨s6,rfl⟩ (λl hl τ h=>?_) λτ h=>?_
     · obtain ⟨s6,rfl⟩:=h
       have hl:l < (smK cs i j).length:=by simpa using hl
       have rl:=gw l hl
       have lt:=ll ((smK cs i j).take l)
       rw [List.length_take] at lt
       have step:lgr ((cs.drop (i + 1)).getD j false) ((smK cs i j).take (l + 1))=lgr ((cs.drop (i + 1)).getD j false) ((smK cs i j).take l)++((if (cs.drop (i + 1)).getD j false then [(smK cs i j).getD l []++[0]] else [])++[(smK cs i j).getD l []++[1]]):=by
         rw [take_snoc [] hl]
         unfold lgr
         rw [List.flatMap_append]
         simp
       have cat:∀ x:Int,rwD ((smK cs i j).getD l []++[x])=.lst (((smK cs i j).getD l []).map D.int++[D.int x]):=λx=>by unfold rwD; rw [List.map_append]; rfl
       refine nc (M:=λτ=>τ=[.d (.lst (cs.map .bl)),.d (tbD (dR cs i)),.d (.int (i:Nat)),.d (tbD (smK cs i j)),.d (.bl ((cs.drop (i + 1)).getD j false)),.o ((lgr ((cs.drop (i + 1)).getD j false) ((smK cs i j).take l)++(if (cs.drop (i + 1)).getD j false then [(smK cs i j).getD l []++[0]] else [])).map rwD),.d (rwD ((smK cs i j).getD l []))]) (cQ (aa 4)) (λh=>?_) (λh=>?_) λτ h=>?_
       · refine gJ 5 (a6 (cG (aa 6) (a6 (aW (ae aj ar))) ?_)) ?_ (a7 ?_)
         · rw [List.length_map]; show _ + 1 < _; omega
         · rw [List.length_map]; omega
         · rw [h,if_pos rfl,List.map_append,List.map_singleton,cat]
           rfl
       · refine a7 ?_
         rw [h,if_neg Bool.false_ne_true,List.append_nil]
         rfl
       subst h
       refine gJ 5 (a6 (cG (aa 6) (a6 (aW (ae aj ar))) ?_)) ?_ (a7 ?_)
       · rw [List.length_map]; show _ + 1 < _; omega
       · rw [List.length_map,List.length_append]
         have:(if (cs.drop (i + 1)).getD j false then [(smK cs i j).getD l []++[(0:Int)]] else []).length<=1:=by split <;> simp
         omega
       · refine ⟨.d (rwD ((smK cs i j).getD l [])),?_⟩
         rw [step,<- List.append_assoc,List.map_append (l₂:=[_++[1]]),List.map_singleton,cat]
         rfl
     · obtain ⟨s6,rfl⟩:=h
       refine gu 5 ?_
       refine aF 3 nd (aa 5) (a7 ⟨.d (.bl ((cs.drop (i + 1)).getD j false)),.d (tbD (smK cs i (j + 1))),s6,?_⟩)
       rw [fS hj,List.length_map,List.take_of_length_le (Nat.le_refl _)]
       rfl
   · obtain ⟨s4,s5,s6,rfl⟩:=h
     have l1:=jh cs h7 i
     have l2:=dY cs i cs.length
     have l3:2 ^ cs.length<=2 ^ 7:=Nat.pow_le_pow_right (by decide) h7
     have ej:(Hy.cutD (cs.map D.bl) (some ((i:Int) + 1)) none).length=(cs.drop (i + 1)).length:=by rw [show (i:Int) + 1=((i + 1:Nat):Int) by omega,fD,<- List.map_drop,List.length_map]
     rw [ej,fv (Nat.le_refl _)]
     refine aF 1 nd (a6 (cG (aa 1) (aa 3) ?_)) (a7 ⟨.d (.int (i:Nat)),.d (tbD (smK cs i cs.length)),s4,s5,s6,?_⟩)
     · rw [List.length_map,List.length_map]; omega
     · rw [lV]
       unfold tbD
       rw [List.map_append]
       rfl
 · obtain ⟨s2,s3,s4,s5,s6,rfl⟩:=h
   refine bK (aa 1) ?_
   rw [ax,lc,Int.toNat_natCast]
   rfl
theorem j8 (F:Fun K "_law_stair" qual (top 39) f fd) (hb:∀ x ∈ aA,mg x=none) (c_l_numbers:Cal P w K mg base k "_law_numbers" bR) (c_l_options:Cal P w K mg base k "_law_options" cI):aP P w K mg base CX0 (k + 1) f fd ["_law_cell_here","_law_many","_law_wide"] (spD K eV):=by
 refine fnD F fW hb (by rintro _ _ ⟨_,_,_,rfl,_⟩; rfl) ?_
 rintro _ _ ⟨c,R,C,rfl,r1,r7,c1,c7,rfl⟩ cdv A outer s H E b
 have nd:=fW.nd
 have lr:∀ n:Nat,(dD 0 ((n:Int)).toNat).length=n:=λn=>by rw [ax,Int.toNat_natCast]
 have ln:(nums c (List.replicate R 5040)).length=R:=by rw [ja,List.length_replicate]
 refine aF 3 nd (aW ar) ?_
 refine iV 4 nd (cmp 0 (f:=λ_=>.bl true) b (de b (aa 2) (by omega) (by omega)) cF (by rw [lr]; omega) λi hi s0 H0 fp=>rJ) (.inr rfl) ?_
 refine cS 5 (g:=λi=>.int ((nums c (List.replicate R 5040)).getD i 0)) (λi τ=>∃ s5 s6 s7,τ=[.d (.int c),.d (.int R),.d (.int C),.o ((stS (nums c (List.replicate R 5040)) C i).1.map rwD),.d (.lst ((stS (nums c (List.replicate R 5040)) C i).2.map .bl)),s5,s6,s7]) b nd (bV (a6 (x_call b c_l_numbers (ae (aa 0) (ae (a6 (mj (cmp 0 (f:=λ_=>.int 5040) b (de b (aa 1) (by omega) (by omega)) cF (by rw [lr]; omega) λi hi s0 H0 fp=>aj))) ar)) ⟨c,List.replicate R 5040,?_,?_,?_,rfl⟩))) nA ⟨.un,.un,.un,?_⟩ (λi hi τ h=>?_) λτ h=>?_
 · rw [lr,oK,List.map_replicate]
 · rw [List.length_replicate]; omega
 · intro x hx
   rw [List.eq_of_mem_replicate hx]
   exact ⟨by decide,by decide⟩
 · rw [lr,oK]
   simp [stS]
   rfl
 · obtain ⟨s5,s6,s7,rfl⟩:=h
   have hi:i < R:=by rw [List.length_map,ln] at hi; exact hi
   have st:=iG (nums c (List.replicate R 5040)) C i
   have pl:=kB (stS (nums c (List.replicate R 5040)) C i).2 ((nums c (List.replicate R 5040)).getD i 0)
   have po:=kl (stS (nums c (List.replicate R 5040)) C i).2 ((nums c (List.replicate R 5040)).getD i 0)
   rw [st.c] at po
   have op:=i9 (stS (nums c (List.replicate R 5040)) C i).2
   refine aF 6 nd (x_call b c_l_options (ae (aa 4) ar) ⟨_,rfl,by rw [st.c]; exact c7,rfl⟩) ?_
   refine aF 7 nd (bg (aa 6) (aH (aa 5) (eJ b (ae (aa 6) ar) d0) (dZ ?_)) (a0 (hZ ?_ ?_))) ?_
   · rw [List.length_map]; omega
   · rw [List.length_map]; exact pl.1
   · rw [List.length_map]; exact pl.2
   rw [List.length_map]
   refine gJ 3 (aa 7) ?_ ?_
   · rw [List.length_map,st.n]; omega
   refine iV 4 nd (uG 0 1 (f:=λj=>.bl ((stS (nums c (List.replicate R 5040)) C i).2.getD j false && decide ((pick (stS (nums c (List.replicate R 5040)) C i).2 ((nums c (List.replicate R 5040)).getD i 0)).getD j 0=0))) b (tM b (aa 4) (aa 7)) rh ?_ λi hi s0 H0 fp=>(gM (aa 0) λh=>(fK (kQ (aa 1) aj p7)))) (.inr rfl) (a7 ?_)
   · rw [bZ,List.length_map,List.length_map]; show min _ (pick _ _).length < _; rw [po.len]; omega
   · refine ⟨.d (.int ((nums c (List.replicate R 5040)).getD i 0)),.d (tbD (opts (stS (nums c (List.replicate R 5040)) C i).2)),.d (rwD (pick (stS (nums c (List.replicate R 5040)) C i).2 ((nums c (List.replicate R 5040)).getD i 0))),?_⟩
     have ez:(fT ((stS (nums c (List.replicate R 5040)) C i).2.map D.bl) ((pick (stS (nums c (List.replicate R 5040)) C i).2 ((nums c (List.replicate R 5040)).getD i 0)).map D.int)).length=C:=by rw [bZ,List.length_map,List.length_map,po.len,st.c,Nat.min_self]
     rw [stS]
     simp only [List.map_append,List.map_map]
     show [_,_,_,_,Sl.d (.lst ((List.range (fT ((stS (nums c (List.replicate R 5040)) C i).2.map D.bl) ((pick (stS (nums c (List.replicate R 5040)) C i).2 ((nums c (List.replicate R 5040)).getD i 0)).map D.int)).length).map _)),_,_,_]=_
     rw [ez]
     rfl
 · obtain ⟨s5,s6,s7,rfl⟩:=h
   refine gu 3 (bK (aa 3) ?_)
   rw [List.length_map,ln,(n8 c R C).1]
   rfl
end
end K52
namespace K52
open PySem PySem.Spec PyProof.Rows L2 Hy
inductive Tre where
 | lf (a b:Int) | nd (l r:Tre)
noncomputable def Tre.get:Tre->Nat->Nat->Bool->Int
 | .lf a b,_,_,s=>if s then b else a
 | .nd l r,j,n,s=>if n.testBit j then r.get (j + 1) n s else l.get (j + 1) n s
noncomputable def cm0 (z:Bool):Tre->Tre->Tre
 | .lf a b,.lf a' b'=>.lf (a + if z then a' else b') ((if z then a else b) + if z then a' else b')
 | .nd l r,.nd l' r'=>.nd (cm0 z l l') (cm0 z r r')
 | t,_=>t
noncomputable def cm1 (z:Bool):Tre->Tre
 | .lf a b=>.lf (a + if z then a else b) (if z then a else b)
 | .nd l r=>.nd (cm1 z l) (cm1 z r)
noncomputable def stp (z:Bool):Nat->Tre->Tre
 | 0,.nd l r=>.nd (cm0 z l r) (cm1 z r)
 | j + 1,.nd l r=>.nd (stp z j l) (stp z j r)
 | _,t=>t
inductive Dep:Nat->Tre->Prop where
 | lf {a b:Int}:Dep 0 (.lf a b)
 | nd {n:Nat} {l r:Tre}:Dep n l->Dep n r->Dep (n + 1) (.nd l r)
theorem get_or:∀ {d:Nat} {t:Tre} {i j n:Nat} {s:Bool},Dep d t->j < i->t.get i (n ||| 2 ^ j) s=t.get i n s
 | _,_,_,_,_,_,.lf,_=>rfl
 | _,_,i,j,n,s,.nd h1 h2,hj=>by
   rw [Tre.get,Tre.get,iY,decide_eq_false (by omega),Bool.or_false,get_or h1 (by omega),get_or h2 (by omega)]
theorem iB (z:Bool):∀ {d:Nat} {l r:Tre} {i n:Nat} {s:Bool},Dep d l->Dep d r->(cm0 z l r).get i n s=l.get i n (!z && s) + r.get i n (!z)
 | _,_,_,_,_,s,.lf,.lf=>by cases z <;> cases s <;> rfl
 | _,_,_,i,n,s,.nd h1 h2,.nd h3 h4=>by
   rw [cm0,Tre.get,Tre.get,Tre.get,iB z h1 h3,iB z h2 h4]
   split <;> rfl
theorem iJ (z:Bool):∀ {d:Nat} {r:Tre} {i n:Nat} {s:Bool},Dep d r->(cm1 z r).get i n s=(if s then 0 else r.get i n false) + r.get i n (!z)
 | _,_,_,_,s,.lf=>by cases z <;> cases s <;> simp [cm1,Tre.get]
 | _,_,i,n,s,.nd h1 h2=>by
   rw [cm1,Tre.get,Tre.get,Tre.get,iJ z h1,iJ z h2]
   split <;> rfl
theorem iu (z:Bool):∀ {d:Nat} {t:Tre} {i j n:Nat} {s:Bool},Dep d t->j < d->(stp z j t).get i n s=(if s && n.testBit (i + j) then 0 else t.get i n (!z && s)) + t.get i (n ||| 2 ^ (i + j)) (!z)
 | _,_,i,0,n,s,.nd (l:=l) (r:=r) h1 h2,_=>by
   simp only [Nat.add_zero]
   rw [stp,Tre.get,Tre.get,Tre.get,iY,decide_eq_true rfl,Bool.or_true,if_pos rfl,get_or h2 (by omega)]
   cases hb:n.testBit i with
   | true=>
     rw [if_pos rfl,if_pos rfl,iJ z h2]
     cases s <;> simp
   | false=>
     rw [if_neg Bool.false_ne_true,if_neg Bool.false_ne_true,iB z h1 h2]
     cases s <;> simp
 | _,_,i,j + 1,n,s,.nd (l:=l) (r:=r) h1 h2,hj=>by
   rw [stp,Tre.get,Tre.get,Tre.get,iY,decide_eq_false (by omega),Bool.or_false,iu z h1 (by omega),iu z h2 (by omega),show i + 1 + j=i + (j + 1) by omega]
   split <;> rfl
theorem iD (z:Bool):∀ {d:Nat} {l r:Tre},Dep d l->Dep d r->Dep d (cm0 z l r)
 | _,_,_,.lf,.lf=>.lf
 | _,_,_,.nd h1 h2,.nd h3 h4=>.nd (iD z h1 h3) (iD z h2 h4)
theorem i4 (z:Bool):∀ {d:Nat} {r:Tre},Dep d r->Dep d (cm1 z r)
 | _,_,.lf=>.lf
 | _,_,.nd h1 h2=>.nd (i4 z h1) (i4 z h2)
theorem iC (z:Bool):∀ {d:Nat} {t:Tre} {j:Nat},Dep d t->j < d->Dep d (stp z j t)
 | _,_,0,.nd h1 h2,_=>.nd (iD z h1 h2) (i4 z h2)
 | _,_,j + 1,.nd h1 h2,hj=>.nd (iC z h1 (by omega)) (iC z h2 (by omega))
noncomputable def ones:Nat->Tre
 | 0=>.lf 1 1
 | d + 1=>.nd (ones d) (ones d)
theorem gj:∀ d,Dep d (ones d)
 | 0=>.lf
 | d + 1=>.nd (gj d) (gj d)
theorem jz:∀ (d i n:Nat) (s:Bool),(ones d).get i n s=1
 | 0,_,_,s=>by cases s <;> rfl
 | d + 1,i,n,s=>by rw [ones,Tre.get,jz]; split <;> rfl
noncomputable def trs (R C:Nat):Nat->Tre
 | 0=>ones C
 | t + 1=>stp (decide (plc R C (t + 1) % C + 1=C)) (plc R C (t + 1) % C) (trs R C t)
theorem kS (R C:Nat) (hC:0 < C):∀ (t n:Nat) (s:Bool),Dep C (trs R C t)/\mfv R C t ((n:Int),s)=(trs R C t).get 0 n s
 | 0,n,s=>⟨gj C,(jz C 0 n s).symm⟩
 | t + 1,n,s=>by
   have hj:plc R C (t + 1) % C < C:=Nat.mod_lt _ hC
   have ih:=kS R C hC t
   have e0:nxs C (plc R C (t + 1)) n s 0=((n:Int),!decide (plc R C (t + 1) % C + 1=C) && s):=by
     unfold nxs
     rw [show (0:Int) * 2 ^ (plc R C (t + 1) % C)=((0:Nat):Int) by simp,rj,Nat.or_zero]
     congr 1
     by_cases h:plc R C (t + 1) % C + 1=C
     · rw [decide_eq_true h,decide_eq_false (by omega)]; rfl
     · rw [decide_eq_false h,decide_eq_true (by omega)]; simp
   have e1:nxs C (plc R C (t + 1)) n s 1=(((n ||| 2 ^ (plc R C (t + 1) % C):Nat):Int),!decide (plc R C (t + 1) % C + 1=C)):=by
     unfold nxs
     rw [show (1:Int) * 2 ^ (plc R C (t + 1) % C)=((2 ^ (plc R C (t + 1) % C):Nat):Int) by simp,rj]
     congr 1
     by_cases h:plc R C (t + 1) % C + 1=C
     · rw [decide_eq_true h,decide_eq_false (by omega)]; rfl
     · rw [decide_eq_false h,decide_eq_true (by omega)]; simp
   refine ⟨iC _ (ih n s).1 hj,?_⟩
   rw [mfv,trs,iu _ (ih n s).1 hj,Nat.zero_add]
   simp only
   rw [e0,e1,(ih _ _).2,(ih _ _).2]
   unfold dk
   simp only
   rw [qv]
theorem lx:∀ R,R < 8->1<=R->∀ C,C < 8->1<=C->(trs R C (R * C)).get 0 0 false=l4 R C:=by decide +kernel
end K52
namespace K52
open PySem PySem.Spec PyProof.Rows L2 Hy
open Ev (D Den aq aK a5 ah aC)
noncomputable def exM (P:Program) (w:World) (R C:Nat):Ex where
 p:=λK G o a=>∃ xs,o=dN P w a xs/\Good R C xs/\∀ x ∈ xs,di K G x.1 x.2.1
 mono:=λe ⟨xs,h1,h2,h3⟩=>⟨xs,h1,h2,λx hx=>bt e (h3 x hx)⟩
 ext:=λ⟨xs,h1,_⟩=>.inl ⟨_,h1⟩
theorem pB {K:PySem.W.Frag} {H:Hp} {vs:List V} {i j:Int} (h:aq K H vs [.int i,.int j]):vs=[.int i,.int j]:=by
 cases h with
 | cons d r=>cases r with
   | cons d' r=>cases r; cases d; cases d'; rfl
theorem mJ {K:PySem.W.Frag} {H:Hp} {v:V} {s:Int × Bool} (h:Den K H v (stD s)):∃ c,v=.ref c/\SqT K H c [.int s.1,.bl s.2]:=by
 unfold stD at h
 cases h with
 | tup h r=>cases r with
   | cons d r=>cases r with
     | cons d' r=>cases r; cases d; cases d'; exact ⟨_,rfl,h⟩
theorem nQ {K:PySem.W.Frag} {H:Hp} {v:V} {i j:Int} (h:Den K H v (.tup [.int i,.int j])):∃ c,v=.ref c/\SqT K H c [.int i,.int j]:=by
 cases h with
 | tup h r=>cases pB r; exact ⟨_,rfl,h⟩
structure Siz (R C:Nat):Prop where
 r1:1<=R
 r7:R<=7
 c1:1<=C
 c7:C<=7
theorem Siz.mul {R C:Nat} (h:Siz R C):R * C<=49:=Nat.mul_le_mul h.r7 h.c7
section
variable {P:Program} {w:World} {K:PySem.W.Frag} {R C t:Nat} {p:Int} {s:Int × Bool}
theorem pD (h:Siz R C) (ht:t + 1<=R * C) (hp:p=(plc R C (t + 1):Nat)) (hs:0<=s.1/\s.1 < 128):lW K (exM P w R C) (spE P w K 49) [.tup [.int R,.int C],.int p,stD s] (.int (mev R C t s)):=λM d o vs H Q E0 hM hd hx dd q=>by
 obtain ⟨xs,rfl,e2,e3⟩:=hx
 have:=h.mul
 cases dd with
 | cons d1 r=>cases r with
   | cons d2 r=>cases r with
     | cons d3 r=>
       cases r
       cases d2
       obtain ⟨b,rfl,hb⟩:=nQ d1
       obtain ⟨c,rfl,hc⟩:=mJ d3
       exact ⟨M,d,b,c,R,C,t,s,xs,p,rfl,hp,by omega,ht,⟨h.r1,h.r7,h.c1,h.c7⟩,hM,hb,hc,hs,⟨hd,e3⟩,e2,λH' xs' b1 hD hG=>q _ H' _ b1 hD.at_ ⟨xs',rfl,hG,hD.key⟩ .int⟩
theorem p6 (h:Siz R C) (ht:t<=R * C) (hp:p=(plc R C t:Nat)) (hs:0<=s.1/\s.1 < 128):lW K (exM P w R C) (spM P w K 49) [.tup [.int R,.int C],.int p,stD s] (.int (mfv R C t s)):=λM d o vs H Q E0 hM hd hx dd q=>by
 obtain ⟨xs,rfl,e2,e3⟩:=hx
 have:=h.mul
 cases dd with
 | cons d1 r=>cases r with
   | cons d2 r=>cases r with
     | cons d3 r=>
       cases r
       cases d2
       obtain ⟨b,rfl,hb⟩:=nQ d1
       obtain ⟨c,rfl,hc⟩:=mJ d3
       exact ⟨M,d,b,c,R,C,t,s,xs,p,rfl,hp,by omega,ht,⟨h.r1,h.r7,h.c1,h.c7⟩,hM,hb,hc,hs,⟨hd,e3⟩,e2,λH' xs' b1 hD hG=>q _ H' _ b1 hD.at_ ⟨xs',rfl,hG,hD.key⟩ .int⟩
end
noncomputable def Mk2 (K:PySem.W.Frag) (mg:Str->Option Value) (n:Str) (i:Int) (b:Bool):Prop:=∃ a,mg n=some (.ref a)/\∀ H,SqT K H a [.int i,.bl b]
theorem qt {X:Cx} {C:Bool} {τ:List Sl} {pos:Pos} {n:Str} {i:Int} {b:Bool} (h:Mk2 X.K X.mg n i b) (hg:Gl X n:=by rfl) (hd:(n == ("__debug__" : Str))=false:=by decide):PE X (.Name n pos) (dE X.K C τ (.d (stD (i,b)))):=by
 obtain ⟨a,hm,hb⟩:=h
 exact jC (iZ (v:=.ref a) hg hm rfl hd) λH=>.tup (hb H) (.cons .int (.cons .bl .nil))
theorem rL {X:Cx} {C:Bool} {τ:List Sl} {pos:Pos} {R Cc:Nat}:PE X (.Dict [] [] pos) (dE X.K C τ (.x (exM X.prog X.w R Cc))):=peW pW λσ H Q ⟨A,H₀,B,S,k⟩=>λp hp=>k (.ref p) _ [p] (ah hp _) (λb hb=>by rw [List.mem_singleton.mp hb]; exact ⟨hp,_,az⟩) ⟨p,_,rfl,rfl,az,[],rfl,⟨λ_ z=>(nomatch z),List.nodup_nil⟩,λ_ z=>nomatch z⟩
theorem nK {p C:Nat}:(p:Int).fmod (C:Int)=((p % C:Nat):Int):=by rw [Int.fmod_eq_emod_of_nonneg _ (by omega)]; rfl
section
variable {P:Program} {w:World} {K:PySem.W.Frag} {mg:Str->Option Value} {base:Heap} {k:Nat} {f:Addr} {fd:FuncData} {qual:Str}
end
noncomputable def rwN (r:List Int):Nd:=.l (r.map λx=>.d (.int x))
noncomputable def tbN (m:List (List Int)):Nd:=.l (m.map rwN)
noncomputable def qf (C p:Nat):Nat:=if p % C=0 then p / C else p / C + 1
theorem pL (C q:Nat) (g:List Int):tb C (q + 1) g=tb C q g++[(g.drop (q * C)).take C]:=by
 unfold tb
 rw [List.range_succ,List.map_append]
 rfl
theorem oJ {C p:Nat} {g:List Int} {m:Int} (hC:0 < C) (hg:g.length=p):tb C (p / C + 1) (g++[m])=(tb C (p / C + 1) g).set (p / C) (((tb C (p / C + 1) g).getD (p / C) [])++[m]):=by
 have ep:=dm' C p
 have hm:p % C < C:=Nat.mod_lt _ hC
 rw [kM (Nat.lt_succ_self _)]
 refine List.ext_getElem? λi=>?_
 rw [List.getElem?_set]
 simp only [tb,List.getElem?_map,List.length_map,List.length_range]
 by_cases e:p / C=i
 · subst e
   rw [if_pos rfl,if_pos (Nat.lt_succ_self _),List.getElem?_range (Nat.lt_succ_self _),Option.map_some]
   rw [List.drop_append_of_le_length (by omega),List.take_of_length_le (by rw [List.length_append,List.length_drop,List.length_singleton]; omega),List.take_of_length_le (by rw [List.length_drop]; omega)]
 · rw [if_neg e]
   by_cases hi:i < p / C + 1
   · rw [List.getElem?_range hi,Option.map_some,Option.map_some]
     have h1:(i + 1) * C<=p / C * C:=Nat.mul_le_mul_right C (by omega)
     rw [Nat.succ_mul] at h1
     rw [List.drop_append_of_le_length (by omega),List.take_append_of_le_length (by rw [List.length_drop]; omega)]
   · rw [List.getElem?_eq_none (by simpa using hi)]
     rfl
theorem pG {C p:Nat} (hC:0 < C):qf C (p + 1)=p / C + 1:=by
 have ep:=dm' C p
 have hm:p % C < C:=Nat.mod_lt _ hC
 unfold qf
 by_cases h:p % C + 1 < C
 · obtain ⟨q1,q2⟩:=dm (q:=p / C) h
   rw [show p / C * C + (p % C + 1)=p + 1 by omega] at q1 q2
   rw [q1,q2,if_neg (by omega)]
 · have e:p + 1=(p / C + 1) * C + 0:=by rw [Nat.succ_mul]; omega
   obtain ⟨q1,q2⟩:=dm (q:=p / C + 1) hC
   rw [<- e] at q1 q2
   rw [q1,q2,if_pos rfl]
theorem oU {n:Nat}:ixN (n + 1) (-1)=some n:=by
 unfold ixN
 simp
 omega
noncomputable def bC (P:Program) (w:World) (E:Ex) (ds:List D) (r:Sl):Prop:=∃ (R C:Nat) (n:Int),E=exM P w R C/\ds=[.tup [.int R,.int C],.int n]/\Siz R C/\r=.n (tbN (tb C R (aZ R C (R * C) (0,false) n)))
section
variable {P:Program} {w:World} {K:PySem.W.Frag} {mg:Str->Option Value} {base:Heap} {k:Nat} {f:Addr} {fd:FuncData} {qual:Str}
theorem fj (F:Fun K "staircase_at" qual (top 33) f fd) (hb:∀ x ∈ aA,mg x=none) (y_BEG:Mk2 K mg "BEGINNING" 0 false) (c_me:eB P w K mg base k "many_with_empty" (spE P w K 49)) (c_next_state:Cal P w K mg base k "next_state" aL):aP P w K mg base CX0 (k + 1) f fd ["known","shape","number"] (spL K (bC P w)):=by
 refine fnL 3 F cC hb (by rintro _ _ _ ⟨_,_,_,_,rfl,_⟩; rfl) rfl (λ_ _ _ _ _ _=>a9 rfl (.inl rfl) (by decide) (by decide)) ?_
 rintro _ _ _ ⟨R,C,n0,rfl,rfl,h,rfl⟩ d cdv A outer s H E b
 have nd:=cC.nd
 obtain ⟨h1,h7,c1,c7⟩:=h
 have h:Siz R C:=⟨h1,h7,c1,c7⟩
 have m49:=h.mul
 have eRC:(R:Int) * (C:Int)=((R * C:Nat):Int):=by rw [Int.natCast_mul]
 refine aF 3 nd (aW ar) ?_
 refine ui 3 ?_
 refine aF 4 nd (qt y_BEG) ?_
 refine aF 5 nd (aa 2) ?_
 refine cS 6 (λp τ=>∃ s6 s7 s8 g st l,τ=[.x (dH (exM P w R C) d),.d (.tup [.int R,.int C]),.d (.int n0),.n (tbN (tb C (qf C p) g)),.d (stD st),.d (.int l),s6,s7,s8]/\(0<=st.1/\st.1 < 128)/\g.length=p/\aZ R C (R * C) (0,false) n0=g++aZ R C (R * C - p) st l) b nd (de b (aH (bg (aa 1) aj (fH (aO (i:=0) rfl))) (bg (aa 1) aj (fH (aO (i:=1) rfl))) (b8 (mkL (by omega)))) (by omega) (by omega)) cF ⟨.un,.un,.un,[],(0,false),n0,?_,⟨by decide,by decide⟩,rfl,rfl⟩ (λp hp τ hτ=>?_) λτ hτ=>?_
 · have:qf C 0=0:=by unfold qf; simp
   rw [this]
   rfl
 · obtain ⟨s6,s7,s8,g,st,l,rfl,hst,hg,hdec⟩:=hτ
   have hp:p < R * C:=by rw [ax] at hp; omega
   have hm:p % C < C:=Nat.mod_lt _ c1
   have hd:p / C < R:=by rw [Nat.div_lt_iff_lt_mul c1]; exact hp
   have ep:=dm' C p
   obtain ⟨t,et⟩:∃ t,R * C - p=t + 1:=⟨R * C - p - 1,by omega⟩
   have epl:plc R C (t + 1)=p:=by unfold plc; omega
   have et':R * C - (p + 1)=t:=by omega
   rw [et] at hdec
   refine nc (M:=λτ=>τ=[.x (dH (exM P w R C) d),.d (.tup [.int R,.int C]),.d (.int n0),.n (tbN (tb C (p / C + 1) g)),.d (stD st),.d (.int l),.d (.int (p:Nat)),s7,s8]) (bo (aH (aa 6) (bg (aa 1) aj (fH (aO (i:=1) rfl))) (dZ (by omega))) aj p7) (λhc=>?_) (λhc=>?_) λτ hτ=>?_
   · have hc:=of_decide_eq_true hc
     rw [nK] at hc
     have hc:p % C=0:=by omega
     refine mC (pt:=[]) (i:=3) (jW 3) (aW ar) rfl rfl rfl ?_ (a7 ?_)
     · rw [List.length_map,bW]; unfold qf; rw [if_pos hc]; omega
     · show [_,_,_,Sl.n (.l ((tb C (qf C p) g).map rwN++[Nd.l []])),_,_,_,_,_]=_
       unfold qf
       rw [if_pos hc,pL,List.drop_of_length_le (by omega),List.take_nil]
       unfold tbN
       rw [List.map_append]
       rfl
   · have hc:=of_decide_eq_false hc
     rw [nK] at hc
     have hc:¬ p % C=0:=by omega
     refine a7 ?_
     unfold qf
     rw [if_neg hc]
     rfl
   subst hτ
   refine mX 7 nd (mF 0 b c_me ((pD h (t:=t) (p:=(p:Int)) (s:=st) (by omega) (by rw [epl]) hst).pin d) rfl (ae (aa 1) (ae (aa 6) (ae (aa 4) ar)))) ?_
   obtain ⟨m,hm01,hmd,hme⟩:∃ m:Int,(m=0\/m=1)/\aZ R C (t + 1) st l=m :: aZ R C t (nxs C p st.1 st.2 m) (l - mev R C t st * m)/\m=(if l < mev R C t st then 0 else 1):=by
     rw [aZ,epl]
     by_cases z:l < mev R C t st
     · exact ⟨0,.inl rfl,by rw [if_pos z,Int.mul_zero,Int.sub_zero],by rw [if_pos z]⟩
     · exact ⟨1,.inr rfl,by rw [if_neg z,Int.mul_one],by rw [if_neg z]⟩
   refine aF 8 nd (tm (s:=.d (.int m)) (bo (aa 5) (aa 7) qR) (λz=>?_) λz=>?_) ?_
   · rw [hme,if_pos (of_decide_eq_true z)]; exact aj
   · rw [hme,if_neg (of_decide_eq_false z)]; exact aj
   refine aF 5 nd (aH (aa 5) (aH (aa 7) (aa 8) (b8 (mkR (by omega)))) qB) ?_
   have lq:((tb C (p / C + 1) g).map rwN).length=p / C + 1:=by rw [List.length_map,bW]
   have lastAt:((tb C (p / C + 1) g).map rwN)[p / C]?=some (rwN ((tb C (p / C + 1) g).getD (p / C) [])):=by
     rw [List.getElem?_map,List.getElem?_eq_getElem (by rw [bW]; omega)]
     simp [(by rw [bW]; omega:p / C < (tb C (p / C + 1) g).length)]
   refine mC (pt:=[p / C]) (i:=3) (t:=tbN (tb C (p / C + 1) g)) (xs:=((tb C (p / C + 1) g).getD (p / C) []).map λx=>.d (.int x)) (sx (jW 3) (ti aj) rfl rfl (by rw [lq]; exact oU)) (aa 8) rfl ?_ rfl ?_ ?_
   · unfold tbN bG
     rw [lastAt]
     rfl
   · rw [List.length_map,kM (Nat.lt_succ_self _),List.length_take]; omega
   refine aF 4 nd (x_call b c_next_state (ae (aa 1) (ae (aa 6) (ae (aa 4) (ae (aa 8) ar)))) ⟨R,C,p,st,m,rfl,c1,c7,by omega,by omega,rfl⟩) (a7 ⟨.d (.int (p:Nat)),.d (.int (mev R C t st)),.d (.int m),g++[m],nxs C p st.1 st.2 m,l - mev R C t st * m,?_,jQ C p st _ c1 c7 hst.1 hst.2 (by omega) (by omega),by rw [List.length_append,hg]; rfl,by rw [hdec,et',hmd,List.append_assoc]; rfl⟩)
   have et:bh [p / C] (tbN (tb C (p / C + 1) g)) (.l ((((tb C (p / C + 1) g).getD (p / C) []).map λx=>.d (.int x))++[.d (.int m)]))=tbN (tb C (qf C (p + 1)) (g++[m])):=by
     rw [pG c1,oJ c1 hg]
     unfold tbN bh
     rw [List.map_set]
     congr 2
     unfold rwN
     rw [bh,List.map_append]
     rfl
   rw [et]
   rfl
 · obtain ⟨s6,s7,s8,g,st,l,rfl,hst,hg,hdec⟩:=hτ
   refine a7 ⟨rfl,?_⟩
   rw [ax,eRC,Int.toNat_natCast] at hg hdec ⊢
   rw [Nat.sub_self,aZ,List.append_nil] at hdec
   have:qf C (R * C)=R:=by unfold qf; rw [Nat.mul_mod_left,if_pos rfl,Nat.mul_div_cancel _ c1]
   rw [this,hdec]
   rfl
end
end K52
namespace K52
open PySem PySem.Spec PyProof.Rows L2 Hy
open Ev (D Den aq aK a5)
noncomputable def cx (ds:List D) (r:Sl):Prop:=∃ (R C:Nat) (f:List Int),ds=[tbD (tb C R f),.int R,.int C]/\Tb R C f/\r=.d (.bl true)
mutual
theorem bJ:∀ x:D,Ev.eqD x x=true
 | .non=>by rw [Ev.eqD]
 | .bl a=>by simp [Ev.eqD]
 | .int a=>by simp [Ev.eqD]
 | .str a=>by simp [Ev.eqD]
 | .tup xs=>by rw [Ev.eqD]; exact eK xs
 | .lst xs=>by rw [Ev.eqD]; exact eK xs
 | .box x=>by rw [Ev.eqD]
theorem eK:∀ xs:List D,Ev.d9 xs xs=true
 | []=>by rw [Ev.d9]
 | x :: xs=>by rw [Ev.d9,bJ x,eK xs]; rfl
end
theorem i6:∀ r:List Int,Ev.bO (r.map D.int)=true/\Ev.bX (r.map D.int)=0
 | []=>by simp [Ev.bO,Ev.bX]
 | x :: r=>by
   obtain ⟨h1,h2⟩:=i6 r
   rw [List.map_cons,Ev.bO,Ev.bX,Ev.cln,Ev.dep,h1,h2]
   exact ⟨rfl,rfl⟩
theorem gi:∀ m:List (List Int),Ev.bO (m.map rwD)=true/\Ev.bX (m.map rwD)<=1
 | []=>by simp [Ev.bO,Ev.bX]
 | r :: m=>by
   obtain ⟨h1,h2⟩:=gi m
   obtain ⟨h3,h4⟩:=i6 r
   rw [List.map_cons,Ev.bO,Ev.bX,h1,show rwD r=.lst (r.map .int) from rfl,Ev.cln,Ev.dep,h3,h4]
   exact ⟨rfl,by omega⟩
theorem kU (m:List (List Int)):Ev.bM (tbD m):=by
 obtain ⟨h1,h2⟩:=gi m
 unfold tbD Ev.bM
 rw [Ev.cln,Ev.dep,h1]
 exact ⟨rfl,by omega⟩
theorem mv:∀ r:List Int,eO (r.map λx=>.d (.int x))=r.map D.int
 | []=>rfl
 | x :: r=>by rw [List.map_cons,eO,ndD,mv r]; rfl
theorem k7:∀ m:List (List Int),eO (m.map rwN)=m.map rwD
 | []=>rfl
 | r :: m=>by rw [List.map_cons,eO,rwN,ndD,mv,k7 m]; rfl
theorem tD (m:List (List Int)):ndD (tbN m)=tbD m:=by
 unfold tbN tbD
 rw [ndD,k7]
theorem pY (n:Nat) (f:Nat->Bool) (h:∀ i,i < n->f i=true):((List.range n).map f).all id=true:=by
 rw [List.all_map,List.all_eq_true]
 intro i hi
 exact h i (List.mem_range.mp hi)
theorem getD_at {xs:List Int} {j:Nat} (h:j < xs.length):xs.getD j 0=xs[j]:=by simp [h]
theorem Tb.dec {R C:Nat} {n:Int} (h:Siz R C) (h0:0<=n) (h1:n < mfv R C (R * C) (0,false)):Tb R C (aZ R C (R * C) (0,false) n):=⟨h.r1,h.r7,h.c1,h.c7,kh R C _ _ _,(jO R C _ _ n h0 h1).1⟩
theorem l7 {a b:Int} (h:a ≠ b):Ev.eqD (.int a) (.int b)=false:=by simp [Ev.eqD,h]
theorem iP:∀ {xs ys:List D} {j:Nat} {x y:D},xs[j]?=some x->ys[j]?=some y->Ev.eqD x y=false->Ev.d9 xs ys=false
 | a :: xs,b :: ys,0,x,y,h1,h2,h=>by cases h1; cases h2; rw [Ev.d9,h]; rfl
 | a :: xs,b :: ys,j + 1,x,y,h1,h2,h=>by rw [Ev.d9,iP (xs:=xs) (ys:=ys) (j:=j) h1 h2 h,Bool.and_false]
theorem rQ {r r':List Int} {j:Nat} (h1:j < r.length) (h2:j < r'.length) (he:∀ m,m < j->r.getD m 0=r'.getD m 0) (hn:r.getD j 0 < r'.getD j 0):Lc.LtW (rwD r) (rwD r')/\Ev.eqD (rwD r) (rwD r')=false/\Ev.eqD (rwD r') (rwD r)=false:=by
 have g1:∀ {r:List Int} {m:Nat},m < r.length->(r.map D.int)[m]?=some (.int (r.getD m 0)):=λ{r m} h=>by simp [h]
 have n1:Ev.eqD (.int (r.getD j 0)) (.int (r'.getD j 0))=false:=l7 (by omega)
 have n2:Ev.eqD (.int (r'.getD j 0)) (.int (r.getD j 0))=false:=l7 (by omega)
 refine ⟨.lst (g1 h1) (g1 h2) (λm hm=>⟨_,_,g1 (by omega),g1 (by omega),?_,?_⟩) n1 n2 (.int hn),?_,?_⟩
 · rw [he m hm]; exact bJ _
 · rw [he m hm]; exact bJ _
 · unfold rwD; rw [Ev.eqD]; exact iP (g1 h1) (g1 h2) n1
 · unfold rwD; rw [Ev.eqD]; exact iP (g1 h2) (g1 h1) n2
theorem pw {R C:Nat} {n n':Int} (h:Siz R C) (h0:0<=n) (h1:n < n') (h2:n' < mfv R C (R * C) (0,false)):Lc.LtW (tbD (tb C R (aZ R C (R * C) (0,false) n))) (tbD (tb C R (aZ R C (R * C) (0,false) n'))):=by
 have T:=Tb.dec h h0 (by omega:n < _)
 have T':=Tb.dec h (by omega:0<=n') h2
 obtain ⟨p,q1,q2,q3,q4⟩:=dec_lt R C (R * C) (0,false) n n' h0 h1 h2
 have c1:=h.c1
 have ep:=dm' C p
 have hj:p % C < C:=Nat.mod_lt _ c1
 have hi:p / C < R:=by rw [Nat.div_lt_iff_lt_mul c1]; exact q1
 have at_:∀ {g:List Int} {i:Nat},i < R->((tb C R g).map rwD)[i]?=some (rwD ((tb C R g).getD i [])):=λ{g i} hi=>by simp [hi,bW]
 have eqr:∀ i,i < p / C->(tb C R (aZ R C (R * C) (0,false) n)).getD i []=(tb C R (aZ R C (R * C) (0,false) n')).getD i []:=λi hi'=>by
   refine List.ext_getElem (by rw [T.gw (by omega),T'.gw (by omega)]) λj h1 h2=>?_
   have hjC:j < C:=by rw [T.gw (by omega)] at h1; exact h1
   have hle:(i + 1) * C<=p / C * C:=Nat.mul_le_mul_right C hi'
   rw [Nat.succ_mul] at hle
   have:=q2 (i * C + j) (by omega)
   rw [<- bD (q:=R) (by omega) hjC,<- bD (q:=R) (by omega) hjC] at this
   rw [<- getD_at h1,<- getD_at h2]
   exact this
 obtain ⟨w1,w2,w3⟩:=rQ (r:=(tb C R (aZ R C (R * C) (0,false) n)).getD (p / C) []) (r':=(tb C R (aZ R C (R * C) (0,false) n')).getD (p / C) []) (j:=p % C) (by rw [T.gw hi]; exact hj) (by rw [T'.gw hi]; exact hj) (λm hm=>by rw [bD hi (by omega),bD hi (by omega)]; exact q2 _ (by omega)) (by rw [bD hi hj,bD hi hj,<- ep,q3,q4]; decide)
 exact .lst (at_ hi) (at_ hi) (λm hm=>⟨_,_,at_ (by omega),at_ (by omega),by rw [eqr m hm]; exact bJ _,by rw [eqr m hm]; exact bJ _⟩) w2 w3 w1
theorem l9:∀ r:List Int,cD (r.map λx=>.d (.int x))=true
 | []=>rfl
 | x :: r=>by rw [List.map_cons,cD,fP,l9 r]; rfl
theorem kH:∀ m:List (List Int),cD (m.map rwN)=true
 | []=>rfl
 | r :: m=>by rw [List.map_cons,cD,rwN,fP,l9,kH m]; rfl
section
variable {P:Program} {w:World} {K:PySem.W.Frag} {mg:Str->Option Value} {base:Heap} {k:Nat} {f:Addr} {fd:FuncData} {qual:Str}
theorem gB (F:Fun K "_law_is_marks" qual (top 44) f fd) (hb:∀ x ∈ aA,mg x=none) (c_l_is_stairs:Cal P w K mg base k "_law_is_stairs" bU) (c_l_whole:Cal P w K mg base k "_law_whole" eH):aP P w K mg base CX0 (k + 1) f fd ["_law_found","_law_rows","_law_columns"] (spD K cx):=by
 refine fnD F c8 hb (by rintro _ _ ⟨_,_,_,rfl,_⟩; rfl) ?_
 rintro _ _ ⟨R,C,g,rfl,h,rfl⟩ cdv A outer s H E b
 have nd:=c8.nd
 have lm:=bW C R g
 have h1:=h.r1
 have h7:=h.r7
 have c7:=h.c7
 have lt:((tb C R g).map rwD).length=R:=by rw [List.length_map,lm]
 refine er (PW.pt (lF (df (cQ (fF .list b (aa 0)))) λ_=>(gX (bo (eJ b (ae (aa 0) ar) d0) (aa 1) oD)))) ?_ ?_
 · rw [lt,decide_eq_true rfl]; rfl
 refine cS 3 (g:=λi=>rwD ((tb C R g).getD i [])) (λi τ=>∃ s3,τ=[.d (tbD (tb C R g)),.d (.int R),.d (.int C),s3]) b nd (bV (aa 0)) mQ ⟨_,rfl⟩ (λi hi τ hτ=>?_) λτ hτ=>?_
 · obtain ⟨s3,rfl⟩:=hτ
   have hi:i < R:=by rw [lt] at hi; exact hi
   have lr:(((tb C R g).getD i []).map D.int).length=C:=by rw [List.length_map,h.gw hi]
   refine er (PW.pt (lF (df (cQ (fF .list b (aa 3)))) λ_=>(gX (bo (eJ b (ae (aa 3) ar) d0) (aa 2) oD)))) ?_ ?_
   · rw [lr,decide_eq_true rfl]; rfl
   refine er (df (cQ (eJ b (ae (a6 (mj (cmp 0 (f:=λj=>.bl (whw (.int (((tb C R g).getD i []).getD j 0)) && (decide ((0:Int)<=((tb C R g).getD i []).getD j 0) && decide (((tb C R g).getD i []).getD j 0<=1)))) b (bV (aa 3)) nA (by rw [lr]; omega) λj hj s0 H0 fp=>(gM (x_call (b.comp s0 H0 _ fp) c_l_whole (ae (aa 0) ar) ⟨_,rfl,rfl⟩) λ_=>(fK (kJ aj (aa 0) aj oF oF).1))))) ar) (sD b.calm ((List.range C).map λj=>(whw (.int (((tb C R g).getD i []).getD j 0)) && (decide ((0:Int)<=((tb C R g).getD i []).getD j 0) && decide (((tb C R g).getD i []).getD j 0<=1)))) (by rw [lr,List.map_map]; rfl))))) ?_ (a7 ⟨_,rfl⟩)
   rw [pY C _ λj hj=>?_]
   · rfl
   · rw [bD hi hj]
     rcases h.bit hi hj with z | z <;> rw [z] <;> rfl
 · obtain ⟨s3,rfl⟩:=hτ
   refine bK (x_call b c_l_is_stairs (ae (aa 0) ar) ⟨C,tb C R g,rfl,by omega,by omega,c7,λi hi=>h.gw (by omega),rfl⟩) ?_
   rw [h.cw]
end
structure Cls (K:PySem.W.Frag) (mg:Str->Option Value) (cl:Nat->Addr) (cs:List Nat):Prop where
 lt:∀ c ∈ cs,c < 19
 ex:∃ S,mg "SmoothError" = some (.ref S)/\∀ c ∈ cs,Hx.rz K (cl c) S/\PySem.W.exmOne K (.ref (cl c)) (.ref S)=some true
 nm:∀ c,c < 19->mg (wordOf c)=some (.ref (cl c))
 kit:∀ c ∈ cs,∀ i,i < 19->PySem.W.kitOne K (.ref (cl c)) (.ref (cl i))=some (decide (c=i))
 val:∀ c ∈ cs,PySem.W.kitOne K (.ref (cl c)) (.type "ValueError")=some true
 vn:mg "ValueError" = none
theorem tH {c:Nat} (h:c < 19):((List.range 19).filter λi=>decide (c=i)).map (λi=>D.str (wordOf i))=[.str (wordOf c)]:=by
 rcases (by omega:c=0\/c=1\/c=2\/c=3\/c=4\/c=5\/c=6\/c=7\/c=8\/c=9\/c=10\/c=11\/c=12\/c=13\/c=14\/c=15\/c=16\/c=17\/c=18) with rfl | rfl | rfl | rfl | rfl | rfl | rfl | rfl | rfl | rfl | rfl | rfl | rfl | rfl | rfl | rfl | rfl | rfl | rfl <;> rfl
noncomputable def nmD (c:Nat):List D:=[D.bl (decide (c=0)),D.bl (decide (c=1)),D.bl (decide (c=2)),D.bl (decide (c=3)),D.bl (decide (c=4)),D.bl (decide (c=5)),D.bl (decide (c=6)),D.bl (decide (c=7)),D.bl (decide (c=8)),D.bl (decide (c=9)),D.bl (decide (c=10)),D.bl (decide (c=11)),D.bl (decide (c=12)),D.bl (decide (c=13)),D.bl (decide (c=14)),D.bl (decide (c=15)),D.bl (decide (c=16)),D.bl (decide (c=17)),D.bl (decide (c=18))]
theorem uz {c i:Nat} (h:i < 19):(nmD c)[i]?=some (D.bl (decide (c=i))):=by
 rcases (by omega:i=0\/i=1\/i=2\/i=3\/i=4\/i=5\/i=6\/i=7\/i=8\/i=9\/i=10\/i=11\/i=12\/i=13\/i=14\/i=15\/i=16\/i=17\/i=18) with rfl | rfl | rfl | rfl | rfl | rfl | rfl | rfl | rfl | rfl | rfl | rfl | rfl | rfl | rfl | rfl | rfl | rfl | rfl <;> rfl
noncomputable def wdD:List D:=[D.str "NoFraction",D.str "NoTable",D.str "NoChoice",D.str "NoSquare",D.str "NoFit",D.str "NoUndoing",D.str "NoLadder",D.str "TooMany",D.str "NoPaper",D.str "NoRow",D.str "NoStairs",D.str "NoNumber",D.str "NoCorner",D.str "NoName",D.str "NoStep",D.str "NoWeight",D.str "NoDeed",D.str "NoText",D.str "NoWord"]
theorem uP {i:Nat} (h:i < 19):wdD[i]?=some (D.str (wordOf i)):=by
 rcases (by omega:i=0\/i=1\/i=2\/i=3\/i=4\/i=5\/i=6\/i=7\/i=8\/i=9\/i=10\/i=11\/i=12\/i=13\/i=14\/i=15\/i=16\/i=17\/i=18) with rfl | rfl | rfl | rfl | rfl | rfl | rfl | rfl | rfl | rfl | rfl | rfl | rfl | rfl | rfl | rfl | rfl | rfl | rfl <;> rfl
section
variable {P:Program} {w:World} {K:PySem.W.Frag} {mg:Str->Option Value} {base:Heap} {k:Nat} {f:Addr} {fd:FuncData} {qual:Str}
set_option maxHeartbeats 2000000 in
theorem lb {cl:Nat->Addr} {cs:List Nat} {c:Nat} (F:Fun K "_law_word" qual (top 41) f fd) (hb:∀ x ∈ aA,mg x=none) (hbind:Binds K fd ["_law_e"] []) (Z:Cls K mg cl cs) (hc:c ∈ cs):cf P w K mg base cl (k + 1) f c:=by
 refine fnW F gK hbind λcdv A outer s H ck=>?_
 have nd:=gK.nd
 have lt:=Z.lt c hc
 obtain ⟨S,hS,hx⟩:=Z.ex
 have O:Hx.bT K (cl c):=(hx c hc).1.at_
 have hbi:mg "isinstance" = none:=hb _ (by decide)
 have m0:mg "NoFraction" = some (.ref (cl 0)):=Z.nm 0 (by decide)
 have m1:mg "NoTable" = some (.ref (cl 1)):=Z.nm 1 (by decide)
 have m2:mg "NoChoice" = some (.ref (cl 2)):=Z.nm 2 (by decide)
 have m3:mg "NoSquare" = some (.ref (cl 3)):=Z.nm 3 (by decide)
 have m4:mg "NoFit" = some (.ref (cl 4)):=Z.nm 4 (by decide)
 have m5:mg "NoUndoing" = some (.ref (cl 5)):=Z.nm 5 (by decide)
 have m6:mg "NoLadder" = some (.ref (cl 6)):=Z.nm 6 (by decide)
 have m7:mg "TooMany" = some (.ref (cl 7)):=Z.nm 7 (by decide)
 have m8:mg "NoPaper" = some (.ref (cl 8)):=Z.nm 8 (by decide)
 have m9:mg "NoRow" = some (.ref (cl 9)):=Z.nm 9 (by decide)
 have m10:mg "NoStairs" = some (.ref (cl 10)):=Z.nm 10 (by decide)
 have m11:mg "NoNumber" = some (.ref (cl 11)):=Z.nm 11 (by decide)
 have m12:mg "NoCorner" = some (.ref (cl 12)):=Z.nm 12 (by decide)
 have m13:mg "NoName" = some (.ref (cl 13)):=Z.nm 13 (by decide)
 have m14:mg "NoStep" = some (.ref (cl 14)):=Z.nm 14 (by decide)
 have m15:mg "NoWeight" = some (.ref (cl 15)):=Z.nm 15 (by decide)
 have m16:mg "NoDeed" = some (.ref (cl 16)):=Z.nm 16 (by decide)
 have m17:mg "NoText" = some (.ref (cl 17)):=Z.nm 17 (by decide)
 have m18:mg "NoWord" = some (.ref (cl 18)):=Z.nm 18 (by decide)
 have kt:=Z.kit c hc
 refine aF 1 nd (aW (ae (bf 0 m0 O (kt 0 (by decide)) hbi) (ae (bf 0 m1 O (kt 1 (by decide)) hbi) (ae (bf 0 m2 O (kt 2 (by decide)) hbi) (ae (bf 0 m3 O (kt 3 (by decide)) hbi) ar))))) (gu 1 ?_)
 refine aF 1 nd (cG (aa 1) (a6 (aW (ae (bf 0 m4 O (kt 4 (by decide)) hbi) (ae (bf 0 m5 O (kt 5 (by decide)) hbi) (ae (bf 0 m6 O (kt 6 (by decide)) hbi) (ae (bf 0 m7 O (kt 7 (by decide)) hbi) ar)))))) (by show (4:Nat) + 4 < 1000000; decide)) (gu 1 ?_)
 refine aF 1 nd (cG (aa 1) (a6 (aW (ae (bf 0 m8 O (kt 8 (by decide)) hbi) (ae (bf 0 m9 O (kt 9 (by decide)) hbi) (ae (bf 0 m10 O (kt 10 (by decide)) hbi) (ae (bf 0 m11 O (kt 11 (by decide)) hbi) ar)))))) (by show (8:Nat) + 4 < 1000000; decide)) (gu 1 ?_)
 refine aF 1 nd (cG (aa 1) (a6 (aW (ae (bf 0 m12 O (kt 12 (by decide)) hbi) (ae (bf 0 m13 O (kt 13 (by decide)) hbi) (ae (bf 0 m14 O (kt 14 (by decide)) hbi) (ae (bf 0 m15 O (kt 15 (by decide)) hbi) ar)))))) (by show (12:Nat) + 4 < 1000000; decide)) (gu 1 ?_)
 refine aF 1 nd (cG (aa 1) (a6 (aW (ae (bf 0 m16 O (kt 16 (by decide)) hbi) (ae (bf 0 m17 O (kt 17 (by decide)) hbi) (ae (bf 0 m18 O (kt 18 (by decide)) hbi) ar))))) (by show (16:Nat) + 3 < 1000000; decide)) (gu 1 ?_)
 show PSs _ _ (dS K [.x (exX cl c),.d (.lst (nmD c)),.un,.un] _)
 refine aF 2 nd (aW (ae ba (ae ba (ae ba (ae ba (ae ba (ae ba (ae ba (ae ba (ae ba ar)))))))))) (gu 2 ?_)
 refine aF 2 nd (cG (aa 2) (a6 (aW (ae ba (ae ba (ae ba (ae ba (ae ba (ae ba (ae ba (ae ba (ae ba ar))))))))))) (by decide)) ?_
 refine gJ 2 ba ?_ (gu 2 ?_)
 · show (18:Nat) < 1000000
   decide
 show PSs _ _ (dS K [.x (exX cl c),.d (.lst (nmD c)),.d (.lst wdD),.un] _)
 refine iV 3 nd (s:=.d (.lst [.str (wordOf c)])) (qM 0 (t:=λi=>decide (c=i)) (f:=λi=>.str (wordOf i)) (rP ck (hb _ (by decide)) aj (by decide) (by decide)) cF (by rw [ax]; decide) (λi hi s0 H0 fp=>cQ (bg (aa 1) (aa 0) (a0 (aO (uz (by rw [ax] at hi; exact hi)))))) λi hi _ s0 H0 fp=>bg (aa 2) (aa 0) (a0 (aO (uP (by rw [ax] at hi; exact hi))))) (.inr ?_) ?_
 · rw [ax]
   exact congrArg (λl=>Sl.d (D.lst l)) (tH lt).symm
 show PSs _ _ (dS K [.x (exX cl c),.d (.lst (nmD c)),.d (.lst wdD),.d (.lst [.str (wordOf c)])] _)
 refine er (PW.pt (lF (bo (qU (hb _ (by decide)) (aa 3)) aj oD) λh=>(gX (df (cQ (sE 0 Z.vn (by decide +kernel) O (Z.val c hc) hbi)))))) rfl ?_
 exact bK (bg (aa 3) aj (a0 (aO (i:=0) rfl))) rfl
end
end K52
namespace K52
open PySem PySem.Spec PyProof.Rows L2 Hy
open Ev (D Den aq aK a5)
open PySem.W (nsIn subIn findIn mroIn specialIn takesIn)
noncomputable def oZ (K:PySem.W.Frag) (SM:Addr):Prop:=∃ dd cd sl oN,K.lookup SM=some ⟨.type "type",dd,.cls cd,sl⟩/\K.lookup cd.ns=some oN/\Hx.nsO oN=true/\nsIn K cd.ns "__init__" = some none/\subIn K (.ref SM) (.type "BaseException")=some true
theorem oZ.of {K:PySem.W.Frag} {SM:Addr} {dd:Option Addr} {cd:ClassData} {sl:Array (Option Value)} {oN:Obj} (a:K.lookup SM=some ⟨.type "type",dd,.cls cd,sl⟩) (b:K.lookup cd.ns=some oN) (c:Hx.nsO oN=true) (d:nsIn K cd.ns "__init__" = some none) (e:subIn K (.ref SM) (.type "BaseException")=some true):oZ K SM:=⟨_,_,_,_,a,b,c,d,e⟩
structure oV (K:PySem.W.Frag) (SM C:Addr):Prop where
 obj:∃ nm q N bs hdct sn sub ab col dd k0 k1 k2 k3 k5 oN,K.lookup C=some (excClassObj nm q C N bs (.ref SM :: Hx.bmV) hdct sn sub ab col dd k0 k1 k2 k3 k5 "ValueError.__new__")/\K.lookup N=some oN/\Hx.nsO oN=true/\nsIn K N "__init__" = some none
 ga:findIn K (.ref C) "__getattribute__" = some (some (.builtin "BaseException.__getattribute__"))
 gb:findIn K (.ref C) "__getattr__" = some none
 gc:findIn K (.ref C) "__class__" = some (some (.builtin "object.__class__"))
 gd:mroIn K C (.type "object")=some true
 ge:mroIn K C (.type "BaseException")=some true
 sS:subIn K (.ref C) (.ref SM)=some true
 nx:(Value.ref C == Value.ref SM)=false
 sV:subIn K (.ref C) (.type "ValueError")=some true
theorem oV.of {K:PySem.W.Frag} {SM C N:Addr} {nm qn:Str} {bs sub:List Value} {hd ab:Bool} {sn:List Str} {col:Option Bool} {dd:Option Addr} {ka kb kc kd ke:Option Value} {oN:Obj} (w:K.lookup C=some (excClassObj nm qn C N bs (.ref SM :: Hx.bmV) hd sn sub ab col dd ka kb kc kd ke "ValueError.__new__")) (v:K.lookup N=some oN) (o:Hx.nsO oN=true) (i:nsIn K N "__init__" = some none)
   (ga:findIn K (.ref C) "__getattribute__" = some (some (.builtin "BaseException.__getattribute__"))) (gb:findIn K (.ref C) "__getattr__" = some none) (gc:findIn K (.ref C) "__class__" = some (some (.builtin "object.__class__"))) (gd:mroIn K C (.type "object")=some true) (ge:mroIn K C (.type "BaseException")=some true)
   (sS:subIn K (.ref C) (.ref SM)=some true) (nx:(Value.ref C == Value.ref SM)=false) (sV:subIn K (.ref C) (.type "ValueError")=some true):oV K SM C:=⟨⟨_,_,_,_,_,_,_,_,_,_,_,_,_,_,_,_,w,v,o,i⟩,ga,gb,gc,gd,ge,sS,nx,sV⟩
noncomputable def sF (K:PySem.W.Frag) (C:Addr):Prop:=∃ dd cd sl,K.lookup C=some ⟨.type "type",dd,.cls cd,sl⟩
inductive Tys (K:PySem.W.Frag):List Addr->Prop
 | nil:Tys K []
 | cons {C:Addr} {Cs:List Addr} {dd:Option Addr} {cd:ClassData} {sl:Array (Option Value)} (h:K.lookup C=some ⟨.type "type",dd,.cls cd,sl⟩) (r:Tys K Cs):Tys K (C :: Cs)
inductive Nss (K:PySem.W.Frag):List Str->List Addr->Prop
 | nil:Nss K [] []
 | cons {n:Str} {ns:List Str} {C:Addr} {Cs:List Addr} (h:nsIn K mainGlobals n=some (some (.ref C))) (r:Nss K ns Cs):Nss K (n :: ns) (C :: Cs)
inductive Off (K:PySem.W.Frag) (C:Addr):List Addr->Prop
 | nil:Off K C []
 | cons {D:Addr} {Ds:List Addr} (n:(Value.ref C == Value.ref D)=false) (s:subIn K (.ref C) (.ref D)=some false) (r:Off K C Ds):Off K C (D :: Ds)
theorem Tys.at_ {K:PySem.W.Frag}:∀ {Cs:List Addr} {i:Nat},Tys K Cs->i < Cs.length->sF K (Cs.getD i 0)
 | _ :: _,0,.cons h _,_=>⟨_,_,_,h⟩
 | _ :: _,i + 1,.cons _ r,h=>Tys.at_ (i:=i) r (Nat.lt_of_succ_lt_succ h)
theorem Nss.at_ {K:PySem.W.Frag}:∀ {ns:List Str} {Cs:List Addr} {i:Nat},Nss K ns Cs->i < Cs.length->nsIn K mainGlobals (ns.getD i "")=some (some (.ref (Cs.getD i 0)))
 | _,_ :: _,0,.cons h _,_=>h
 | _,_ :: _,i + 1,.cons _ r,h=>Nss.at_ (i:=i) r (Nat.lt_of_succ_lt_succ h)
theorem Off.at_ {K:PySem.W.Frag} {C:Addr}:∀ {Ds:List Addr} {i:Nat},Off K C Ds->i < Ds.length->(Value.ref C == Value.ref (Ds.getD i 0))=false/\subIn K (.ref C) (.ref (Ds.getD i 0))=some false
 | _ :: _,0,.cons n s _,_=>⟨n,s⟩
 | _ :: _,i + 1,.cons _ _ r,h=>Off.at_ (i:=i) r (Nat.lt_of_succ_lt_succ h)
theorem tE {K:PySem.W.Frag} {h:Heap} {mg:Str->Option Value} {SM:Addr} {Cs:List Addr} {ns:List Str} {cs:List Nat} (X:K.In h) (G:h.Ns mainGlobals mg) (aS:nsIn K mainGlobals "SmoothError" = some (some (.ref SM))) (S:oZ K SM) (zV:nsIn K mainGlobals "ValueError" = some none) (gG:specialIn K (.builtin "object.__class__") "__get__" = some (some (.builtin "getset_descriptor.__get__"))) (gT:takesIn K (.builtin "object.__class__")=some true) (N:Nss K ns Cs) (hn:∀ i,i < 19->wordOf i=ns.getD i "") (T:Tys K Cs) (hl:Cs.length=19)
   (R:∀ c ∈ cs,c < 19/\oV K SM (Cs.getD c 0)/\Off K (Cs.getD c 0) (Cs.take c)/\Off K (Cs.getD c 0) (Cs.drop (c + 1))):∃ cl,Cls K mg cl cs:=by
 obtain ⟨ddS,cdS,slS,oNS,lS,nS,oS,iS,bS⟩:=S
 refine ⟨λc=>Cs.getD c 0,λc hc=>(R c hc).1,⟨SM,PySem.W.mg_of X G aS,λc hc=>?_⟩,λc hc=>?_,λc hc i hi=>?_,λc hc=>oo (R c hc).2.1.sV,PySem.W.mg_none_of X G zV⟩
 · have r:=(R c hc).2.1
   obtain ⟨dd,cd,sl,w⟩:=T.at_ (i:=c) (by rw [hl]; exact (R c hc).1)
   exact ⟨⟨r.obj,⟨_,_,_,_,_,lS,nS,oS,iS⟩,⟨by unfold PySem.W.clsIn; rw [w]; rfl,r.ga,r.gb,r.gc,gG,gT,r.gd,r.ge⟩⟩,rn bS (j3 r.nx lS r.sS).1⟩
 · have:=N.at_ (i:=c) (by rw [hl]; exact hc)
   rw [<- hn c hc] at this
   exact PySem.W.mg_of X G this
 · obtain ⟨c9,r,o1,o2⟩:=R c hc
   obtain ⟨dd,cd,sl,w⟩:=T.at_ (i:=i) (by rw [hl]; exact hi)
   rcases Nat.lt_trichotomy c i with z | z | z
   · obtain ⟨n,s⟩:=o2.at_ (i:=i - (c + 1)) (by rw [List.length_drop,hl]; omega)
     have e:(Cs.drop (c + 1)).getD (i - (c + 1)) 0=Cs.getD i 0:=by
       rw [List.getD,List.getD,List.getElem?_drop,show c + 1 + (i - (c + 1))=i by omega]
     rw [e] at n s
     rw [decide_eq_false (by omega)]
     exact (j3 n w s).2
   · subst z
     rw [decide_eq_true rfl]
     exact nC
   · obtain ⟨n,s⟩:=o1.at_ (i:=i) (by rw [List.length_take,hl]; omega)
     have e:(Cs.take c).getD i 0=Cs.getD i 0:=by
       rw [List.getD,List.getD,List.getElem?_take,if_pos z]
     rw [e] at n s
     rw [decide_eq_false (by omega)]
     exact (j3 n w s).2
section
variable {P:Program} {w:World} {K:PySem.W.Frag} {mg:Str->Option Value} {base:Heap} {k:Nat} {f:Addr} {fd:FuncData} {qual:Str}
end
end K52
namespace K52
open PySem PySem.Spec PyProof.Rows L2 Hy
open Ev (D Den aq aK a5)
theorem kv (R C:Nat) (h:Siz R C):mfv R C (R * C) (0,false)=l4 R C:=by
 have h1:=h.r7
 have h2:=h.c7
 rw [<- lx R (by omega) h.r1 C (by omega) h.c1]
 exact (kS R C h.c1 (R * C) 0 false).2
theorem qb:∀ R,R < 8->1<=R->∀ C,C < 8->1<=C->7 < R + C\/(0 < l4 R C/\l4 R C < 100000):=by decide +kernel
theorem ig {R C:Nat} (h:Siz R C) (h7:R + C<=7):0 < mfv R C (R * C) (0,false)/\mfv R C (R * C) (0,false) < 100000:=by
 have h1:=h.r7
 have h2:=h.c7
 rw [kv R C h]
 exact (qb R (by omega) h.r1 C (by omega) h.c1).resolve_left (by omega)
noncomputable def stN (R C n:Nat):List (List Int):=tb C R (aZ R C (R * C) (0,false) n)
noncomputable def stM (R C:Nat):Nat:=(mfv R C (R * C) (0,false)).toNat
noncomputable def stL (R C:Nat):List (List (List Int)):=(List.range (stM R C)).map (stN R C)
noncomputable def gn (ds:List D) (r:Sl):Prop:=∃ R C:Nat,ds=[.int R,.int C]/\Siz R C/\R + C<=7/\r=.n (.l ((stL R C).map tbN))
noncomputable def fY (ds:List D) (c:Nat):Prop:=∃ R C:Nat,ds=[.int R,.int C]/\Siz R C/\7 < R + C/\c=7
noncomputable def cO (ds:List D) (r:Sl):Prop:=∃ R C:Nat,ds=[.int R,.int C]/\Siz R C/\7 < R + C/\r=.d (.bl true)
section
variable {P:Program} {w:World} {K:PySem.W.Frag} {mg:Str->Option Value} {base:Heap} {k:Nat} {f:Addr} {fd:FuncData} {qual:Str}
theorem lL (F:Fun K "listed" qual (top 32) f fd) (hb:∀ x ∈ aA,mg x=none) (y_BEG:Mk2 K mg "BEGINNING" 0 false) (y_MOST_TOGETHER:∃ t,mg "MOST_TOGETHER" = some (.int 7 t)) (c_look_shape:Cal P w K mg base k "look_shape" bB) (c_mf:eB P w K mg base k "many_from" (spM P w K 49)) (c_sa:eB P w K mg base k "staircase_at" (spL K (bC P w))):aP P w K mg base CX0 (k + 1) f fd ["rows","columns"] (spD K gn):=by
 refine fnD F eI hb (by rintro _ _ ⟨_,_,rfl,_⟩; rfl) ?_
 rintro _ _ ⟨R,C,rfl,h,h7,rfl⟩ cdv A outer s H E b
 have nd:=eI.nd
 have r1:=h.r1
 have r7:=h.r7
 have c1:=h.c1
 have c7:=h.c7
 obtain ⟨m0,m1⟩:=ig h h7
 refine mq (x_call b c_look_shape (ae (aa 0) (ae (aa 1) ar)) ⟨R,C,rfl,by omega,by omega,by omega,by omega,rfl⟩) ?_
 refine er (bo (aH (aa 0) (aa 1) aR) (i5 y_MOST_TOGETHER) k9) (decide_eq_false (by omega)) ?_
 refine aF 2 nd (rL (R:=R) (Cc:=C)) ?_
 refine mX 3 nd (mF 2 b c_mf (p6 h (t:=R * C) (p:=0) (s:=(0,false)) (Nat.le_refl _) (by unfold plc; rw [Nat.sub_self]; rfl) ⟨by decide,by decide⟩) rfl (ae (mE (ae (aa 0) (ae (aa 1) ar))) (ae aj (ae (qt y_BEG) ar)))) ?_
 refine oA 2 2 0 (f:=λi=>tbN (stN R C i)) b (de b (aa 3) (by omega) (by omega)) cF (by rw [ax]; omega) rfl rfl (λd i hi s0 H0 fp=>pR 2 (b.comp s0 H0 _ fp) c_sa ⟨R,C,(i:Int),rfl,rfl,h,rfl⟩ rfl (ae (mE (ae (aa 3) (ae (aa 1) ar))) (ae (aa 0) ar))) (λi hi=>rfl) ?_
 rw [ax]
 unfold stL stM
 rw [List.map_map]
 rfl
theorem lB {cl:Nat->Addr} {cs:List Nat} (F:Fun K "listed" qual (top 32) f fd) (hb:∀ x ∈ aA,mg x=none) (y_MOST_TOGETHER:∃ t,mg "MOST_TOGETHER" = some (.int 7 t)) (Z:Cls K mg cl cs) (h7:7 ∈ cs) (c_look_shape:Cal P w K mg base k "look_shape" bB):aP P w K mg base (Hx.CXe P w cl) (k + 1) f fd ["rows","columns"] (spX K cl fY):=by
 obtain ⟨S,hS,hx⟩:=Z.ex
 refine fnX F eI hb (by rintro _ _ ⟨_,_,rfl,_⟩; rfl) ?_
 rintro _ _ ⟨R,C,rfl,h,h8,rfl⟩ cdv A outer s H E hr b ps lv
 have r1:=h.r1
 have r7:=h.r7
 have c1:=h.c1
 have c7:=h.c7
 refine mq (PE.nox (x_call b c_look_shape (ae (aa 0) (ae (aa 1) ar)) ⟨R,C,rfl,by omega,by omega,by omega,by omega,rfl⟩)) ?_
 exact jt (bo (aH (aa 0) (aa 1) aR) (i5 y_MOST_TOGETHER) k9) (λ_=>oR (lv 7) (Z.nm 7 (by decide)) (hx 7 h7).1 (ae ba ar)) λh=>absurd (of_decide_eq_false h) (by omega)
theorem iM {cl:Nat->Addr} {cs:List Nat} {fw:Addr} (F:Fun K "_law_refused" qual (top 45) f fd) (hb:∀ x ∈ aA,mg x=none) (Z:Cls K mg cl cs) (h7:7 ∈ cs) (hm:mg "_law_word" = some (.ref fw)) (hk:PySem.W.keepIn K (.ref fw)=true) (hW:∀ c ∈ cs,cf P w K mg base cl k fw c) (x_listed:oW P w K mg base cl k "listed" fY):aP P w K mg base CX0 (k + 1) f fd ["_law_rows","_law_columns"] (spD K cO):=by
 obtain ⟨S,hS,hx⟩:=Z.ex
 refine fnD F eF hb (by rintro _ _ ⟨_,_,rfl,_⟩; rfl) ?_
 have nd:=eF.nd
 rintro _ _ ⟨R,C,rfl,h,h8,rfl⟩ cdv A outer s H E b
 exact rS (c:=7) b nd (λpins E Ex ps=>ot (pV (c:=7) (C:=false) b.room ps x_listed (ae (aa 0) (ae (aa 1) ar)) ⟨R,C,rfl,h,h8,rfl⟩)) rfl hS (hx 7 h7).2 hm hk (hW 7 h7) 2
end
theorem uc {X:Cx} {τ:List Sl} {c:Expr} {v w:Bool} (h:PT X c (dT X.K τ v)) (e:v=w):PT X c (dT X.K τ w):=e ▸ h
theorem o9 (R C:Nat):(stL R C).length=stM R C:=by unfold stL; simp
theorem qD {R C k:Nat} (h:k < stM R C):(stL R C).getD k []=stN R C k:=by unfold stL; simp [h]
theorem stM_eq {R C:Nat} (h:Siz R C) (h7:R + C<=7):((stM R C:Nat):Int)=mfv R C (R * C) (0,false):=by
 have:=ig h h7
 unfold stM
 omega
theorem qc {R C k:Nat} (h:Siz R C) (h7:R + C<=7) (hk:k < stM R C):Tb R C (aZ R C (R * C) (0,false) (k:Int)):=Tb.dec h (by omega) (by have:=stM_eq h h7; omega)
theorem qW {R C:Nat} {f:List Int} (h:Siz R C) (h7:R + C<=7) (t:Tb R C f):tb C R f ∈ stL R C:=by
 obtain ⟨e1,e2,e3⟩:=ny R C (R * C) (0,false) f t.ok
 have:=stM_eq h h7
 unfold stL
 refine List.mem_map.mpr ⟨(eU R C (R * C) (0,false) f).toNat,List.mem_range.mpr (by omega),?_⟩
 unfold stN
 rw [Int.toNat_of_nonneg e1,e3]
theorem jS:∀ L:List (List (List Int)),eO (L.map tbN)=L.map tbD
 | []=>rfl
 | m :: L=>by rw [List.map_cons,eO,tD,jS L]; rfl
theorem fX (L:List (List (List Int))):fzD (.n (.l (L.map tbN)))=some (.lst (L.map tbD)):=by
 show some (D.lst (eO (L.map tbN)))=_
 rw [jS]
theorem nB:∀ L:List (List (List Int)),cD (L.map tbN)=true
 | []=>rfl
 | m :: L=>by rw [List.map_cons,cD,tbN,fP,kH,nB L]; rfl
theorem kP:∀ L:List (List (List Int)),Ev.bO (L.map tbD)=true/\Ev.bX (L.map tbD)<=2
 | []=>by simp [Ev.bO,Ev.bX]
 | m :: L=>by
   obtain ⟨h1,h2⟩:=kP L
   obtain ⟨h3,h4⟩:=gi m
   rw [List.map_cons,Ev.bO,Ev.bX,h1,show tbD m=.lst (m.map rwD) from rfl,Ev.cln,Ev.dep,h3]
   exact ⟨rfl,by omega⟩
theorem mf (L:List (List (List Int))):Ev.bM (.lst (L.map tbD)):=by
 obtain ⟨h1,h2⟩:=kP L
 unfold Ev.bM
 rw [Ev.cln,Ev.dep,h1]
 exact ⟨rfl,by omega⟩
theorem uL {α:Type} {f:α->D} {xs:List α} (d:α):∀ i (h:i < (xs.map f).length),(xs.map f)[i]=f (xs.getD i d):=λi h=>by
 have:i < xs.length:=by simpa using h
 simp [this]
theorem pM {R C n:Nat} (h:n < (stL R C).length):(stL R C)[n]=stN R C n:=by simp [stL]
noncomputable def stX:List (List Int)->Nd
 | []=>.l []
 | r :: m=>.l ((.l ((r.map λx=>.d (.int x))++[.d (.int 1)])) :: m.map rwN++[.l []])
theorem jF {α β:Type} (f:α->β) (xs:List α) (d:α) {m:Nat} (h:m=xs.length):(List.range m).map (λi=>f (xs.getD i d))=xs.map f:=by
 subst h
 refine List.ext_getElem (by simp) λi h1 h2=>?_
 have:i < xs.length:=by simpa using h2
 simp [this]
theorem m4 {e:Nat} (h:e < 4):atI [D.int 4,.int 4,.int 4,.int 3] (e:Int)=some (.int (if e=3 then 3 else 4)):=by
 rcases (by omega:e=0\/e=1\/e=2\/e=3) with rfl | rfl | rfl | rfl <;> rfl
noncomputable def ko (ds:List D) (r:Sl):Prop:=∃ ns:List Int,ns.length<=63/\ds=[.lst (ns.map .int)]/\r=.d (.bl true)
section
variable {P:Program} {w:World} {K:PySem.W.Frag} {mg:Str->Option Value} {base:Heap} {k:Nat} {f:Addr} {fd:FuncData} {qual:Str}
set_option maxHeartbeats 2000000 in
theorem qV (F:Fun K "law" qual (top 46) f fd) (hb:∀ x ∈ aA,mg x=none) (c_l_numbers:Cal P w K mg base k "_law_numbers" bR) (c_listed:Cal P w K mg base k "listed" gn) (c_l_cell:Cal P w K mg base k "_law_cell" fI) (c_l_stair:Cal P w K mg base k "_law_stair" eV) (c_l_refused:Cal P w K mg base k "_law_refused" cO) (c_l_counted:Cal P w K mg base k "_law_counted" cJ) (c_l_is_marks:Cal P w K mg base k "_law_is_marks" cx):aP P w K mg base CX0 (k + 1) f fd ["_law_script"] (spD K ko):=by
 refine fnD F n9 hb (by rintro _ _ ⟨_,_,rfl,_⟩; rfl) ?_
 rintro _ _ ⟨ns,hn,rfl,rfl⟩ cdv A outer s H E b
 have nd:=n9.nd
 refine aF 1 nd (a6 (x_call b c_l_numbers (ae (x_call b c_l_cell (ae (aa 0) (ae aj ar)) ⟨ns,0,rfl,rfl⟩) (ae (a6 (aW (ae aj (ae aj (ae aj ar))))) ar)) ⟨ns.getD 0 0,[7,7,4],rfl,by decide,λb hb=>by simp only [List.mem_cons,List.not_mem_nil,or_false] at hb; omega,rfl⟩)) ?_
 have lp:(nums (ns.getD 0 0) [7,7,4]).length=3:=ja _ [7,7,4]
 have t0:0<=(nums (ns.getD 0 0) [7,7,4]).getD 0 0/\(nums (ns.getD 0 0) [7,7,4]).getD 0 0 < 7:=hV (c:=ns.getD 0 0) (bs:=[7,7,4]) (by decide) (i:=0) (by decide)
 have t1:0<=(nums (ns.getD 0 0) [7,7,4]).getD 1 0/\(nums (ns.getD 0 0) [7,7,4]).getD 1 0 < 7:=hV (c:=ns.getD 0 0) (bs:=[7,7,4]) (by decide) (i:=1) (by decide)
 have t2:0<=(nums (ns.getD 0 0) [7,7,4]).getD 2 0/\(nums (ns.getD 0 0) [7,7,4]).getD 2 0 < 4:=hV (c:=ns.getD 0 0) (bs:=[7,7,4]) (by decide) (i:=2) (by decide)
 generalize nums (ns.getD 0 0) [7,7,4]=ps at lp t0 t1 t2 ⊢
 have pa:∀ i:Nat,i < 3->atI (ps.map D.int) (i:Int)=some (.int (ps.getD i 0)):=λi hi=>cM (i:=(i:Int)) (by omega) (by omega)
 obtain ⟨a,ea⟩:∃ a:Nat,ps.getD 0 0=(a:Int):=⟨(ps.getD 0 0).toNat,by omega⟩
 obtain ⟨a',ea'⟩:∃ a:Nat,ps.getD 1 0=(a:Int):=⟨(ps.getD 1 0).toNat,by omega⟩
 obtain ⟨e,ee⟩:∃ a:Nat,ps.getD 2 0=(a:Int):=⟨(ps.getD 2 0).toNat,by omega⟩
 have p0:=pa 0 (by decide)
 have p1:=pa 1 (by decide)
 have p2:=pa 2 (by decide)
 rw [ea] at t0 p0
 rw [ea'] at t1 p1
 rw [ee] at t2 p2
 have eR:(1:Int) + (a:Int)=((a + 1:Nat):Int):=by omega
 have eC:(1:Int) + (a':Int)=((a' + 1:Nat):Int):=by omega
 refine aF 2 nd (aH aj (bg (aa 1) aj (a0 p0)) aR) ?_
 refine aF 3 nd (aH aj (bg (aa 1) aj (a0 p1)) aR) ?_
 rw [eR,eC]
 refine nc (M:=λτ=>∃ R C:Nat,Siz R C/\R + C<=7/\τ=[.d (.lst (ns.map .int)),.d (.lst (ps.map .int)),.d (.int (R:Nat)),.d (.int (C:Nat)),.un,.un,.un,.un]) (bo (aH (aa 2) (aa 3) aR) aj k9) (λh=>?_) (λh=>?_) λτ h=>?_
 · have h:=of_decide_eq_true h
   refine er (df (cQ (x_call b c_l_refused (ae (aa 2) (ae (aa 3) ar)) ⟨a + 1,a' + 1,rfl,⟨by omega,by omega,by omega,by omega⟩,by omega,rfl⟩))) rfl ?_
   have f3:(a:Int).fmod 3=((a % 3:Nat):Int):=by rw [Int.fmod_eq_emod_of_nonneg _ (by decide)]; rfl
   have f4:(a':Int).fmod (if e=3 then 3 else 4)=((a' % (if e=3 then 3 else 4):Nat):Int):=by
     split
     · rw [Int.fmod_eq_emod_of_nonneg _ (by decide)]; rfl
     · rw [Int.fmod_eq_emod_of_nonneg _ (by decide)]; rfl
   have u4:a' % (if e=3 then 3 else 4) < 4:=by split <;> omega
   refine aF 2 nd (aH aj (aH (bg (aa 1) aj (a0 p0)) aj (dZ (by decide))) aR) ?_
   refine aF 3 nd (aH aj (aH (bg (aa 1) aj (a0 p1)) (bg (a6 (aW (ae aj (ae aj (ae aj (ae aj ar)))))) (bg (aa 1) aj (a0 p2)) (a0 (m4 (by omega)))) (dZ (by split <;> decide))) aR) ?_
   rw [f3,f4]
   generalize a' % (if e=3 then 3 else 4)=c4 at u4
   have g3:(1:Int) + ((a % 3:Nat):Int)=((a % 3 + 1:Nat):Int):=by omega
   have g4:(1:Int) + (c4:Int)=((c4 + 1:Nat):Int):=by omega
   rw [g3,g4]
   exact a7 ⟨a % 3 + 1,c4 + 1,⟨by omega,by omega,by omega,by omega⟩,by omega,rfl⟩
 · have h:=of_decide_eq_false h
   exact a7 ⟨a + 1,a' + 1,⟨by omega,by omega,by omega,by omega⟩,by omega,rfl⟩
 obtain ⟨R,C,sz,h7,rfl⟩:=h
 have r1:=sz.r1
 have r7:=sz.r7
 have c1:=sz.c1
 have c7:=sz.c7
 have few:=ig sz h7
 have eM:=stM_eq sz h7
 have ec:=kv R C sz
 have ll:=o9 R C
 refine aF 4 nd (x_call b c_listed (ae (aa 2) (ae (aa 3) ar)) ⟨R,C,rfl,sz,h7,rfl⟩) ?_
 refine er (PW.pt (lF (df (cQ (fF .list b (nh 4 rfl (fX _))))) λh=>(gX (bo (eJ b (ae (nh 4 rfl (fX _)) ar) d0) (x_call b c_l_counted (ae (aa 2) (ae (aa 3) ar)) ⟨R,C,rfl,by omega,by omega,rfl⟩) oD)))) ?_ ?_
 · have:(((stL R C).map tbD).length:Int)=l4 R C:=by rw [List.length_map,ll,eM,ec]
   rw [decide_eq_true this]
   rfl
 refine qE 4 5 6 b nd rfl (jS (stL R C)) (λj hj=>?_) ?_
 · have hj:j < stM R C:=by rw [List.length_map,ll] at hj; exact hj
   have ej:((stL R C).map tbD)[j]'(by rw [List.length_map,ll]; exact hj)=tbD (stN R C j):=by
     rw [List.getElem_map]
     unfold stL
     simp
   rw [ej]
   refine uc (PW.pt (lF (df (cQ (x_call b c_l_is_marks (ae (aa 6) (ae (aa 2) (ae (aa 3) ar))) ⟨R,C,_,rfl,qc sz h7 hj,rfl⟩))) λh=>(gX (PW.pt (nF (bo (aa 5) aj k9) λh=>(nH (df (bo (bg (aa 4) (aH (aa 5) aj qB) (a0 (z:=tbD (stN R C (j - 1))) ?_)) (aa 6) (tY b (kU _) (kU _) ?_))))))))) ?_
   · have h0:=of_decide_eq_true h
     rw [show ((j:Nat):Int) - 1=((j - 1:Nat):Int) by omega]
     refine aO ?_
     rw [List.getElem?_map,List.getElem?_eq_getElem (by rw [ll]; omega)]
     unfold stL
     simp
   · have h0:=of_decide_eq_true h
     exact pw sz (by omega) (by omega) (by omega)
   · show (false || (_ && false))=false
     rw [Bool.and_false]
     rfl
 refine pC 7 4 nd (x:=.lst ((stL R C).map tbD)) (ns:=(List.range ((stL R C).map tbD).length).map λi=>tbN ((stL R C).getD i [])) (tX 0 (g:=λi=>tbD ((stL R C).getD i [])) (f:=λi=>tbN ((stL R C).getD i [])) b (bV (aa 4)) (λi hi=>?_) (by rw [List.length_map,ll]; omega) (λi hi s0 H0 fp=>sO (tX 0 (g:=λj=>rwD (((stL R C).getD i []).getD j [])) (f:=λj=>rwN (((stL R C).getD i []).getD j [])) (b.comp s0 H0 _ fp) (bV (aa 0)) (λj hj=>?_) ?_ (λj hj s1 H1 fp1=>ux ((b.comp s0 H0 _ fp).comp s1 H1 _ fp1) (ae (aa 0) ar) rY) λj hj=>?_)) λi hi=>?_) ?_ ?_ rfl (fX _)
 · have:i < (stL R C).length:=by simpa using hi
   simp [this]
 · exact uL (f:=rwD) [] j hj
 · have hi:i < stM R C:=by rw [List.length_map,ll] at hi; exact hi
   rw [List.length_map,qD hi]
   unfold stN
   rw [bW]
   omega
 · generalize ((stL R C).getD i []).getD j []=r
   unfold rwN
   show some (Nd.l ((r.map D.int).map .d))=_
   rw [List.map_map]
   rfl
 · generalize (stL R C).getD i []=m
   refine congrArg (λl=>some (Nd.l l)) ?_
   exact jF rwN m [] (List.length_map ..)
 · rw [jF tbN (stL R C) [] (List.length_map ..)]
   exact nB _
 rw [jF tbN (stL R C) [] (List.length_map ..)]
 refine gu 7 (x:=.lst ((stL R C).map tbD)) ?_ rfl (fX _)
 have tS:=qK (ns.getD 1 0) r1 r7 c1 c7
 refine er (bo (x_call b c_l_stair (ae (x_call b c_l_cell (ae (aa 0) (ae aj ar)) ⟨ns,1,rfl,rfl⟩) (ae (aa 2) (ae (aa 3) ar))) ⟨_,R,C,rfl,r1,r7,c1,c7,rfl⟩) (aa 7) (rN b (kU _) λz hz=>?_)) ?_ ?_
 · obtain ⟨m,_,rfl⟩:=List.mem_map.mp hz
   exact kU m
 · have:(((stL R C).map tbD).any λz=>Ev.eqD z (tbD (tb C R (stF (ns.getD 1 0) R C))))=true:=List.any_eq_true.mpr ⟨_,List.mem_map.mpr ⟨_,qW sz h7 tS,rfl⟩,bJ _⟩
   rw [this]
   rfl
 refine rO 4 6 ((stL R C).map tbN) ((stL R C).map stX) (by rw [List.length_map,List.length_map]) b nd rfl (λn hn hn' r hr=>?_) ?_
 · have hn0:n < (stL R C).length:=by simpa using hn
   rw [List.getElem_map] at hr
   rw [List.getElem_map]
   have el:(stL R C)[n]=stN R C n:=pM hn0
   have rl:((stN R C n).length=R):=by unfold stN; rw [bW]
   have T:=qc (k:=n) sz h7 (by omega)
   have r0l:((stN R C n).getD 0 []).length=C:=T.gw (by omega)
   rw [el] at hr ⊢
   generalize stN R C n=fm at rl r0l hr ⊢
   cases fm with
   | nil=>exact absurd rl (by show ¬ (0=R); omega)
   | cons w0 f0=>
     have p0:bG [n] (.l r)=some (.l (rwN w0 :: f0.map rwN)):=by
       show (r[n]?).bind (bG [])=_
       rw [hr]
       rfl
     have p1:bG [n,0] (.l r)=some (.l (w0.map λi=>.d (.int i))):=by
       show (r[n]?).bind (bG [0])=_
       rw [hr]
       rfl
     have hw:w0.length=C:=r0l
     have hg:r.getD n (.d .non)=tbN (w0 :: f0):=by rw [List.getD,hr]; rfl
     have hnr:n < r.length:=(List.getElem?_eq_some_iff.mp hr).1
     have t1:bh [n,0] (.l r) (.l ((w0.map λi=>.d (.int i))++[.d (.int 1)]))=.l (r.set n (.l ((.l ((w0.map λi=>.d (.int i))++[.d (.int 1)])) :: f0.map rwN))):=by
       show Nd.l (r.set n (bh [0] (r.getD n (.d .non)) _))=_
       rw [hg]
       rfl
     have t2:bh [n] (.l (r.set n (.l ((.l ((w0.map λi=>.d (.int i))++[.d (.int 1)])) :: f0.map rwN)))) (.l ((.l ((w0.map λi=>.d (.int i))++[.d (.int 1)])) :: f0.map rwN++[.l []]))=.l (r.set n (stX (w0 :: f0))):=by
       show Nd.l ((r.set n _).set n _)=_
       rw [List.set_set]
       rfl
     have p2:bG [n] (.l (r.set n (.l ((.l ((w0.map λi=>.d (.int i))++[.d (.int 1)])) :: f0.map rwN))))=some (.l ((.l ((w0.map λi=>.d (.int i))++[.d (.int 1)])) :: f0.map rwN)):=by
       show ((r.set n _)[n]?).bind (bG [])=_
       rw [List.getElem?_set_self hnr]
       rfl
     have z0:ixN (rwN w0 :: f0.map rwN).length 0=some 0:=by unfold ixN; simp
     refine mi (qC (pt:=[0]) (tR (pt:=[]) (m:=0) (z:=0) mH aj rfl p0 z0) (s:=.d (.int 1)) aj rfl p1 rfl (by rw [List.length_map]; omega)) ?_
     rw [t1,List.set_set]
     refine mi (qC (pt:=[]) mH (s:=.o []) (aW ar) rfl p2 rfl ?_) ?_
     · rw [List.length_cons,List.length_map]
       rw [List.length_cons] at rl
       omega
     rw [show ([]:List D).map Nd.d=[] from rfl,t2,List.set_set]
     exact sW
 refine qN (pt:=[]) (i:=4) (jW 4) rfl rfl ?_
 refine bK (kQ (a6 (x_call b c_listed (ae (aa 2) (ae (aa 3) ar)) ⟨R,C,rfl,sz,h7,rfl⟩) (hx:=fX _)) (aa 7) (sy b (mf _) (mf _))) ?_
 rw [bJ]
end
end K52
namespace K52
open PySem PySem.Spec PyProof.Rows L2 Hy
set_option maxHeartbeats 0 in
theorem all_mk {l:PySem.W.OpenLaw} {w:World} {K:PySem.W.Frag} {h:Heap} {mg:Str->Option Value} {fa f0 f1 f2 f3 f4 f5 f6 f7 f8 f9 f10 f11 f12 f13 f14 f15 f16 f17 f18 f19:Addr} {t0 t1:Tok} {SM C0 C1 C2 C3 C4 C5 C6 C7 C8 C9 C10 C11 C12 C13 C14 C15 C16 C17 C18:Addr} {ab:Addr} {tb:Tok} {nb:Nat} {db:Option Addr} {sb:Array (Option Value)} (X:K.In h) (G:h.Ns mainGlobals mg) (hfa:mg "law" = some (.ref fa))
   (h0:Dfn K "_law_numbers" (top 36) f0) (h1:Dfn K "is_whole" (top 22) f1) (h2:Dfn K "is_between" (top 23) f2) (h3:Dfn K "look_shape" (top 28) f3) (h4:Dfn K "next_state" (top 29) f4) (h5:Dfn K "many_with_empty" (top 31) f5) (h6:Dfn K "many_from" (top 30) f6) (h7:Dfn K "staircase_at" (top 33) f7) (h8:Dfn K "listed" (top 32) f8) (h9:Dfn K "_law_cell" (top 35) f9) (h10:Dfn K "_law_options" (top 38) f10) (h11:Dfn K "_law_stair" (top 39) f11) (h12:Dfn K "_law_word" (top 41) f12) (h13:Dfn K "_law_refused" (top 45) f13) (h14:Dfn K "_law_parted" (top 42) f14) (h15:Dfn K "_law_counted" (top 43) f15) (h16:Dfn K "_law_is_stairs" (top 40) f16) (h17:Dfn K "_law_whole" (top 37) f17) (h18:Dfn K "_law_is_marks" (top 44) f18) (h19:Dfn K "law" (top 46) f19) (hz:nsL K aA) (z0:PySem.W.nsIn K mainGlobals "MOST" = some (some (.int 7 t0))) (z1:PySem.W.nsIn K mainGlobals "MOST_TOGETHER" = some (some (.int 7 t1))) (aS:PySem.W.nsIn K mainGlobals "SmoothError" = some (some (.ref SM))) (SS:oZ K SM) (zV:PySem.W.nsIn K mainGlobals "ValueError" = some none) (gG:PySem.W.specialIn K (.builtin "object.__class__") "__get__" = some (some (.builtin "getset_descriptor.__get__"))) (gT:PySem.W.takesIn K (.builtin "object.__class__")=some true) (NN:Nss K ["NoFraction","NoTable","NoChoice","NoSquare","NoFit","NoUndoing","NoLadder","TooMany","NoPaper","NoRow","NoStairs","NoNumber","NoCorner","NoName","NoStep","NoWeight","NoDeed","NoText","NoWord"] [C0,C1,C2,C3,C4,C5,C6,C7,C8,C9,C10,C11,C12,C13,C14,C15,C16,C17,C18]) (TT:Tys K [C0,C1,C2,C3,C4,C5,C6,C7,C8,C9,C10,C11,C12,C13,C14,C15,C16,C17,C18]) (r7:oV K SM C7) (u7:Off K C7 [C0,C1,C2,C3,C4,C5,C6]) (v7:Off K C7 [C8,C9,C10,C11,C12,C13,C14,C15,C16,C17,C18]) (zb:PySem.W.nsIn K mainGlobals "BEGINNING" = some (some (.ref ab))) (zl:K.lookup ab=some ⟨.type "tuple",db,.seq #[.int 0 tb,.bool false] nb,sb⟩) :
   ∃ fd:FuncData,(∀ (s:Shared) (v:Value),BindsTo s fd ⟨[v],[]⟩ [("_law_script",v)])/\∀ base:Heap,K.In base->base.Ns mainGlobals mg->aP l.prog w K mg base CX0 105 fa fd ["_law_script"] (spD K ko):=by
 have hb:=hz.none X G
 have y_MOST:∃ t,mg "MOST" = some (.int 7 t):=⟨_,PySem.W.mg_of X G z0⟩
 have y_MOST_TOGETHER:∃ t,mg "MOST_TOGETHER" = some (.int 7 t):=⟨_,PySem.W.mg_of X G z1⟩
 obtain ⟨cl,Z⟩:∃ cl,Cls K mg cl [7]:=tE X G aS SS zV gG gT NN (by decide) TT rfl (by
   intro c hc
   simp only [List.mem_cons,List.not_mem_nil,or_false] at hc
   rcases hc with rfl
   · exact ⟨by decide,r7,u7,v7⟩)
 have y_BEG:Mk2 K mg "BEGINNING" 0 false:=⟨ab,PySem.W.mg_of X G zb,λH=>.inr ⟨_,_,_,zl,rfl,rfl,(by show 2<=sizeLine; decide),.cons ⟨_,rfl⟩ (.cons rfl .nil)⟩⟩
 obtain ⟨a,⟨oc,od,kV,dc,pm,an,cd,ct,sl,l0,c⟩,r⟩:=h19
 cases hfa.symm.trans (PySem.W.mg_of X G a)
 refine ⟨PySem.W.fnOf "law" "law" (cg (top 46)) (aT (top 46)) (ak (top 46)) .none kV dc pm an cd ct,λs v=>.of_eq rfl,λbase _ _=>?_⟩
 have c_l_numbers:Cal l.prog w K mg base 1 "_law_numbers" bR:=h0.cal (ps:=["_law_cell_here","_law_bases"]) X G (λ_ _ _ _ _ _=>Hy.bd2 λ_ _=>rfl) λ_ F=>iq (k:=0) F hb
 have c_is_whole:Cal l.prog w K mg base 1 "is_whole" dr:=h1.cal (ps:=["thing"]) X G (λ_ _ _ _ _ _=>Hy.bd1 λ_=>rfl) λ_ F=>i8 (k:=0) F hb
 have c_is_between:Cal l.prog w K mg base 2 "is_between" cB:=h2.cal (ps:=["thing","least","most"]) X G (λ_ _ _ _ _ _=>Hy.bd3 λ_ _ _=>rfl) λ_ F=>gz (k:=1) F hb c_is_whole
 have c_look_shape:Cal l.prog w K mg base 3 "look_shape" bB:=h3.cal (ps:=["rows","columns"]) X G (λ_ _ _ _ _ _=>Hy.bd2 λ_ _=>rfl) λ_ F=>gr (k:=2) F hb y_MOST c_is_between
 have c_next_state:Cal l.prog w K mg base 1 "next_state" aL:=h4.cal (ps:=["shape","place","state","mark"]) X G (λ_ _ _ _ _ _=>Hy.bd4 λ_ _ _ _=>rfl) λ_ F=>gx (k:=0) F hb
 obtain ⟨fdm,Fm,mm,km,bm⟩:=h6.fn (ps:=["known","shape","place","state"]) X G (λ_ _ _ _ _ _=>Hy.bd4 λ_ _ _ _=>rfl)
 obtain ⟨fde,Fe,me,ke,be⟩:=h5.fn (ps:=["known","shape","place","state"]) X G (λ_ _ _ _ _ _=>Hy.bd4 λ_ _ _ _=>rfl)
 have c_mf:eB l.prog w K mg base 100 "many_from" (spM l.prog w K 49):=⟨_,_,_,l6 (k:=1) Fm Fe c_next_state mm me bm be 49,mm,km,bm⟩
 have c_me:eB l.prog w K mg base 101 "many_with_empty" (spE l.prog w K 49):=⟨_,_,_,qx (k:=100) Fe (c_next_state.mono (by decide)) c_mf,me,ke,be⟩
 obtain ⟨fds,Fs,ms,ks,bs⟩:=h7.fn (ps:=["known","shape","number"]) X G (λ_ _ _ _ _ _=>Hy.bd3 λ_ _ _=>rfl)
 have c_sa:eB l.prog w K mg base 102 "staircase_at" (spL K (bC l.prog w)):=⟨_,_,_,fj (k:=101) Fs hb y_BEG c_me (c_next_state.mono (by decide)),ms,ks,bs⟩
 have c_listed:Cal l.prog w K mg base 103 "listed" gn:=h8.cal (ps:=["rows","columns"]) X G (λ_ _ _ _ _ _=>Hy.bd2 λ_ _=>rfl) λ_ F=>lL (k:=102) F hb y_BEG y_MOST_TOGETHER (c_look_shape.mono (by decide)) (c_mf.mono (by decide)) c_sa
 have x_listed:oW l.prog w K mg base cl 103 "listed" fY:=h8.uH (ps:=["rows","columns"]) X G (λ_ _ _ _ _ _=>Hy.bd2 λ_ _=>rfl) λ_ F=>lB (k:=102) F hb y_MOST_TOGETHER Z (by decide) (c_look_shape.mono (by decide))
 have c_l_cell:Cal l.prog w K mg base 1 "_law_cell" fI:=h9.cal (ps:=["_law_script","_law_k"]) X G (λ_ _ _ _ _ _=>Hy.bd2 λ_ _=>rfl) λ_ F=>lI (k:=0) F hb
 have c_l_options:Cal l.prog w K mg base 1 "_law_options" cI:=h10.cal (ps:=["_law_clear"]) X G (λ_ _ _ _ _ _=>Hy.bd1 λ_=>rfl) λ_ F=>iL (k:=0) F hb
 have c_l_stair:Cal l.prog w K mg base 2 "_law_stair" eV:=h11.cal (ps:=["_law_cell_here","_law_many","_law_wide"]) X G (λ_ _ _ _ _ _=>Hy.bd3 λ_ _ _=>rfl) λ_ F=>j8 (k:=1) F hb c_l_numbers c_l_options
 obtain ⟨fdw,Fw,mw,kw,bw⟩:=h12.fn (ps:=["_law_e"]) X G (λ_ _ _ _ _ _=>Hy.bd1 λ_=>rfl)
 have Ww:∀ c ∈ [7],cf l.prog w K mg base cl 1 f12 c:=λc hc=>lb (k:=0) Fw hb bw Z hc
 have c_l_refused:Cal l.prog w K mg base 104 "_law_refused" cO:=h13.cal (ps:=["_law_rows","_law_columns"]) X G (λ_ _ _ _ _ _=>Hy.bd2 λ_ _=>rfl) λ_ F=>iM (k:=103) F hb Z (by decide) mw kw (λc hc=>(Ww c hc).mono (by decide)) x_listed
 have c_l_parted:Cal l.prog w K mg base 1 "_law_parted" dn:=h14.cal (ps:=["_law_n"]) X G (λ_ _ _ _ _ _=>Hy.bd1 λ_=>rfl) λ_ F=>jc (k:=0) F hb
 have c_l_counted:Cal l.prog w K mg base 2 "_law_counted" cJ:=h15.cal (ps:=["_law_rows","_law_columns"]) X G (λ_ _ _ _ _ _=>Hy.bd2 λ_ _=>rfl) λ_ F=>hX (k:=1) F hb c_l_parted
 have c_l_is_stairs:Cal l.prog w K mg base 1 "_law_is_stairs" bU:=h16.cal (ps:=["_law_marks"]) X G (λ_ _ _ _ _ _=>Hy.bd1 λ_=>rfl) λ_ F=>fN (k:=0) F hb
 have c_l_whole:Cal l.prog w K mg base 1 "_law_whole" eH:=h17.cal (ps:=["_law_thing"]) X G (λ_ _ _ _ _ _=>Hy.bd1 λ_=>rfl) λ_ F=>j0 (k:=0) F hb
 have c_l_is_marks:Cal l.prog w K mg base 2 "_law_is_marks" cx:=h18.cal (ps:=["_law_found","_law_rows","_law_columns"]) X G (λ_ _ _ _ _ _=>Hy.bd3 λ_ _ _=>rfl) λ_ F=>gB (k:=1) F hb c_l_is_stairs c_l_whole
 exact qV (k:=104) (mD l0 c r) hb (c_l_numbers.mono (by decide)) (c_listed.mono (by decide)) (c_l_cell.mono (by decide)) (c_l_stair.mono (by decide)) c_l_refused (c_l_counted.mono (by decide)) (c_l_is_marks.mono (by decide))
theorem walk {l:PySem.W.OpenLaw} {q:Program} {loose:List Str} {XP:(Str->Option Value)->Heap->Prop} {YP:World->Heap->Prop} {d:DefRec} {K:Params->PySem.W.Frag} (hn:l.most=some 63) (hdf:d.params.defaults=[])
   (hY:∀ (w:World) (h:Heap),YP w h->(K w.params).In h)
   (F:∀ (w:World) (mg:Str->Option Value) (fa:Addr) (h:Heap),(K w.params).In h->h.Ns mainGlobals mg->mg d.name=some (.ref fa) ->
     ∃ fd:FuncData,(∀ (s:Shared) (u:Value),BindsTo s fd ⟨[u],[]⟩ [("_law_script",u)])/\∀ base:Heap,(K w.params).In base->base.Ns mainGlobals mg->aP l.prog w (K w.params) mg base CX0 105 fa fd ["_law_script"] (spD (K w.params) ko)) :
   PySem.W.WalkO q loose XP YP l.row.toRowW d [] (λf vs=>PySem.call f vs):=
 L2.pT (n:=63) (k:=105) (x:="_law_script") (CX:=λ_=>CX0) (sp:=λw=>spD (K w.params) ko) hn (by decide) hdf ⟨rfl,by decide,by decide⟩ hY F
   (λw H a ns hl _ hS=>pF (λns h=>⟨ns,h,rfl,rfl⟩) H a ns hl hS) λ_ _ _ _ _ z=>z
end K52
open PySem PySem.W PyProof.Rows
namespace PySem.W.Fast
theorem tw11375245423268747962:True:=⟨⟩
theorem tw6110917685159331490:True:=⟨⟩
theorem tw12473351477389532907:True:=⟨⟩
theorem tw3576328688234370393:True:=⟨⟩
theorem tw2605037523269808808:True:=⟨⟩
theorem tw3818655205980507149:True:=⟨⟩
theorem tw9938286396116221041:True:=⟨⟩
theorem tw2157209800645182882:True:=⟨⟩
theorem tw5680764517173311890:True:=⟨⟩
theorem tw14609442288979416048:True:=⟨⟩
theorem tw10881342424124392757:True:=⟨⟩
theorem tw12849605882780297639:True:=⟨⟩
theorem tw10074562923405440814:True:=⟨⟩
theorem tw6485887315277884139:True:=⟨⟩
theorem tw146550368111914011:True:=⟨⟩
theorem tw3764925247747122587:True:=⟨⟩
theorem tw5043545056656112469:True:=⟨⟩
theorem tw6388623104145372727:True:=⟨⟩
theorem tw120966883607778919:True:=⟨⟩
theorem tw17069938281363661764:True:=⟨⟩
theorem tw17878777142650367405:True:=⟨⟩
theorem tw1823978031712957304:True:=⟨⟩
theorem tw8790378473740047041:True:=⟨⟩
theorem tw3477485177924975471:True:=⟨⟩
theorem tw10243824230773653683:True:=⟨⟩
theorem tw4308215285695587568:True:=⟨⟩
theorem tw877474792301751363:True:=⟨⟩
theorem tw16065430448198042386:True:=⟨⟩
theorem tw735436633048884943:True:=⟨⟩
theorem tw13674019928372285979:True:=⟨⟩
theorem tw1076776923568472884:True:=⟨⟩
theorem tw5056554880758775738:True:=⟨⟩
theorem tw2574823948317633060:True:=⟨⟩
theorem tw18049523133323313767:True:=⟨⟩
theorem tw3994673927469638061:True:=⟨⟩
theorem tw18374869689692349119:True:=⟨⟩
theorem tw7155465862512839213:True:=⟨⟩
theorem tw7172590368284222472:True:=⟨⟩
theorem tw4010351584972781450:True:=⟨⟩
theorem tw9226324444558611010:True:=⟨⟩
theorem tw18043283843226202376:True:=⟨⟩
theorem tw10433675477250148584:True:=⟨⟩
theorem tw4511592502934675108:True:=⟨⟩
theorem tw5637455299112267062:True:=⟨⟩
theorem tw11166882777253439013:True:=⟨⟩
theorem tw10005923963804930874:True:=⟨⟩
theorem tw18005670459157085063:True:=⟨⟩
theorem tw16137137108678904590:True:=⟨⟩
theorem tw13675399918538823336:True:=⟨⟩
theorem tw426659392071884558:True:=⟨⟩
theorem tw9601048269115203447:True:=⟨⟩
theorem tw17355409009315146014:True:=⟨⟩
theorem tw9254896693527899913:True:=⟨⟩
theorem tw1882080164607845881:True:=⟨⟩
theorem tw7804760465883749807:True:=⟨⟩
theorem tw6854061752172227116:True:=⟨⟩
theorem tw15104347129079803203:True:=⟨⟩
theorem tw7135557147392008234:True:=⟨⟩
theorem tw2527957005632747071:True:=⟨⟩
theorem tw15493392780787391747:True:=⟨⟩
theorem tw5140978159127537212:True:=⟨⟩
theorem tw1063977280084883927:True:=⟨⟩
theorem tw16082053995848336653:True:=⟨⟩
theorem tw16566113451410060149:True:=⟨⟩
theorem tw13772670730768792388:True:=⟨⟩
theorem tw16597472134859685932:True:=⟨⟩
theorem tw14121336696579540331:True:=⟨⟩
theorem tw11347388010325094285:True:=⟨⟩
theorem tw12812789987090642730:True:=⟨⟩
end PySem.W.Fast
set_option maxRecDepth 100000 in
set_option maxHeartbeats 0 in
theorem PySem.Challenge.cw_signsmooth_k52_staircases_listed_holds : PySem.Challenge.rw_signsmooth_k52_staircases_listed.Holds := by
 w_on; o_law; k_head; (case hw=>w_witness2)
 k_fill
 refine K52.walk (l:=PySem.Challenge.rw_signsmooth_k52_staircases_listed) rfl rfl (λw h Y=>PySem.W.kIn_of Y) ?F
 case F=>
   intro w mg fa h KX G hmg
   refine' K52.all_mk KX G hmg (.of ?_ ?_ ?_ ?_) (.of ?_ ?_ ?_ ?_) (.of ?_ ?_ ?_ ?_) (.of ?_ ?_ ?_ ?_) (.of ?_ ?_ ?_ ?_) (.of ?_ ?_ ?_ ?_) (.of ?_ ?_ ?_ ?_) (.of ?_ ?_ ?_ ?_) (.of ?_ ?_ ?_ ?_) (.of ?_ ?_ ?_ ?_) (.of ?_ ?_ ?_ ?_) (.of ?_ ?_ ?_ ?_) (.of ?_ ?_ ?_ ?_) (.of ?_ ?_ ?_ ?_) (.of ?_ ?_ ?_ ?_) (.of ?_ ?_ ?_ ?_) (.of ?_ ?_ ?_ ?_) (.of ?_ ?_ ?_ ?_) (.of ?_ ?_ ?_ ?_) (.of ?_ ?_ ?_ ?_) ⟨?_,?_,?_,?_,?_,?_,?_,?_,?_,?_,?_,?_,?_,?_,?_,?_,?_,?_,trivial⟩ ?_ ?_ ?_ (.of ?_ ?_ ?_ ?_ ?_) ?_ ?_ ?_ (.cons ?_ (.cons ?_ (.cons ?_ (.cons ?_ (.cons ?_ (.cons ?_ (.cons ?_ (.cons ?_ (.cons ?_ (.cons ?_ (.cons ?_ (.cons ?_ (.cons ?_ (.cons ?_ (.cons ?_ (.cons ?_ (.cons ?_ (.cons ?_ (.cons ?_ .nil))))))))))))))))))) (.cons ?_ (.cons ?_ (.cons ?_ (.cons ?_ (.cons ?_ (.cons ?_ (.cons ?_ (.cons ?_ (.cons ?_ (.cons ?_ (.cons ?_ (.cons ?_ (.cons ?_ (.cons ?_ (.cons ?_ (.cons ?_ (.cons ?_ (.cons ?_ (.cons ?_ .nil))))))))))))))))))) (.of ?_ ?_ ?_ ?_ ?_ ?_ ?_ ?_ ?_ ?_ ?_ ?_) (.cons ?_ ?_ (.cons ?_ ?_ (.cons ?_ ?_ (.cons ?_ ?_ (.cons ?_ ?_ (.cons ?_ ?_ (.cons ?_ ?_ .nil))))))) (.cons ?_ ?_ (.cons ?_ ?_ (.cons ?_ ?_ (.cons ?_ ?_ (.cons ?_ ?_ (.cons ?_ ?_ (.cons ?_ ?_ (.cons ?_ ?_ (.cons ?_ ?_ (.cons ?_ ?_ (.cons ?_ ?_ .nil))))))))))) ?_ ?_
   all_goals try k_is
   all_goals first | rfl | decide
#print axioms PySem.Challenge.cw_signsmooth_k52_staircases_listed_holds
