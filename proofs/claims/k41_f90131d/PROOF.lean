import PyProof.Rows.All
import Wide.All
import OpenK.AllK
import Wide.FinOn
import Lean
import PyProof.EqAt
import PyProof.EqKinds
import PyProof.TupleCall
import PyProof.DictKeyH
import PyProof.DictFindH
import PyProof.StrCalls2
import PyProof.StrCalls3
import PyProof.StrCalls
import PyProof.StrWalks
import PyProof.FString
import KE.KIntText
import PyProof.FitsReplace
import PyProof.StrLawsTight
import PyProof.StrLawsOcc
import PyProof.StrBlockI
import PyProof.SliceStr2
import PyProof.StrLawsChain
import PyProof.StrLaws
import PyProof.Rows.StrJoinMade
import PyProof.StrLawsIdx
import PyProof.StrLawsJoin
import PyProof.AutoIntG2
import PyProof.StrBlock
import PySem.Challenge.RW_signsmooth_k41_signs_refused
set_option genSizeOf false
set_option bootstrap.genMatcherCode false
set_option Elab.async false
set_option linter.all false
set_option maxRecDepth 100000
set_option exponentiation.threshold 4000
namespace Hx
open PySem PySem.Spec PyProof.Rows
theorem ky:entryFor table "proto.unchain" = some Builtin.«proto.unchain»:=entryFor_of_tree (by kernel_rfl)
section
variable {prog:Program} {w:World} {A:Around} {E:Value->Shared->Prop} {s:Shared}
theorem oI {α:Type} {a h:Addr} {oa oh:Obj} {us vs:Array Value} {Q:α->Shared->Prop} (hh:A.handled=some (.ref h)) (hne:h ≠ a) (ha:s.heap.get? a=some oa) (hda:oa.data=.fields us) (hsz:2 < us.size)
   (ho:s.heap.get? h=some oh) (hd:oh.data=.fields vs) (h2:vs[2]?=some .none)
   (q:E (.ref a) { s with heap:=s.heap.update a (Obj.mapFields (·.setIfInBounds 2 (.ref h))) }):wpAny (model prog w) A (raiseNew (.ref a):Sem α) Q E s:=by
 unfold raiseNew; refine wpAny_bind (wpAny_handled ?_); rw [hh]
 dsimp only
 rw [if_pos (show (Value.ref h != Value.ref a)=true by simp [hne])]
 refine wpAny_bind (wpAny_holding (wpAny_runValue (codeAny_builtin ky ?_)))
 unfold Builtin.«proto.unchain»
 dsimp only
 refine wpAny_bind (wpAny_field ho hd h2 ?_)
 rw [if_pos (show (Value.none == Value.none)=true by decide)]
 refine wpAny_pure ?_
 show wpAny _ A (do let _ <- updateField a 2 (.ref h); throw (Value.ref a)) _ _ _
 unfold updateField
 refine wpAny_bind (wpAny_bind (wpAny_load ha ?_))
 rw [hda]
 dsimp only
 rw [if_pos hsz]
 exact wpAny_update ha (wpAny_throw q)
theorem oZ {r h:Addr} {v left step:Int} {oh:Obj} {vs:Array Value} {Q:Option Value->Shared->Prop} (hh:A.handled=some (.ref h)) (ho:s.heap.get? h=some oh) (hd:oh.data=.fields vs) (h2:vs[2]?=some .none)
   (hr:IsRangeIter s.heap r v left step) (hl:left<=0) (k:∀ h',Heap.ExtBut r s.heap h'->Q none { s with heap:=h' }):wpAny (model prog w) A (pyNext (.ref r)) Q E s:=by
 have ty:s.TypeIs (.ref r) "range_iterator":=⟨_,hr,rfl⟩
 have hlt:=Heap.lt_size ho
 have fl:∀ {α:Type} {B:Around} {F:Value->Shared->Prop} {R:α->Shared->Prop} (i:Nat) (y:Int) {f:Value->Sem α},(#[rawInt v,rawInt left,rawInt step]:Array Value)[i]?=some (rawInt y)->wpAny (model prog w) B (f (rawInt y)) R F s->wpAny (model prog w) B (field (.ref r) i >>= f) R F s:=by
   intro α B F R i y f e q
   exact wpAny_bind (wpAny_field hr rfl e q)
 unfold pyNext
 refine wpAny_bind (wpAny_attempt (wpAny_callSpecial?_slot (name:=Str.ofString "__next__") ty F.slot_range_iterator_next (wpAny_call_entry F.slot_range_iterator_next ty F.entry_range_iterator_next (fl 0 v rfl (fl 1 left rfl (fl 2 step rfl ?_))) (F.args_range_iterator_next_1 _))))
 show wpAny (model prog w) A.in1 (if left<=0 then _ else _) _ _ s
 rw [if_pos hl]
 refine wpAny_bind (wpAny_rule (wpAny_bind ?_))
 show wpAny _ _ (do let e <- newExc (.type "StopIteration") []; _) _ _ _
 refine wpAny_bind ?_
 simp only [newExc,newTuple]
 refine wpAny_bind (wpAny_newObj_type (wpAny_bind (m:=firstArgMember _ _) (wpAny_of_eq (a:=.none) (by first | rfl | (simp only [firstArgMember]; rfl)) (wpAny_newObj_type ?_ (by size_fits)))) (by size_fits))
 have hg:((s.heap.push { cls:=.type "tuple",data:=.seq ([]:List Value).toArray }).push { cls:=.type "StopIteration",data:=.fields (#[Value.ref s.heap.objs.size,.none,.none,.none,.bool false,.none]++ownMembersOf (.type "StopIteration") []) }).get? (s.heap.push { cls:=.type "tuple",data:=.seq ([]:List Value).toArray }).objs.size
     = some { cls:=.type "StopIteration",data:=.fields (#[Value.ref s.heap.objs.size,.none,.none,.none,.bool false,.none]++ownMembersOf (.type "StopIteration") []) }:=Heap.get?_push_size _ rfl
 refine oI (h:=h) (A:=A.in1) hh ?_ hg rfl (by rw [Array.size_append]; exact Nat.lt_of_lt_of_le (by decide:2 < 6) (Nat.le_add_right _ _)) (Heap.get?_push_of_some _ (Heap.get?_push_of_some _ ho)) hd h2 ?_
 · intro z
   rw [Heap.size_push] at z
   exact absurd hlt (by rw [z]; exact Nat.not_lt.mpr (Nat.le_succ _))
 have hu:=Heap.get?_update_self (Obj.mapFields (·.setIfInBounds 2 (.ref h))) hg rfl
 refine wpAny_bind (wpAny_isInstance (T:="StopIteration") (b:=true) ⟨_,hu,rfl⟩ isSubtype_stop ?_)
 refine wpAny_pure (k _ λb o hb e=>?_)
 have bl:=Heap.lt_size e
 rw [Heap.get?_update_other _ _ (by intro z; rw [Heap.size_push] at z; exact absurd bl (by rw [<- z]; exact Nat.not_lt.mpr (Nat.le_succ _)))]
 exact Heap.get?_push_of_some _ (Heap.get?_push_of_some _ e)
end
end Hx
set_option linter.all false
set_option maxRecDepth 100000
namespace L2
open PySem PySem.Spec PyProof.Rows
noncomputable abbrev Key:=Sum Int Str
noncomputable def wZ:Key->Value->Bool
 | .inl k,v=>Value.isInt k v
 | .inr x,v=>Value.isStrOf x v
noncomputable def AX (w:World):Key->Int
 | .inl k=>hashInt k
 | .inr x=>hashStr w x
theorem a9:∀ {k:Key} {v:Value},wZ k v=true->(∃ i t,k=Sum.inl i/\v=Value.int i t)\/(∃ x t,k=Sum.inr x/\v=Value.str x t)
 | .inl i,v,h=>by
   obtain ⟨t,e⟩:=Value.isInt_shape (k:=i) (v:=v) h
   exact .inl ⟨i,t,rfl,e⟩
 | .inr x,v,h=>by
   obtain ⟨t,e⟩:=Value.isStrOf_shape (x:=x) (v:=v) h
   exact .inr ⟨x,t,rfl,e⟩
theorem xG (a b:Int):decide ((Sum.inl a:Key)=Sum.inl b)=(a == b):=by
 by_cases e:a=b
 · subst e; simp
 · have h:¬ (Sum.inl a:Key)=Sum.inl b:=λq=>e (Sum.inl.inj q)
   rw [decide_eq_false h]
   exact (beq_eq_false_iff_ne.mpr e).symm
theorem ye (a b:Str):decide ((Sum.inr a:Key)=Sum.inr b)=decide (a=b):=by
 by_cases e:a=b
 · subst e; simp
 · have h:¬ (Sum.inr a:Key)=Sum.inr b:=λq=>e (Sum.inr.inj q)
   rw [decide_eq_false h,decide_eq_false e]
theorem xS (a:Int) (b:Str):decide ((Sum.inl a:Key)=Sum.inr b)=false:=decide_eq_false (λq=>nomatch q)
theorem xq (a:Str) (b:Int):decide ((Sum.inr a:Key)=Sum.inl b)=false:=decide_eq_false (λq=>nomatch q)
noncomputable def qo (prog:Program) (w:World):PySem.KeyKind prog w Key where
 is:=wZ
 hash:=AX w
 inj:=λv a b ha hb=>by
   rcases a9 ha with ⟨i,t,rfl,rfl⟩ | ⟨x,t,rfl,rfl⟩
   · rcases a9 hb with ⟨j,u,rfl,e⟩ | ⟨y,u,rfl,e⟩
     · injection e with e1 _; rw [e1]
     · exact nomatch e
   · rcases a9 hb with ⟨j,u,rfl,e⟩ | ⟨y,u,rfl,e⟩
     · exact nomatch e
     · injection e with e1 _; rw [e1]
 byValue:=λk v h=>by
   rcases a9 h with ⟨i,t,rfl,rfl⟩ | ⟨x,t,rfl,rfl⟩ <;> rfl
 pyHash:=λhv h=>by
   rcases a9 hv with ⟨i,t,rfl,rfl⟩ | ⟨x,t,rfl,rfl⟩
   · exact wpAny_pyHash_int h
   · exact wpAny_pyHash_str h
 eqBool:=λhu hv h=>by
   rcases a9 hu with ⟨i,t,rfl,rfl⟩ | ⟨x,t,rfl,rfl⟩
   · rcases a9 hv with ⟨j,u,rfl,rfl⟩ | ⟨y,u,rfl,rfl⟩
     · rw [xG] at h; exact wpAny_eqBool_int h
     · rw [xS] at h; exact SeqAt.EqAt.int_str i t y u _ _ _ _ h
   · rcases a9 hv with ⟨j,u,rfl,rfl⟩ | ⟨y,u,rfl,rfl⟩
     · rw [xq] at h; exact SeqAt.EqAt.str_int x t j u _ _ _ _ h
     · rw [ye] at h; exact wpAny_eqBool_str h
 «strs»:=λk x t v h=>by
   rcases a9 h with ⟨i,u,rfl,e⟩ | ⟨y,u,rfl,e⟩
   · exact nomatch e
   · injection e with e1 _
     subst e1
     cases v <;> rfl
inductive V where
 | non | bl (b:Bool) | int (i:Int) | str (x:Str) | byt (b:Array UInt8) | flt (b:UInt64) | ref (a:Addr) | ty (n:String)
 deriving DecidableEq
noncomputable def RelV:V->Value->Prop
 | .non,u=>u=Value.none
 | .bl b,u=>u=Value.bool b
 | .int i,u=>∃ t,u=Value.int i t
 | .str x,u=>∃ t,u=Value.str x t
 | .byt b,u=>∃ t,u=Value.bytes b t
 | .flt b,u=>∃ t,u=Value.float b t
 | .ref a,u=>u=Value.ref a
 | .ty n,u=>u=Value.type n
noncomputable abbrev Vals:List V->List Value->Prop:=Paired RelV
theorem Vals.length {xs:List V} {us:List Value} (r:Vals xs us):xs.length=us.length:=Paired.length r
theorem Vals.get:∀ {xs:List V} {us:List Value} {i:Nat} {x:V},Vals xs us->xs[i]?=some x->∃ u,us[i]?=some u/\RelV x u
 | _,_,_,_,.nil,e=>by simp at e
 | _,_,0,_,.cons r _,e=>by simp at e; subst e; exact ⟨_,rfl,r⟩
 | _,_,i + 1,x,.cons _ t,e=>by
   obtain ⟨u,h1,h2⟩:=Vals.get (i:=i) (x:=x) t (by simpa using e)
   exact ⟨u,by simpa using h1,h2⟩
theorem Vals.set {x:V} {u:Value} (r:RelV x u):∀ {xs:List V} {us:List Value} (i:Nat),Vals xs us->Vals (xs.set i x) (us.set i u)
 | _,_,_,.nil=>.nil
 | _,_,0,.cons _ t=>.cons r t
 | _,_,i + 1,.cons q t=>.cons q (Vals.set r i t)
theorem Vals.append:∀ {xs ys:List V} {us ws:List Value},Vals xs us->Vals ys ws->Vals (xs++ys) (us++ws)
 | _,_,_,_,.nil,s=>s
 | _,_,_,_,.cons r t,s=>.cons r (Vals.append t s)
theorem Vals.take:∀ {xs:List V} {us:List Value} (n:Nat),Vals xs us->Vals (xs.take n) (us.take n)
 | _,_,0,_=>.nil
 | _,_,_ + 1,.nil=>.nil
 | _,_,n + 1,.cons r t=>.cons r (Vals.take n t)
theorem Vals.drop:∀ {xs:List V} {us:List Value} (n:Nat),Vals xs us->Vals (xs.drop n) (us.drop n)
 | _,_,0,r=>r
 | _,_,_ + 1,.nil=>.nil
 | _,_,n + 1,.cons _ t=>Vals.drop n t
noncomputable def Ay:Option V->Option Value->Prop
 | some v,some u=>RelV v u
 | none,none=>True
 | _,_=>False
noncomputable def KV {κ:Type}:List (κ × V)->List (κ × Value)->Prop:=Paired λ(p:κ × V) (q:κ × Value)=>p.1=q.1/\RelV p.2 q.2
noncomputable def kV:Key->V
 | .inl i=>.int i
 | .inr x=>.str x
inductive HO where
 | lst (xs:List V)
 | tup (xs:List V)
 | dK (kvs:List (Key × V)) | dT (kvs:List (List Key × V))
 | set (S:Int->Bool) (n:Nat)
 | ins (C dx:Addr) (fs:List (Str × V))
 | own (x:Addr)
 | xd (fs:List (Str × V))
 | met (f x:Addr)
 | rng (lo hi:Int)
 | frz (o:Obj) (u:HO)
 | tbl (ps:Array Value)
 | ext (φ:Heap->Prop)
noncomputable abbrev Hp:=Addr->Option HO
noncomputable def upd (H:Hp) (a:Addr) (o:HO):Hp:=λb=>if b=a then some o else H b
theorem aL {H:Hp} {a:Addr} {o:HO}:upd H a o a=some o:=by unfold upd; rw [if_pos rfl]
theorem aC {H:Hp} {a b:Addr} {o:HO} (h:b ≠ a):upd H a o b=H b:=by unfold upd; rw [if_neg h]
theorem aD {H:Hp} {a b:Addr} {o:HO} (h:H a=some o) (h':H b=none):a ≠ b:=by
 intro e; subst e; rw [h] at h'; cases h'
section
variable (P:Program) (w:World)
noncomputable def bZ (H:Hp) (h:Heap) (a:Addr):HO->Prop
 | .lst xs=>xs.length<=sizeLine/\∃ (its:List Value) (n:Nat),Vals xs its/\h.get? a=some { cls:=.type "list",data:=.seq its.toArray n }
 | .tup xs=>xs.length<=sizeLine/\∃ its:List Value,Vals xs its/\IsTup h a its.toArray
 | .dK kvs=>kvs.length<=sizeLine/\(a == sysModules)=false/\∃ vs,KV kvs vs/\h.DictOf (qo P w) a vs
 | .dT kvs=>kvs.length<=sizeLine/\(a == sysModules)=false/\∃ xs:List (List Key × Addr × Value),
     Paired (λ(p:List Key × V) (q:List Key × Addr × Value)=>p.1=q.1/\H q.2.1=some (.tup (p.1.map kV))/\RelV p.2 q.2.2) kvs xs /\
     ∃ o es ep,h.get? a=some o/\o.ExactDict/\o.data=.dict es ep/\es.toList=xs.map (entryOfKey (tupleKind (qo P w)))/\(xs.map (·.1)).Nodup
 | .set S n=>h.SetOf (intKind P w) a S n
 | .ins C dx fs=>H dx=some (.own a)/\fs.length<=1000/\dx ≠ a/\h.get? a=some (PySem.W.instObj C dx) /\
     ∃ mA,h.Ns1 dx mA/\(∀ f,Ay (fs.lookup f) (mA f))/\PySem.Within mA (fs.map (·.1))
 | .own _=>∃ o,h.get? a=some o
 | .xd fs=>∃ mA,h.Ns1 a mA/\∀ f,Ay (fs.lookup f) (mA f)
 | .rng lo hi=>∃ t u v,h.get? a=some { cls:=.type "range",data:=.fields #[.int lo t,.int hi u,.int 1 v] }
 | .frz o u=>h.get? a=some o/\bZ H h a u
 | .tbl ps=>h.get? a=some { cls:=.none,data:=.fields ps }
 | .met f x=>h.get? a=some (PySem.W.methodObj (.ref f) (.ref x))
 | .ext φ=>φ h/\(∃ o,h.get? a=some o)/\∀ h1 h2:Heap,φ h1->(∀ o,h1.get? a=some o->h2.get? a=some o)->φ h2
noncomputable def HOk (H:Hp) (h:Heap):Prop:=∀ a o,H a=some o->bZ P w H h a o
end
section
variable {P:Program} {w:World} {H H':Hp} {h h':Heap} {a:Addr} {o:HO}
theorem bZ.lt (x:bZ P w H h a o):a < h.objs.size:=by
 cases o with
 | lst xs=>obtain ⟨_,_,_,_,e⟩:=x; exact Heap.lt_size e
 | tup xs=>obtain ⟨_,_,_,p⟩:=x; exact p.lt
 | dK kvs=>obtain ⟨_,_,_,_,o,_,_,e,_⟩:=x; exact Heap.lt_size e
 | dT kvs=>obtain ⟨_,_,_,_,o,_,_,e,_⟩:=x; exact Heap.lt_size e
 | set S n=>obtain ⟨o,_,_,_,e,_⟩:=x; exact Heap.lt_size e
 | ins C dx fs=>obtain ⟨_,_,_,e,_⟩:=x; exact Heap.lt_size e
 | own y=>obtain ⟨_,e⟩:=x; exact Heap.lt_size e
 | xd fs=>obtain ⟨_,⟨_,_,_,e,_⟩,_⟩:=x; exact Heap.lt_size e
 | rng lo hi=>obtain ⟨_,_,_,e⟩:=x; exact Heap.lt_size e
 | frz ob u=>obtain ⟨e,_⟩:=x; exact Heap.lt_size e
 | tbl ps=>exact Heap.lt_size (show h.get? a=some _ from x)
 | met f y=>exact Heap.lt_size (show h.get? a=some _ from x)
 | ext φ=>obtain ⟨_,⟨_,e⟩,_⟩:=x; exact Heap.lt_size e
theorem Paired.zA {α β:Type} {F G:α->β->Prop}:∀ {l₁:List α} {l₂:List β},Paired F l₁ l₂->(∀ a b,F a b->G a b)->Paired G l₁ l₂
 | _,_,.nil,_=>.nil
 | _,_,.cons r t,f=>.cons (f _ _ r) (Paired.zA t f)
theorem bZ.ft (x:bZ P w H h a o) (k:∀ b u,(b=a\/H b=some (.own a))->h.get? b=some u->h'.get? b=some u)
   (ho:∀ b,H b=some (.own a)->H' b=some (.own a)) (ht:∀ b xs,H b=some (.tup xs)->H' b=some (.tup xs)):bZ P w H' h' a o:=by
 induction o with
 | lst xs=>obtain ⟨z,its,n,r,e⟩:=x; exact ⟨z,its,n,r,k _ _ (.inl rfl) e⟩
 | tup xs=>obtain ⟨z,its,r,ob,e,c⟩:=x; exact ⟨z,its,r,ob,k _ _ (.inl rfl) e,c⟩
 | dK kvs=>obtain ⟨z,y,vs,r,ob,es,ep,e,c⟩:=x; exact ⟨z,y,vs,r,ob,es,ep,k _ _ (.inl rfl) e,c⟩
 | dT kvs=>
   obtain ⟨z,y,xs,r,ob,es,ep,e,c⟩:=x
   exact ⟨z,y,xs,Paired.zA r λp q z=>⟨z.1,ht _ _ z.2.1,z.2.2⟩,ob,es,ep,k _ _ (.inl rfl) e,c⟩
 | set S n=>obtain ⟨ob,es,ep,t,e,c⟩:=x; exact ⟨ob,es,ep,t,k _ _ (.inl rfl) e,c⟩
 | ins C dx fs=>
   obtain ⟨d,z,ne,e,mA,⟨od,es,ep,e2,c⟩,r⟩:=x
   exact ⟨ho _ d,z,ne,k _ _ (.inl rfl) e,mA,⟨od,es,ep,k _ _ (.inr d) e2,c⟩,r⟩
 | own y=>obtain ⟨ob,e⟩:=x; exact ⟨ob,k _ _ (.inl rfl) e⟩
 | xd fs=>obtain ⟨mA,⟨od,es,ep,e,c⟩,r⟩:=x; exact ⟨mA,⟨od,es,ep,k _ _ (.inl rfl) e,c⟩,r⟩
 | rng lo hi=>obtain ⟨t,u,v,e⟩:=x; exact ⟨t,u,v,k _ _ (.inl rfl) e⟩
 | frz ob u ih=>obtain ⟨e,q⟩:=x; exact ⟨k _ _ (.inl rfl) e,ih q⟩
 | tbl ps=>
   have e:h.get? a=some { cls:=.none,data:=.fields ps }:=x
   show h'.get? a=some { cls:=.none,data:=.fields ps }
   exact k a _ (.inl rfl) e
 | met f y=>
   have e:h.get? a=some (PySem.W.methodObj (.ref f) (.ref y)):=x
   show h'.get? a=some (PySem.W.methodObj (.ref f) (.ref y))
   exact k a _ (.inl rfl) e
 | ext φ=>obtain ⟨p,⟨o,e⟩,st⟩:=x; exact ⟨st _ _ p λo q=>k _ _ (.inl rfl) q,⟨o,k _ _ (.inl rfl) e⟩,st⟩
theorem HOk.lt (x:HOk P w H h) (e:H a=some o):a < h.objs.size:=(x a o e).lt
theorem HOk.fresh (x:HOk P w H h) (e:h.objs.size<=a):H a=none:=by
 cases q:H a with
 | none=>rfl
 | some u=>exact absurd (Nat.lt_of_lt_of_le (x.lt q) e) (Nat.lt_irrefl _)
theorem HOk.kept (x:HOk P w H h) (k:∀ b u,h.get? b=some u->h'.get? b=some u):HOk P w H h':=λa o e=>
 (x a o e).ft (λb u _ q=>k b u q) (λ_ q=>q) λ_ _ q=>q
theorem HOk.laid (x:HOk P w H h) (k:∀ b u,h.get? b=some u->h'.get? b=some u) (hp:h.objs.size<=a) (new:bZ P w (upd H a o) h' a o):HOk P w (upd H a o) h':=λb u e=>by
 have hn:=x.fresh hp
 by_cases hb:b=a
 · subst hb; rw [aL] at e; cases e; exact new
 · rw [aC hb] at e
   exact (x b u e).ft (λc v _ q=>k c v q) (λc q=>by rw [aC (aD q hn)]; exact q) λc xs q=>by rw [aC (aD q hn)]; exact q
end
noncomputable def Rd (H:Hp) (a:Addr) (u:HO):Prop:=H a=some u\/∃ o,H a=some (.frz o u)
theorem Rd.ok {P:Program} {w:World} {H:Hp} {h:Heap} {a:Addr} {u:HO} (r:Rd H a u) (x:HOk P w H h):bZ P w H h a u:=by
 rcases r with r | ⟨o,r⟩
 · exact x a u r
 · obtain ⟨_,q⟩:=x a _ r
   exact q
noncomputable def Mut:Option HO->Prop
 | some (.lst _)=>True
 | some (.dK _)=>True
 | some (.dT _)=>True
 | some (.set _ _)=>True
 | some (.ins _ _ _)=>True
 | some (.ext _)=>True
 | _=>False
section
variable {P:Program} {w:World} {H:Hp} {h h':Heap} {x e:Addr} {o':HO}
theorem HOk.write (ok:HOk P w H h) (mu:Mut (H x)) (he:e=x\/H e=some (.own x)) (k:∀ b u,b ≠ e->h.get? b=some u->h'.get? b=some u) (heo:∃ u,h'.get? e=some u)
   (new:bZ P w (upd H x o') h' x o'):HOk P w (upd H x o') h':=λb u q=>by
 have nown:∀ c y,H c=some (.own y)->c ≠ x:=λc y r z=>by subst z; rw [r] at mu; exact mu
 have ntup:∀ c xs,H c=some (.tup xs)->c ≠ x:=λc xs r z=>by subst z; rw [r] at mu; exact mu
 by_cases hb:b=x
 · subst hb; rw [aL] at q; cases q; exact new
 · rw [aC hb] at q
   by_cases hbe:b=e
   · have q':H b=some (.own x):=by
       rcases he with z | z
       · exact absurd (hbe.trans z) hb
       · rw [hbe]; exact z
     rw [q] at q'; cases q'
     obtain ⟨v,hv⟩:=heo
     exact ⟨v,by rw [hbe]; exact hv⟩
   · refine (ok b u q).ft (λc v hc r=>k c v ?_ r) (λc r=>by rw [aC (nown c b r)]; exact r) λc xs r=>by rw [aC (ntup c xs r)]; exact r
     rcases hc with rfl | hc
     · exact hbe
     · rintro rfl
       rcases he with z | z
       · exact nown c b hc z
       · rw [hc] at z; cases z; exact hb rfl
end
structure Un (fs ex:List Addr) (H H':Hp) (h h':Heap):Prop where
 keep:∀ b o,h.get? b=some o->H b=none->b ∉ fs->b ∉ ex->h'.get? b=some o
 slot:∀ b o,h.get? b=some o->H b=none->b ∈ fs->b ∉ ex->∃ sl,h'.get? b=some { o with slots:=sl }
 free:∀ b o,h.get? b=some o->H b=none->b ∉ ex->H' b=none
 there:∀ b o,h.get? b=some o->b ∉ ex->∃ o',h'.get? b=some o'
 tups:∀ b xs,H b=some (.tup xs)->H' b=some (.tup xs)
 frzs:∀ b o u,H b=some (.frz o u)->H' b=some (.frz o u)
 tbls:∀ b ps,H b=some (.tbl ps)->∃ more,H' b=some (.tbl (ps++more))
section
variable {fs fs' ex ex':List Addr} {H H1 H2:Hp} {h h1 h2 h':Heap} {a x e:Addr} {o:HO}
theorem Un.any (u:Un fs ex H H1 h h1) {b:Addr} {ob:Obj} (q:h.get? b=some ob) (n:H b=none) (hx:b ∉ ex):∃ sl,h1.get? b=some { ob with slots:=sl }:=by
 by_cases hb:b ∈ fs
 · exact u.slot b ob q n hb hx
 · exact ⟨ob.slots,u.keep b ob q n hb hx⟩
theorem Un.kept (k:∀ b u,h.get? b=some u->h'.get? b=some u):Un fs ex H H h h':=
 ⟨λb ob q _ _ _=>k b ob q,λb ob q _ _ _=>⟨ob.slots,k b ob q⟩,λ_ _ _ n _=>n,λb ob q _=>⟨ob,k b ob q⟩,λ_ _ q=>q,λ_ _ _ q=>q,λ_ ps q=>⟨#[],by rw [q]; simp⟩⟩
theorem Un.refl:Un fs ex H H h h:=Un.kept λ_ _ q=>q
theorem Un.laid (k:∀ b u,h.get? b=some u->h'.get? b=some u) (hp:h.objs.size<=a) (hn:H a=none):Un fs ex H (upd H a o) h h' where
 keep:=λb u q _ _ _=>k b u q
 slot:=λb u q _ _ _=>⟨u.slots,k b u q⟩
 free:=λb u q n _=>by rw [aC (Nat.ne_of_lt (Nat.lt_of_lt_of_le (Heap.lt_size q) hp))]; exact n
 there:=λb u q _=>⟨u,k b u q⟩
 tups:=λb xs q=>by rw [aC (aD q hn)]; exact q
 frzs:=λb u xs q=>by rw [aC (aD q hn)]; exact q
 tbls:=λb ps q=>⟨#[],by rw [aC (aD q hn),q]; simp⟩
theorem Un.write (mu:Mut (H x)) (he:e=x\/H e=some (.own x)) (k:∀ b u,b ≠ e->h.get? b=some u->h'.get? b=some u) (heo:∃ u,h'.get? e=some u):Un fs ex H (upd H x o) h h':=by
 have hx:∀ b,H b=none->b ≠ x:=λb n z=>by subst z; rw [n] at mu; exact mu
 have hb:∀ b,H b=none->b ≠ e:=λb n z=>by
   subst z
   rcases he with r | r
   · exact hx b n r
   · rw [n] at r; cases r
 have hm:∀ b u,H b=some u->¬ Mut (some u)->b ≠ x:=λb u q nm z=>by subst z; rw [q] at mu; exact nm mu
 refine ⟨λb u q n _ _=>k b u (hb b n) q,λb u q n _ _=>⟨u.slots,k b u (hb b n) q⟩,λb u q n _=>by rw [aC (hx b n)]; exact n,λb u q _=>?_,
   λb xs q=>by rw [aC (hm b _ q λz=>z)]; exact q,λb u xs q=>by rw [aC (hm b _ q λz=>z)]; exact q,λb ps q=>⟨#[],by rw [aC (hm b _ q λz=>z),q]; simp⟩⟩
 by_cases hbe:b=e
 · subst hbe; exact heo
 · exact ⟨u,k b u hbe q⟩
end
noncomputable def trk (h:Heap) (H:Hp):List Addr:=(List.range h.objs.size).filter λa=>(H a).isSome
noncomputable def mz (h:Heap) (H:Hp):Heap:=PySem.W.hideAll h (trk h H)
theorem rV (h:Heap) (H:Hp):(mz h H).objs.size=h.objs.size:=PySem.W.hideAll_size _ _
theorem uG {h:Heap} {H:Hp} {b:Addr} {o:Obj} (e:h.get? b=some o) (n:H b=none):(mz h H).get? b=some o:=
 PySem.W.hideAll_get _ e λhm=>by
   have q:(H b).isSome=true:=(List.mem_filter.mp hm).2
   rw [n] at q; simp at q
theorem uV {h:Heap} {H:Hp} {b:Addr} {o:Obj} (e:(mz h H).get? b=some o):h.get? b=some o/\H b=none:=by
 have e':h.get? b=some o:=PySem.W.of_hideAll (trk h H) e
 refine ⟨e',?_⟩
 cases q:H b with
 | none=>rfl
 | some x=>
   have hm:b ∈ trk h H:=List.mem_filter.mpr ⟨List.mem_range.mpr (Heap.lt_size e'),by simp [q]⟩
   have z:(mz h H).get? b=none:=PySem.W.hideAll_none (trk h H) hm
   rw [z] at e; cases e
noncomputable def vA (g h:Heap) (L:Addr):List (Addr × Obj):=(List.range h.objs.size).filterMap λa=>if a=L\/(g.get? a).isSome=true then none else (h.get? a).map λo=>(a,o)
noncomputable def rest (g h:Heap) (L d:Addr):List (Addr × Obj):=(vA g h L).filter λp=>decide (p.1 ≠ d)
structure Mod (K:PySem.W.Frag) (mg:Str->Option Value) (base:Heap):Prop where
 kin:K.In base
 glob:base.Ns mainGlobals mg
 blt:∃ mb,base.Ns builtinsNs mb/\∀ x:Str,x ≠ "__name__" -> mb x=bootBuiltins x
 nolimit:base.NoLimit
structure Cx where
 prog:Program
 w:World
 K:PySem.W.Frag
 mg:Str->Option Value
 base:Heap
 A:Around
 N:List Str
 s₀:Shared
 H₀:Hp
 env:Env
 outer:List Env
 stack:List Env
 ex:List Addr
 fn:Str->Bool
 calm:Bool
 pn:List (Addr × Obj)
 xe:Value->Shared->Prop
noncomputable def frs (l:List Env):List Addr:=l.filterMap (·.frame)
noncomputable abbrev Cx.fs (X:Cx):List Addr:=frs X.outer
noncomputable def Vis (sc:Scope) (x:Str):Prop:=sc.names.lookup x=some .local\/sc.names.lookup x=some .cell\/sc.names.lookup x=some .free
noncomputable def Loc (sc:Scope) (x:Str):Prop:=sc.names.lookup x=some .local\/sc.names.lookup x=some .cell
noncomputable def Look (env:Env) (h:Heap) (m:Str->Option Value) (x:Str) (u:Value):Prop:=
 (env.kindOf x=some .local/\m x=some u)\/((env.kindOf x=some .cell\/env.kindOf x=some .free)/\∃ c,env.cells.lookup x=some c/\h.IsCell c (some u))
structure Cx.Ok (X:Cx):Prop where
 mod:Mod X.K X.mg X.base
 kind:X.env.scope.kind=.function
 glob:X.env.globals=mainGlobals
 blt:X.env.builtins=builtinsNs
 above:X.s₀.heap.objs.size<=X.env.locals
 inj:∀ x y c,X.env.cells.lookup x=some c->X.env.cells.lookup y=some c->x=y
 has:∀ x,(X.env.kindOf x=some .cell\/X.env.kindOf x=some .free)->∃ c,X.env.cells.lookup x=some c
 cab:∀ x c,X.fn x=true->X.env.cells.lookup x=some c->X.s₀.heap.objs.size<=c
 hd:X.calm=true->X.A.handled=none
 frames:X.A.frames=some X.stack
 stk:X.stack=X.outer\/(X.stack=X.env :: X.outer/\X.env.frame=some X.env.locals)
 exf:∀ b ∈ X.ex,b ≠ X.env.locals/\∀ x c,X.env.cells.lookup x=some c->c ≠ b
 bs:∀ b o,X.base.get? b=some o->X.s₀.heap.get? b=some o/\X.H₀ b=none
 bsz:X.base.objs.size<=X.s₀.heap.objs.size
 noex:∀ b o,X.base.get? b=some o->b ∉ X.ex
 exfs:∀ b ∈ X.ex,b ∉ X.fs
 iO:X.s₀.heap.FunFrames X.base X.outer
 frf:∀ b ∈ X.fs,X.H₀ b=none
structure Inv (X:Cx) (pins:List (Addr × Obj)) (σ:List (Option V)) (H:Hp) (s:Shared):Prop where
 ok:X.Ok
 os:s.os=X.s₀.os
 bare:AllBare s.gens
 base:Un X.fs X.ex X.H₀ H X.s₀.heap s.heap
 loc:∃ m,s.heap.Ns X.env.locals m/\∀ (i:Nat) (x:Str) (v:V),X.N[i]?=some x->σ[i]?=some (some v)->Vis X.env.scope x->∃ u,RelV v u/\Look X.env s.heap m x u
 cell:∀ x c,X.env.cells.lookup x=some c->∃ v,s.heap.IsCell c v
 free:H X.env.locals=none
 freeC:∀ x c,X.env.cells.lookup x=some c->H c=none
 pin:∀ p ∈ X.pn++pins,s.heap.get? p.1=some p.2/\H p.1=none/\p.1 ≠ X.env.locals/\p.1 ∉ X.fs/\∀ v,p.2.data ≠ .cell v
 hok:HOk X.prog X.w H s.heap
 len:σ.length=X.N.length
section
variable {X:Cx} {pins:List (Addr × Obj)} {σ:List (Option V)} {H H':Hp} {s:Shared} {h':Heap}
theorem Cx.Ok.Bl (ok:X.Ok) {b:Addr} {o:Obj} (e:X.base.get? b=some o):b ∉ X.fs:=λhb=>by
 have:=(ok.iO.mem hb).1
 rw [e] at this; cases this
theorem Inv.bs (I:Inv X pins σ H s):∀ b o,X.base.get? b=some o->s.heap.get? b=some o/\H b=none:=λb o e=>
 ⟨I.base.keep b o (I.ok.bs b o e).1 (I.ok.bs b o e).2 (I.ok.Bl e) (I.ok.noex b o e),I.base.free b o (I.ok.bs b o e).1 (I.ok.bs b o e).2 (I.ok.noex b o e)⟩
theorem Inv.bk (I:Inv X pins σ H s):∀ b o,X.base.get? b=some o->s.heap.get? b=some o:=λb o e=>(I.bs b o e).1
theorem Inv.mod (I:Inv X pins σ H s):Mod X.K X.mg X.base:=I.ok.mod
theorem Inv.kIn (I:Inv X pins σ H s):X.K.In s.heap:=I.ok.mod.kin.keeps I.bk
theorem Inv.lt (I:Inv X pins σ H s):X.env.locals < s.heap.objs.size:=let ⟨_,hn,_⟩:=I.loc; hn.lt
theorem Inv.sz (I:Inv X pins σ H s):X.s₀.heap.objs.size<=s.heap.objs.size:=Nat.le_trans I.ok.above (Nat.le_of_lt I.lt)
theorem Inv.A5 (I:Inv X pins σ H s) {a:Addr} (h:s.heap.objs.size<=a):a ∉ X.fs:=λhb=>by
 obtain ⟨_,o,ho,_⟩:=I.ok.iO.mem hb
 exact absurd (Nat.lt_of_lt_of_le (Heap.lt_size ho) (Nat.le_trans I.sz h)) (Nat.lt_irrefl _)
theorem Inv.cne (I:Inv X pins σ H s):∀ x c,X.env.cells.lookup x=some c->c ≠ X.env.locals:=λx c e z=>by
 obtain ⟨v,o,ho,hd⟩:=I.cell x c e
 obtain ⟨m,⟨o',es,ep,ho',hd',_⟩,_⟩:=I.loc
 rw [z,ho'] at ho; cases ho; rw [hd'] at hd; cases hd
theorem Inv.iO (I:Inv X pins σ H s):s.heap.FunFrames X.base X.outer:=by
 have all:∀ (l:List Env),(∀ b ∈ frs l,b ∈ X.fs)->X.s₀.heap.FunFrames X.base l->s.heap.FunFrames X.base l:=by
   intro l
   induction l with
   | nil=>intro _ _; trivial
   | cons env r ih=>
     intro hs hl
     obtain ⟨hk,⟨L,o,hf,hn,ho,hd⟩,hr⟩:=hl
     have hL:L ∈ X.fs:=hs L (by unfold frs; rw [List.filterMap_cons,hf]; exact List.mem_cons_self)
     obtain ⟨sl,e⟩:=I.base.slot L o ho (I.ok.frf L hL) hL λz=>I.ok.exfs L z hL
     exact ⟨hk,⟨L,_,hf,hn,e,hd⟩,ih (λb hb=>hs b (by unfold frs; rw [List.filterMap_cons,hf]; exact List.mem_cons_of_mem _ hb)) hr⟩
 exact all X.outer (λ_ hb=>hb) I.ok.iO
theorem Inv.stack (I:Inv X pins σ H s):s.heap.FunFrames X.base X.stack:=by
 rcases I.ok.stk with e | ⟨e,hf⟩
 · rw [e]; exact I.iO
 · rw [e]
   obtain ⟨m,hn,_⟩:=I.loc
   refine .cons (by rw [I.ok.kind]; decide) hf hn ?_ I.iO
   exact Heap.get?_none_of_le (Nat.le_trans I.ok.bsz I.ok.above)
theorem Inv.jo (I:Inv X pins σ H s):∀ b ∈ frs X.stack,b ∈ X.env.locals :: X.fs:=λb hb=>by
 rcases I.ok.stk with e | ⟨e,hf⟩
 · rw [e] at hb; exact List.mem_cons_of_mem _ hb
 · rw [e] at hb
   unfold frs at hb
   rw [List.filterMap_cons,hf] at hb
   exact hb
theorem Inv.gX (I:Inv X pins σ H s):∀ b ∈ frs X.stack,H b=none:=λb hb=>by
 rcases List.mem_cons.mp (I.jo b hb) with e | hb
 · rw [e]; exact I.free
 · obtain ⟨_,o,ho,_⟩:=I.ok.iO.mem hb
   exact I.base.free b o ho (I.ok.frf b hb) λz=>I.ok.exfs b z hb
theorem Inv.step {g':Array GenState} {t':Nat} {d':Drawn} {ch:List Addr} (I:Inv X pins σ H s)
   (hch:∀ b ∈ ch,(b ∈ X.ex\/X.s₀.heap.objs.size<=b)/\b ≠ X.env.locals/\(∀ x c,X.env.cells.lookup x=some c->c ≠ b)/\∀ p ∈ X.pn++pins,p.1 ≠ b)
   (keep:∀ b o,b ≠ X.env.locals->b ∉ X.fs->b ∉ ch->s.heap.get? b=some o->H b=none->h'.get? b=some o)
   (slot:∀ b o,b ≠ X.env.locals->b ∈ X.fs->b ∉ ch->s.heap.get? b=some o->H b=none->∃ sl,h'.get? b=some { o with slots:=sl }) (free:∀ b o,b ∉ ch->s.heap.get? b=some o->H b=none->H' b=none)
   (there:∀ b o,b ∉ ch->s.heap.get? b=some o->∃ o',h'.get? b=some o')
   (tups:∀ b xs,H b=some (.tup xs)->H' b=some (.tup xs)) (frzs:∀ b o u,H b=some (.frz o u)->H' b=some (.frz o u)) (tbls:∀ b ps,H b=some (.tbl ps)->∃ more,H' b=some (.tbl (ps++more)))
   (ns:∀ m,s.heap.Ns X.env.locals m->h'.Ns X.env.locals m) (hok:HOk X.prog X.w H' h') (hg:AllBare g') :
   Inv X pins σ H' { s with heap:=h',gens:=g',drawn:=d',toks:=t' }:=by
 have neL:∀ b o,X.s₀.heap.get? b=some o->b ≠ X.env.locals:=λb o e=>Nat.ne_of_lt (Nat.lt_of_lt_of_le (Heap.lt_size e) I.ok.above)
 have neC:∀ b o,X.s₀.heap.get? b=some o->b ∉ X.ex->b ∉ ch:=λb o e hx hb=>by
   rcases (hch b hb).1 with z | z
   · exact hx z
   · exact absurd (Nat.lt_of_lt_of_le (Heap.lt_size e) z) (Nat.lt_irrefl _)
 have cellK:∀ x c,X.env.cells.lookup x=some c->∀ v,s.heap.IsCell c v->h'.IsCell c v:=λx c e v ⟨o,ho,hd⟩=>by
   have nch:c ∉ ch:=λz=>(hch c z).2.2.1 x c e rfl
   by_cases hc:c ∈ X.fs
   · obtain ⟨sl,q⟩:=slot c o (I.cne x c e) hc nch ho (I.freeC x c e)
     exact ⟨_,q,hd⟩
   · exact ⟨o,keep c o (I.cne x c e) hc nch ho (I.freeC x c e),hd⟩
 refine ⟨I.ok,I.os,hg,⟨λb o e n hb hx=>?_,λb o e n hb hx=>?_,λb o e n hx=>?_,λb o e hx=>?_,λb xs e=>tups b xs (I.base.tups b xs e),λb o xs e=>frzs b o xs (I.base.frzs b o xs e),λb ps e=>?_⟩,?_,λx c e=>?_,?_,λx c e=>?_,λp hp=>?_,hok,I.len⟩
 · exact keep b o (neL b o e) hb (neC b o e hx) (I.base.keep b o e n hb hx) (I.base.free b o e n hx)
 · obtain ⟨sl,e1⟩:=I.base.slot b o e n hb hx
   obtain ⟨sl',e2⟩:=slot b _ (neL b o e) hb (neC b o e hx) e1 (I.base.free b o e n hx)
   exact ⟨sl',e2⟩
 · obtain ⟨o',e1⟩:=I.base.there b o e hx
   exact free b o' (neC b o e hx) e1 (I.base.free b o e n hx)
 · obtain ⟨o',e1⟩:=I.base.there b o e hx
   exact there b o' (neC b o e hx) e1
 · obtain ⟨m1,e1⟩:=I.base.tbls b ps e
   obtain ⟨m2,e2⟩:=tbls b _ e1
   exact ⟨m1++m2,by rw [e2,Array.append_assoc]⟩
 · obtain ⟨m,hn,hl⟩:=I.loc
   refine ⟨m,ns m hn,λi x v e1 e2 e3=>?_⟩
   obtain ⟨u,r,l⟩:=hl i x v e1 e2 e3
   refine ⟨u,r,?_⟩
   rcases l with l | ⟨k,c,e,z⟩
   · exact .inl l
   · exact .inr ⟨k,c,e,cellK x c e _ z⟩
 · obtain ⟨v,z⟩:=I.cell x c e
   exact ⟨v,cellK x c e v z⟩
 · obtain ⟨m,⟨o,_,_,ho,_⟩,_⟩:=I.loc
   exact free _ o (λz=>(hch _ z).2.1 rfl) ho I.free
 · obtain ⟨v,o,ho,hd⟩:=I.cell x c e
   exact free c o (λz=>(hch c z).2.2.1 x c e rfl) ho (I.freeC x c e)
 · obtain ⟨e,n,ne,nf,d⟩:=I.pin p hp
   have nch:p.1 ∉ ch:=λz=>(hch p.1 z).2.2.2 p hp rfl
   exact ⟨keep p.1 p.2 ne nf nch e n,free p.1 p.2 nch e n,ne,nf,d⟩
theorem Inv.un {t':Nat} (I:Inv X pins σ H s) (u:Un X.fs [] H H' s.heap h') (hok:HOk X.prog X.w H' h'):Inv X pins σ H' { s with heap:=h',toks:=t' }:=by
 obtain ⟨m,⟨o,es,ep,ho,r⟩,_⟩:=id I.loc
 obtain ⟨sl,hL⟩:=u.any ho I.free (by simp)
 exact I.step (g':=s.gens) (d':=s.drawn) (ch:=[]) (λ_ z=>nomatch z) (λb o _ hb _ e n=>u.keep b o e n hb (by simp)) (λb o _ hb _ e n=>u.slot b o e n hb (by simp)) (λb o _ e n=>u.free b o e n (by simp)) (λb o _ e=>u.there b o e (by simp)) u.tups u.frzs u.tbls (λm' hm=>by
   obtain ⟨o',es',ep',ho',r'⟩:=hm
   rw [ho] at ho'; cases ho'
   exact ⟨_,es',ep',hL,r'⟩) hok I.bare
theorem Inv.call {g':Array GenState} {t':Nat} {d':Drawn} {ch:List Addr} (I:Inv X pins σ H s) (u:Un (frs X.stack) ch H H' s.heap h') (hok:HOk X.prog X.w H' h') (hg:AllBare g')
   (hch:∀ b ∈ ch,(b ∈ X.ex\/X.s₀.heap.objs.size<=b)/\b ≠ X.env.locals/\(∀ x c,X.env.cells.lookup x=some c->c ≠ b)/\∀ p ∈ X.pn++pins,p.1 ≠ b) :
   Inv X pins σ H' { s with heap:=h',gens:=g',drawn:=d',toks:=t' }:=by
 obtain ⟨m,⟨o,es,ep,ho,r⟩,_⟩:=id I.loc
 obtain ⟨sl,hL⟩:=u.any ho I.free λz=>(hch _ z).2.1 rfl
 exact I.step (ch:=ch) hch (λb o hL hb hc e n=>u.keep b o e n (λz=>(List.mem_cons.mp (I.jo b z)).elim hL hb) hc) (λb o _ _ hc e n=>u.any e n hc) (λb o hc e n=>u.free b o e n hc) (λb o hc e=>u.there b o e hc) u.tups u.frzs u.tbls (λm' hm=>by
   obtain ⟨o',es',ep',ho',r'⟩:=hm
   rw [ho] at ho'; cases ho'
   exact ⟨_,es',ep',hL,r'⟩) hok hg
theorem Inv.turned {t':Nat} {it:Addr} (I:Inv X pins σ H s) (k:∀ b o,b ≠ it->s.heap.get? b=some o->h'.get? b=some o) (hn:H it=none) (hL:it ≠ X.env.locals)
   (h1:it ∈ X.ex\/X.s₀.heap.objs.size<=it) (h2:∀ x c,X.env.cells.lookup x=some c->c ≠ it) (h3:∀ p ∈ X.pn++pins,p.1 ≠ it):Inv X pins σ H { s with heap:=h',toks:=t' }:=by
 have nit:∀ b u,H b=some u->b ≠ it:=λb u e z=>by rw [z,hn] at e; cases e
 refine I.step (g':=s.gens) (d':=s.drawn) (ch:=[it]) (λb hb=>?_) (λb o _ _ hc e _=>k b o (λz=>hc (by simp [z])) e) (λb o _ _ hc e _=>⟨o.slots,k b o (λz=>hc (by simp [z])) e⟩) (λ_ _ _ _ n=>n)
   (λb o hc e=>⟨o,k b o (λz=>hc (by simp [z])) e⟩) (λ_ _ e=>e) (λ_ _ _ e=>e) (λb ps e=>⟨#[],by rw [e]; simp⟩) (λm hm=>?_) (λb u e=>?_) I.bare
 · have e:b=it:=by simpa using hb
   subst e
   exact ⟨h1,hL,h2,h3⟩
 · obtain ⟨o,es,ep,ho,r⟩:=hm
   exact ⟨o,es,ep,k _ o (Ne.symm hL) ho,r⟩
 · refine (I.hok b u e).ft (λc v hc q=>k c v ?_ q) (λ_ q=>q) λ_ _ q=>q
   rcases hc with z | z
   · rw [z]; exact nit b u e
   · exact nit c _ z
theorem Inv.tok (I:Inv X pins σ H s) (t:Nat):Inv X pins σ H { s with toks:=t }:=I.un (h':=s.heap) (t':=t) Un.refl I.hok
theorem Inv.kept {t':Nat} (I:Inv X pins σ H s) (k:∀ b u,s.heap.get? b=some u->h'.get? b=some u):Inv X pins σ H { s with heap:=h',toks:=t' }:=I.un (Un.kept k) (I.hok.kept k)
theorem Inv.laid {a:Addr} {o:HO} {t':Nat} (I:Inv X pins σ H s) (k:∀ b u,s.heap.get? b=some u->h'.get? b=some u) (hp:s.heap.objs.size<=a) (new:bZ X.prog X.w (upd H a o) h' a o) :
   Inv X pins σ (upd H a o) { s with heap:=h',toks:=t' }:=I.un (Un.laid k hp (I.hok.fresh hp)) (I.hok.laid k hp new)
theorem Inv.write {x e:Addr} {o:HO} {t':Nat} (I:Inv X pins σ H s) (mu:Mut (H x)) (he:e=x\/H e=some (.own x)) (k:∀ b u,b ≠ e->s.heap.get? b=some u->h'.get? b=some u) (heo:∃ u,h'.get? e=some u)
   (new:bZ X.prog X.w (upd H x o) h' x o):Inv X pins σ (upd H x o) { s with heap:=h',toks:=t' }:=I.un (Un.write mu he k heo) (I.hok.write mu he k heo new)
theorem Inv.qb {pins':List (Addr × Obj)} (I:Inv X pins σ H s) (h:∀ p ∈ pins',s.heap.get? p.1=some p.2/\H p.1=none/\p.1 ≠ X.env.locals/\p.1 ∉ X.fs/\∀ v,p.2.data ≠ .cell v):Inv X pins' σ H s:=
 ⟨I.ok,I.os,I.bare,I.base,I.loc,I.cell,I.free,I.freeC,λp hp=>(List.mem_append.mp hp).elim (λz=>I.pin p (List.mem_append_left _ z)) (h p),I.hok,I.len⟩
theorem jA {N:List Str} (hN:N.Nodup) {i j:Nat} {x:Str} (a:N[i]?=some x) (b:N[j]?=some x):i=j:=by
 obtain ⟨h1,e1⟩:=List.getElem?_eq_some_iff.mp a
 obtain ⟨h2,e2⟩:=List.getElem?_eq_some_iff.mp b
 exact (List.getElem_inj hN).mp (e1.trans e2.symm)
theorem rT {M:Model} {A:Around} {E:Value->Shared->Prop} {i:Nat} {x:Str} {v:V} {u:Value} {Q:Unit->Shared->Prop} (I:Inv X pins σ H s) (hN:X.N.Nodup) (hi:X.N[i]?=some x) (hx:Loc X.env.scope x) (r:RelV v u)
   (h:∀ s',Inv X pins (σ.set i (some v)) H s'->(∃ a,Heap.SameBut a s.heap s'.heap/\(a=X.env.locals\/X.env.cells.lookup x=some a))->Q () s') (hf:X.fn x=true\/X.env.scope.names.lookup x=some .local:=by first | exact .inl rfl | exact .inr rfl | assumption):wpAny M A (storeName X.env x u) Q E s:=by
 obtain ⟨m,hn,hl⟩:=id I.loc
 have hcls:(X.env.scope.kind == .class || (X.env.scope.kind == .module && X.env.locals != X.env.globals))=false:=by rw [I.ok.kind]; rfl
 have hiσ:i < σ.length:=by rw [I.len]; exact (List.getElem?_eq_some_iff.mp hi).1
 have cne:=I.cne
 have tracked:∀ {a:Addr} {h':Heap},(∃ o,s.heap.get? a=some o/\H a=none)->Heap.SameBut a s.heap h'->HOk X.prog X.w H h':=λ{a h'} ha hs b ob e=>by
   obtain ⟨_,_,hfree⟩:=ha
   refine (I.hok b ob e).ft (λc w' hc q=>(hs.2 c ?_).trans q) (λ_ q=>q) λ_ _ q=>q
   rintro rfl
   rcases hc with rfl | hc
   · rw [hfree] at e; cases e
   · rw [hfree] at hc; cases hc
 rcases hx with hk | hk
 · refine wpAny_storeName_local hk hn (λh' hn' hs=>?_) hcls
   obtain ⟨oL,_,_,hoL,_⟩:=id hn
   refine h _ ⟨I.ok,I.os,I.bare,⟨λb o e n hb hx=>?_,λb o e n hb hx=>?_,I.base.free,λb o e hx=>?_,I.base.tups,I.base.frzs,I.base.tbls⟩,⟨_,hn',λj y v' e1 e2 e3=>?_⟩,λy c e=>?_,I.free,I.freeC,λp hp=>?_,tracked ⟨oL,hoL,I.free⟩ hs,by simpa using I.len⟩ ⟨_,hs,.inl rfl⟩
   · exact (hs.2 b (Nat.ne_of_lt (Nat.lt_of_lt_of_le (Heap.lt_size e) I.ok.above))).trans (I.base.keep b o e n hb hx)
   · obtain ⟨sl,e1⟩:=I.base.slot b o e n hb hx
     exact ⟨sl,(hs.2 b (Nat.ne_of_lt (Nat.lt_of_lt_of_le (Heap.lt_size e) I.ok.above))).trans e1⟩
   · obtain ⟨o',e1⟩:=I.base.there b o e hx
     exact ⟨o',(hs.2 b (Nat.ne_of_lt (Nat.lt_of_lt_of_le (Heap.lt_size e) I.ok.above))).trans e1⟩
   · by_cases hj:j=i
     · subst hj
       rw [hi] at e1; cases e1
       rw [List.getElem?_set_self hiσ] at e2
       cases e2
       exact ⟨u,r,.inl ⟨hk,by simp⟩⟩
     · rw [List.getElem?_set_ne (Ne.symm hj)] at e2
       obtain ⟨u',r',q⟩:=hl j y v' e1 e2 e3
       refine ⟨u',r',?_⟩
       rcases q with ⟨k,e⟩ | ⟨k,c,e,z⟩
       · refine .inl ⟨k,?_⟩
         have:y ≠ x:=λe=>hj (jA hN e1 (e ▸ hi))
         simp [this,e]
       · exact .inr ⟨k,c,e,z.sameBut hs (cne y c e)⟩
   · obtain ⟨w',z⟩:=I.cell y c e
     exact ⟨w',z.sameBut hs (cne y c e)⟩
   · obtain ⟨e,n,ne,nf,d⟩:=I.pin p hp
     exact ⟨(hs.2 p.1 ne).trans e,n,ne,nf,d⟩
 · have hfn:X.fn x=true:=by
     rcases hf with z | z
     · exact z
     · rw [z] at hk; cases hk
   obtain ⟨c,hc⟩:=I.ok.has x (.inl hk)
   obtain ⟨w',z⟩:=I.cell x c hc
   refine wpAny_storeName_cell I.ok.kind hk hc z (λh' hc' hs=>?_)
   obtain ⟨oc,hoc,hocd⟩:=id z
   refine h { s with heap:=h' } ⟨I.ok,I.os,I.bare,⟨λb o e n hb hx=>?_,λb o e n hb hx=>?_,I.base.free,λb o e hx=>?_,I.base.tups,I.base.frzs,I.base.tbls⟩,⟨m,hn.sameBut hs (Ne.symm (cne x c hc)),λj y v' e1 e2 e3=>?_⟩,λy c' e=>?_,I.free,I.freeC,λp hp=>?_,tracked ⟨oc,hoc,I.freeC x c hc⟩ hs,by simpa using I.len⟩ ⟨c,hs,.inr hc⟩
   · exact (hs.2 b (Nat.ne_of_lt (Nat.lt_of_lt_of_le (Heap.lt_size e) (I.ok.cab x c hfn hc)))).trans (I.base.keep b o e n hb hx)
   · obtain ⟨sl,e1⟩:=I.base.slot b o e n hb hx
     exact ⟨sl,(hs.2 b (Nat.ne_of_lt (Nat.lt_of_lt_of_le (Heap.lt_size e) (I.ok.cab x c hfn hc)))).trans e1⟩
   · obtain ⟨o',e1⟩:=I.base.there b o e hx
     exact ⟨o',(hs.2 b (Nat.ne_of_lt (Nat.lt_of_lt_of_le (Heap.lt_size e) (I.ok.cab x c hfn hc)))).trans e1⟩
   · by_cases hj:j=i
     · subst hj
       rw [hi] at e1; cases e1
       rw [List.getElem?_set_self hiσ] at e2
       cases e2
       exact ⟨u,r,.inr ⟨.inl hk,c,hc,hc'⟩⟩
     · rw [List.getElem?_set_ne (Ne.symm hj)] at e2
       obtain ⟨u',r',q⟩:=hl j y v' e1 e2 e3
       refine ⟨u',r',?_⟩
       rcases q with q | ⟨k,c',e,z'⟩
       · exact .inl q
       · refine .inr ⟨k,c',e,z'.sameBut hs ?_⟩
         rintro rfl
         exact hj (jA hN e1 (I.ok.inj _ _ _ e hc ▸ hi))
   · by_cases hcc:c'=c
     · subst hcc; exact ⟨_,hc'⟩
     · obtain ⟨w2,z2⟩:=I.cell y c' e
       exact ⟨w2,z2.sameBut hs hcc⟩
   · obtain ⟨e,n,ne,nf,d⟩:=I.pin p hp
     refine ⟨(hs.2 p.1 ?_).trans e,n,ne,nf,d⟩
     intro q
     rw [q,hoc] at e
     have q':oc=p.2:=Option.some.inj e
     exact d w' (by rw [<- q']; exact hocd)
theorem hR {M:Model} {A:Around} {E:Value->Shared->Prop} {i:Nat} {x:Str} {v:V} {u:Value} {Q:Unit->Shared->Prop} (I:Inv X pins σ H s) (hN:X.N.Nodup) (hi:X.N[i]?=some x) (hx:Loc X.env.scope x) (r:RelV v u)
   (h:∀ s',Inv X pins (σ.set i (some v)) H s'->Q () s') (hf:X.fn x=true\/X.env.scope.names.lookup x=some .local:=by first | exact .inl rfl | exact .inr rfl | assumption):wpAny M A (storeName X.env x u) Q E s:=
 rT I hN hi hx r (λs' I' _=>h s' I') hf
theorem Inv.kW {s':Shared} {ch:List Addr} (I:Inv X pins σ H s) (ho:s'.os=s.os) (u:Un (frs X.stack) ch H H' s.heap s'.heap) (hok:HOk X.prog X.w H' s'.heap) (hg:AllBare s'.gens)
   (hch:∀ b ∈ ch,(b ∈ X.ex\/X.s₀.heap.objs.size<=b)/\b ≠ X.env.locals/\(∀ x c,X.env.cells.lookup x=some c->c ≠ b)/\∀ p ∈ X.pn++pins,p.1 ≠ b):Inv X pins σ H' s':=by
 obtain ⟨h',g',d',t',o'⟩:=s'
 have e:o'=s.os:=ho
 subst e
 exact I.call (g':=g') (t':=t') (d':=d') u hok hg hch
end
noncomputable abbrev XK:=Value->Option Addr->Hp->Prop
noncomputable abbrev St:=List (Option V)
noncomputable abbrev VK:=V->Hp->Prop
noncomputable abbrev TE:=St->Hp->VK->Prop
noncomputable abbrev TT:=St->Hp->(Bool->Hp->Prop)->Prop
noncomputable abbrev TA:=St->Hp->(List V->Hp->Prop)->Prop
structure Ends where
 nx:St->Hp->Prop
 rt:VK
 bk:St->Hp->Prop:=λ_ _=>False
 ct:St->Hp->Prop:=λ_ _=>False
noncomputable abbrev TS:=Ends->St->Hp->Prop
noncomputable def EP (X:Cx) (pins:List (Addr × Obj)) (σ:St) (Q:VK) (u:Value) (s':Shared):Prop:=∃ v H',Inv X pins σ H' s'/\RelV v u/\Q v H'
noncomputable def TP (X:Cx) (pins:List (Addr × Obj)) (σ:St) (Q:Bool->Hp->Prop) (b:Bool) (s':Shared):Prop:=∃ H',Inv X pins σ H' s'/\Q b H'
noncomputable def AP (X:Cx) (pins:List (Addr × Obj)) (σ:St) (Q:List V->Hp->Prop) (us:List Value) (s':Shared):Prop:=∃ vs H',Inv X pins σ H' s'/\Vals vs us/\Q vs H'
noncomputable def SP (X:Cx) (pins:List (Addr × Obj)) (D:Ends) (f:Flow) (s':Shared):Prop:=
 match f with
 | .next=>∃ σ' H',Inv X pins σ' H' s'/\D.nx σ' H'
 | .brk=>∃ σ' H',Inv X pins σ' H' s'/\D.bk σ' H'
 | .cont=>∃ σ' H',Inv X pins σ' H' s'/\D.ct σ' H'
 | .ret u=>∃ v σ' H',Inv X pins σ' H' s'/\RelV v u/\D.rt v H'
noncomputable def PE (X:Cx) (e:Expr) (t:TE):Prop:=
 ∀ (pins:List (Addr × Obj)) (s:Shared) (σ:St) (H:Hp) (Q:VK),Inv X pins σ H s->t σ H Q->wpAny (model X.prog X.w) X.A (eval e X.env) (EP X pins σ Q) X.xe s
noncomputable def PT (X:Cx) (e:Expr) (t:TT):Prop:=
 ∀ (pins:List (Addr × Obj)) (s:Shared) (σ:St) (H:Hp) (Q:Bool->Hp->Prop),Inv X pins σ H s->t σ H Q->wpAny (model X.prog X.w) X.A (isTrue e X.env (eval e X.env)) (TP X pins σ Q) X.xe s
noncomputable def PW (X:Cx) (e:Expr) (t:TT):Prop:=
 ∀ (whole:Sem Value) (pins:List (Addr × Obj)) (s:Shared) (σ:St) (H:Hp) (Q:Bool->Hp->Prop),Inv X pins σ H s->t σ H Q->wpAny (model X.prog X.w) X.A (isTrue e X.env whole) (TP X pins σ Q) X.xe s
theorem PW.pt {X:Cx} {e:Expr} {t:TT} (h:PW X e t):PT X e t:=h _
noncomputable def PA (X:Cx) (es:List Expr) (t:TA):Prop:=
 ∀ (pos:Pos) (pins:List (Addr × Obj)) (s:Shared) (σ:St) (H:Hp) (Q:List V->Hp->Prop),Inv X pins σ H s->t σ H Q->wpAny (model X.prog X.w) X.A (spliced (backTo pos (starEach es X.env))) (AP X pins σ Q) X.xe s
noncomputable def PS (X:Cx) (st:Stmt) (t:TS):Prop:=
 ∀ (pins:List (Addr × Obj)) (s:Shared) (σ:St) (H:Hp) (D:Ends),Inv X pins σ H s->t D σ H->wpAny (model X.prog X.w) X.A (exec st X.env) (SP X pins D) X.xe s
noncomputable def PSs (X:Cx) (st:List Stmt) (t:TS):Prop:=
 ∀ (pins:List (Addr × Obj)) (s:Shared) (σ:St) (H:Hp) (D:Ends),Inv X pins σ H s->t D σ H->wpAny (model X.prog X.w) X.A (execs st X.env) (SP X pins D) X.xe s
theorem thn {α:Type} {t:Sem α} {Q Q':α->Shared->Prop} {M:Model} {A:Around} {E:Value->Shared->Prop} {s:Shared} (h:wpAny M A t Q E s) (hQ:∀ a s,Q a s->Q' a s):wpAny M A t Q' E s:=wpAny_mono h hQ λ_ _ x=>x
section
variable {X:Cx}
theorem bin {a b:Expr} {ta tb:TE} (ha:PE X a ta) (hb:PE X b tb) {pins:List (Addr × Obj)} {s:Shared} {σ:St} {H:Hp} {R:V->V->Hp->Prop} (I:Inv X pins σ H s) (h:ta σ H λx H1=>tb σ H1 λy H2=>R x y H2)
   {α:Type} {Q:α->Shared->Prop} {f:Value->Value->Sem α}
   (hf:∀ v u s2 x y H2,Inv X pins σ H2 s2->RelV x v->RelV y u->R x y H2->wpAny (model X.prog X.w) X.A (f v u) Q X.xe s2) :
   wpAny (model X.prog X.w) X.A (eval a X.env) (λv s₁=>wpAny (model X.prog X.w) X.A (eval b X.env) (λu s₂=>wpAny (model X.prog X.w) X.A (f v u) Q X.xe s₂) X.xe s₁) X.xe s:=by
 refine thn (ha pins s σ H _ I h) λv s1 ⟨x,H1,I1,r1,q1⟩=>?_
 refine thn (hb pins s1 σ H1 _ I1 q1) λu s2 ⟨y,H2,I2,r2,q2⟩=>?_
 exact hf v u s2 x y H2 I2 r1 r2 q2
noncomputable def AV (i:Nat):TE:=λσ H Q=>∃ v,σ[i]?=some (some v)/\Q v H
noncomputable def tC (v:V):TE:=λ_ H Q=>Q v H
theorem cD {i:Nat} {x:Str} {pos:Pos} (hN:X.N[i]?=some x) (hv:Vis X.env.scope x) (hd:(x == ("__debug__" : Str))=false:=by decide) (hcd:(x == ("__classdict__" : Str))=false:=by decide):PE X (.Name x pos) (AV i):=by
 intro pins s σ H Q I h
 obtain ⟨v,e,h⟩:=h
 obtain ⟨m,hn,hl⟩:=I.loc
 obtain ⟨u,r,l⟩:=hl i x v hN e hv
 have fin:EP X pins σ Q u s:=⟨v,H,I,r,h⟩
 rcases l with ⟨hk,hm⟩ | ⟨hk,c,hc,hcell⟩
 · exact wpAny_Name (wpAny_loadName_local I.ok.kind hk hn hm fin) hd
 · rcases hk with hk | hk
   · exact wpAny_Name (wpAny_loadName_cell I.ok.kind hk hc hcell fin) hd
   · exact wpAny_Name (wpAny_loadName_free I.ok.kind hk hc hcell fin hcd) hd
theorem x9 {i j pos}:PE X (.Constant (.int i) j pos) (tC (.int i)):=λ_ _ _ H _ I h=>wpAny_Constant_int ⟨.int i,H,I.tok _,⟨_,rfl⟩,h⟩
theorem Ai {b j pos}:PE X (.Constant (.bool b) j pos) (tC (.bl b)):=λ_ _ _ H _ I h=>Constant_bool ⟨.bl b,H,I,rfl,h⟩
theorem ym {j pos}:PE X (.Constant .none j pos) (tC .non):=λ_ _ _ H _ I h=>Constant_none ⟨.non,H,I,rfl,h⟩
theorem xO {x j pos}:PE X (.Constant (.str x) j pos) (tC (.str x)):=λ_ _ _ H _ I h=>Calls.Constant_str ⟨.str x,H,I.tok _,⟨_,rfl⟩,h⟩
noncomputable def Gl (X:Cx) (x:Str):Prop:=X.env.kindOf x=some .globalImplicit
theorem gJ {E:Value->Shared->Prop} {pins:List (Addr × Obj)} {s:Shared} {σ:St} {H:Hp} {x:Str} {u:Value} {pos:Pos} {Q:Value->Shared->Prop} (I:Inv X pins σ H s) (hg:Gl X x) (hm:X.mg x=some u) (h:Q u s)
   (hd:(x == ("__debug__" : Str))=false:=by decide):wpAny (model X.prog X.w) X.A (eval (.Name x pos) X.env) Q E s:=
 Calls.Name_function_global I.ok.kind hg (Calls.loadGlobal_global (by rw [I.ok.glob]; exact I.mod.glob.keeps I.bk) hm h) hd
theorem gC {E:Value->Shared->Prop} {pins:List (Addr × Obj)} {s:Shared} {σ:St} {H:Hp} {x:Str} {u:Value} {pos:Pos} {Q:Value->Shared->Prop} (I:Inv X pins σ H s) (hg:Gl X x) (hm:X.mg x=none) (hv:bootBuiltins x=some u) (h:Q u s)
   (hn:x ≠ "__name__":=by decide) (hd:(x == ("__debug__" : Str))=false:=by decide):wpAny (model X.prog X.w) X.A (eval (.Name x pos) X.env) Q E s:=by
 obtain ⟨mb,h1,h2⟩:=I.mod.blt
 exact Calls.Name_function_global I.ok.kind hg (Calls.loadGlobal_builtin (by rw [I.ok.glob]; exact I.mod.glob.keeps I.bk) hm (by rw [I.ok.blt]; exact h1.keeps I.bk) ((h2 x hn).trans hv) h) hd
theorem pZ {x:Str} {v:V} {u:Value} {pos:Pos} (hg:Gl X x) (hm:X.mg x=some u) (r:RelV v u) (hd:(x == ("__debug__" : Str))=false:=by decide):PE X (.Name x pos) (tC v):=
 λ_ _ _ H _ I h=>gJ I hg hm ⟨v,H,I,r,h⟩ hd
theorem qd {x:Str} {v:V} {u:Value} {pos:Pos} (hg:Gl X x) (hm:X.mg x=none) (hv:bootBuiltins x=some u) (r:RelV v u) (hn:x ≠ "__name__":=by decide) (hd:(x == ("__debug__" : Str))=false:=by decide):PE X (.Name x pos) (tC v):=
 λ_ _ _ H _ I h=>gC I hg hm hv ⟨v,H,I,r,h⟩ hn hd
variable {a b:Expr} {ta tb:TE} {pos:Pos}
noncomputable def PC (X:Cx) (op:CmpOp) (a b:Expr) (t:TE):Prop:=
 ∀ (pins:List (Addr × Obj)) (s:Shared) (σ:St) (H:Hp) (Q:VK),Inv X pins σ H s->t σ H Q ->
   wpAny (model X.prog X.w) X.A (eval a X.env) (λv s₁=>wpAny (model X.prog X.w) X.A (eval b X.env) (λu s₂=>wpAny (model X.prog X.w) X.A (compareOp op v u) (EP X pins σ Q) X.xe s₂) X.xe s₁) X.xe s
theorem sN (b:Expr) {op:CmpOp} (h:op ≠ .In) (h2:op ≠ .NotIn):behindInMarks op b=false:=by
 have e1:(op == CmpOp.In)=false:=by cases op <;> first | rfl | exact absurd rfl h
 have e2:(op == CmpOp.NotIn)=false:=by cases op <;> first | rfl | exact absurd rfl h2
 cases b <;> simp [behindInMarks,e1,e2]
noncomputable def tB (t:TE):TT:=λσ H Q=>t σ H λx H1=>∃ c,x=.bl c/\Q c H1
theorem A1 {op:CmpOp} {t:TE} (h:PC X op a b t) (h1:behindInMarks op b=false:=by first | exact sN _ (by decide) (by decide) | rfl):PT X (.Compare a [op] [b] pos) (tB t):=by
 intro pins s σ H Q I hw
 refine wpAny_isTrue_Compare1 (thn (h pins s σ H _ I hw) λv s1 h1=>thn h1 λu s2 h2=>thn h2 λc s3 ⟨x,H1,I1,r1,q1⟩=>?_) h1
 obtain ⟨d,rfl,q⟩:=q1
 cases r1
 exact wpAny_truthy_bool ⟨H1,I1,q⟩
theorem yd {e:Expr} {t:TE} (h:PE X e t) (he:∀ whole,isTrue e X.env whole=(do let v <- whole; standAt e.pos; holding [v] (truthy v)):=by intro _; rfl):PT X e (tB t):=by
 intro pins s σ H Q I hw
 refine isTrue_plain (thn (h pins s σ H _ I hw) λv s1 ⟨x,H1,I1,r1,q1⟩=>?_) (he _)
 obtain ⟨d,rfl,q⟩:=q1
 cases r1
 exact wpAny_truthy_bool ⟨H1,I1,q⟩
variable {tA tB':TT} {rest:List Expr}
noncomputable def AM (t u:TT):TT:=λσ H Q=>t σ H λc H1=>if c=true then u σ H1 Q else Q false H1
noncomputable def tOr (t u:TT):TT:=λσ H Q=>t σ H λc H1=>if c=true then Q true H1 else u σ H1 Q
noncomputable def A4 (t:TT):TT:=λσ H Q=>t σ H λc H1=>Q (!c) H1
theorem pw_and1 (ha:PT X a tA):PW X (.BoolOp .And [a] pos) tA:=by
 intro wh pins s σ H Q I h
 refine isTrue_and (thn (ha pins s σ H Q I h) λc s1 e=>?_)
 cases c with
 | true=>exact isTrue_and_nil e
 | false=>exact e
theorem pw_or1 (ha:PT X a tA):PW X (.BoolOp .Or [a] pos) tA:=by
 intro wh pins s σ H Q I h
 refine isTrue_or (thn (ha pins s σ H Q I h) λc s1 e=>?_)
 cases c with
 | false=>exact isTrue_or_nil e
 | true=>exact e
theorem pw_and (ha:PT X a tA) (hb:PW X (.BoolOp .And (b :: rest) pos) tB'):PW X (.BoolOp .And (a :: b :: rest) pos) (AM tA tB'):=by
 intro wh pins s σ H Q I h
 refine isTrue_and (thn (ha pins s σ H _ I h) λc s1 ⟨H1,I1,q1⟩=>?_)
 cases c with
 | true=>exact hb wh pins s1 σ H1 Q I1 q1
 | false=>exact ⟨H1,I1,q1⟩
theorem pw_or (ha:PT X a tA) (hb:PW X (.BoolOp .Or (b :: rest) pos) tB'):PW X (.BoolOp .Or (a :: b :: rest) pos) (tOr tA tB'):=by
 intro wh pins s σ H Q I h
 refine isTrue_or (thn (ha pins s σ H _ I h) λc s1 ⟨H1,I1,q1⟩=>?_)
 cases c with
 | true=>exact ⟨H1,I1,q1⟩
 | false=>exact hb wh pins s1 σ H1 Q I1 q1
theorem w8 (ha:PT X a tA):PT X (.UnaryOp .Not a pos) (A4 tA):=by
 intro pins s σ H Q I h
 exact isTrue_not (ha pins s σ H (λc H1=>Q (!c) H1) I h)
noncomputable def ze (ta tb:TE):TE:=λσ H Q=>ta σ H λx H1=>∃ c,x=.bl c/\if c=true then tb σ H1 Q else Q (.bl false) H1
noncomputable def Ar (ta:TE):TE:=λσ H Q=>ta σ H λx H1=>∃ c,x=.bl c/\Q (.bl (!c)) H1
theorem x6 {op} {t:TE} (h:PE X a t):PE X (.BoolOp op [a] pos) t:=λpins s σ H Q I hw=>BoolOp_one (h pins s σ H Q I hw)
theorem uc (ha:PE X a ta) (hb:PE X (.BoolOp .And (b :: rest) pos) tb):PE X (.BoolOp .And (a :: b :: rest) pos) (ze ta tb):=by
 intro pins s σ H Q I h
 refine BoolOp_and (thn (ha pins s σ H _ I h) λv s1 ⟨x,H1,I1,r1,q1⟩=>?_)
 obtain ⟨c,rfl,q1⟩:=q1
 cases r1
 refine wpAny_truthy_bool ?_
 cases c with
 | true=>exact hb pins s1 σ H1 Q I1 q1
 | false=>exact ⟨.bl false,H1,I1,rfl,q1⟩
theorem yz (ha:PE X a ta):PE X (.UnaryOp .Not a pos) (Ar ta):=by
 intro pins s σ H Q I h
 refine UnaryOp_ (thn (ha pins s σ H _ I h) λv s1 ⟨x,H1,I1,r1,q1⟩=>?_)
 obtain ⟨c,rfl,q1⟩:=q1
 cases r1
 exact not_of (wpAny_truthy_bool ⟨.bl (!c),H1,I1,rfl,q1⟩)
noncomputable def tIf (t:TT) (ta tb:TE):TE:=λσ H Q=>t σ H λc H1=>if c=true then ta σ H1 Q else tb σ H1 Q
theorem oB {c:Expr} (hc:PT X c tA) (ha:PE X a ta) (hb:PE X b tb):PE X (.IfExp c a b pos) (tIf tA ta tb):=by
 intro pins s σ H Q I h
 refine wpAny_IfExp (thn (hc pins s σ H _ I h) λd s1 ⟨H1,I1,q1⟩=>?_)
 cases d with
 | true=>exact ha pins s1 σ H1 Q I1 q1
 | false=>exact hb pins s1 σ H1 Q I1 q1
end
noncomputable def SqL (K:PySem.W.Frag) (H:Hp) (a:Addr) (xs:List V):Prop:=
 Rd H a (.lst xs) \/
   ∃ (o:Obj) (its:Array Value) (n:Nat),K.lookup a=some o/\o.cls=.type "list" /\ o.dict=none/\o.data=.seq its n/\its.size<=sizeLine/\Vals xs its.toList
noncomputable def SqT (K:PySem.W.Frag) (H:Hp) (a:Addr) (xs:List V):Prop:=
 Rd H a (.tup xs) \/
   ∃ (o:Obj) (its:Array Value) (n:Nat),K.lookup a=some o/\o.cls=.type "tuple" /\ o.data=.seq its n/\its.size<=sizeLine/\Vals xs its.toList
noncomputable def AN:Value->Option V
 | .none=>some .non
 | .bool b=>some (.bl b)
 | .int i _=>some (.int i)
 | .str x _=>some (.str x)
 | .bytes b _=>some (.byt b)
 | .float b _=>some (.flt b)
 | .ref a=>some (.ref a)
 | .type n=>some (.ty n)
 | _=>none
theorem RelV.abs {x:V} {u:Value} (r:RelV x u):AN u=some x:=by
 cases x with
 | non=>cases r; rfl
 | bl _=>cases r; rfl
 | int _=>obtain ⟨t,rfl⟩:=r; rfl
 | str _=>obtain ⟨t,rfl⟩:=r; rfl
 | byt _=>obtain ⟨t,rfl⟩:=r; rfl
 | flt _=>obtain ⟨t,rfl⟩:=r; rfl
 | ref _=>cases r; rfl
 | ty _=>cases r; rfl
theorem RelV.inj {x y:V} {u:Value} (r:RelV x u) (q:RelV y u):x=y:=Option.some.inj (r.abs.symm.trans q.abs)
theorem Vals.inj:∀ {xs ys:List V} {us:List Value},Vals xs us->Vals ys us->xs=ys
 | _,_,_,.nil,.nil=>rfl
 | _,_,_,.cons r t,.cons r' t'=>by rw [r.inj r',Vals.inj t t']
section
variable {X:Cx} {pins:List (Addr × Obj)} {σ:St} {H:Hp} {s:Shared} {a:Addr} {xs ys:List V}
theorem SqL.of {K:PySem.W.Frag} (h:H a=some (.lst xs)):SqL K H a xs:=.inl (.inl h)
theorem SqT.of {K:PySem.W.Frag} (h:H a=some (.tup xs)):SqT K H a xs:=.inl (.inl h)
theorem Inv.list (I:Inv X pins σ H s) (h:SqL X.K H a xs):∃ its:List Value,Vals xs its/\PlainL s.heap a its.toArray/\xs.length<=sizeLine:=by
 rcases h with h | ⟨o,its,n,hk,hc,hd,hs,hz,r⟩
 · obtain ⟨z,its,n,r,e⟩:=h.ok I.hok
   exact ⟨its,r,⟨_,n,e,rfl,rfl,rfl⟩,z⟩
 · refine ⟨its.toList,r,⟨o,n,I.kIn a o hk,hc,hd,by simpa using hs⟩,?_⟩
   have e:=r.length
   simp only [Array.length_toList] at e
   omega
theorem Inv.tuple (I:Inv X pins σ H s) (h:SqT X.K H a xs):∃ its:List Value,Vals xs its/\IsTup s.heap a its.toArray/\xs.length<=sizeLine:=by
 rcases h with h | ⟨o,its,n,hk,hc,hs,hz,r⟩
 · obtain ⟨z,its,r,p⟩:=h.ok I.hok
   exact ⟨its,r,p,z⟩
 · refine ⟨its.toList,r,⟨o,I.kIn a o hk,hc,n,by simpa using hs⟩,?_⟩
   have e:=r.length
   simp only [Array.length_toList] at e
   omega
theorem Inv.g8 (I:Inv X pins σ H s) (h:SqL X.K H a xs) (h':SqL X.K H a ys):xs=ys:=by
 obtain ⟨its,r,⟨o,n,e,_,_,d⟩,_⟩:=I.list h
 obtain ⟨its',r',⟨o',n',e',_,_,d'⟩,_⟩:=I.list h'
 rw [e] at e'; cases e'
 rw [d] at d'
 injection d' with d1 _
 have:its=its':=by simpa using congrArg Array.toList d1
 subst this
 exact r.inj r'
end
noncomputable abbrev Cx.iQ (X:Cx) (E:Value->Shared->Prop):Cx:={ X with xe:=E }
noncomputable abbrev Cx.nox (X:Cx):Cx:=X.iQ λ_ _=>False
theorem Cx.Ok.iQ {X:Cx} (ok:X.Ok) (E:Value->Shared->Prop):(X.iQ E).Ok:=
 ⟨ok.mod,ok.kind,ok.glob,ok.blt,ok.above,ok.inj,ok.has,ok.cab,ok.hd,ok.frames,ok.stk,ok.exf,ok.bs,ok.bsz,ok.noex,ok.exfs,ok.iO,ok.frf⟩
theorem Cx.Ok.dP {X:Cx} {E:Value->Shared->Prop} (ok:(X.iQ E).Ok):X.Ok:=
 ⟨ok.mod,ok.kind,ok.glob,ok.blt,ok.above,ok.inj,ok.has,ok.cab,ok.hd,ok.frames,ok.stk,ok.exf,ok.bs,ok.bsz,ok.noex,ok.exfs,ok.iO,ok.frf⟩
section
variable {X:Cx} {pins:List (Addr × Obj)} {σ:St} {H:Hp} {s:Shared} {E:Value->Shared->Prop}
theorem Inv.iQ (I:Inv X pins σ H s) (E:Value->Shared->Prop):Inv (X.iQ E) pins σ H s:=⟨I.ok.iQ E,I.os,I.bare,I.base,I.loc,I.cell,I.free,I.freeC,I.pin,I.hok,I.len⟩
theorem Inv.dP (I:Inv (X.iQ E) pins σ H s):Inv X pins σ H s:=⟨I.ok.dP,I.os,I.bare,I.base,I.loc,I.cell,I.free,I.freeC,I.pin,I.hok,I.len⟩
theorem SP.dP {D:Ends} {f:Flow} {s':Shared} (h:SP (X.iQ E) pins D f s'):SP X pins D f s':=by
 cases f with
 | next=>obtain ⟨σ',H',I,q⟩:=h; exact ⟨σ',H',I.dP,q⟩
 | brk=>obtain ⟨σ',H',I,q⟩:=h; exact ⟨σ',H',I.dP,q⟩
 | cont=>obtain ⟨σ',H',I,q⟩:=h; exact ⟨σ',H',I.dP,q⟩
 | ret u=>obtain ⟨v,σ',H',I,r,q⟩:=h; exact ⟨v,σ',H',I.dP,r,q⟩
theorem PE.nox {e:Expr} {t:TE} (h:PE X.nox e t):PE X e t:=λpins s σ H Q I hw=>
 wpAny_mono (h pins s σ H Q (I.iQ _) hw) (λ_ _ ⟨v,H',I',r,q⟩=>⟨v,H',I'.dP,r,q⟩) λ_ _ z=>False.elim z
theorem PT.nox {e:Expr} {t:TT} (h:PT X.nox e t):PT X e t:=λpins s σ H Q I hw=>
 wpAny_mono (h pins s σ H Q (I.iQ _) hw) (λ_ _ ⟨H',I',q⟩=>⟨H',I'.dP,q⟩) λ_ _ z=>False.elim z
theorem PSs.nox {st:List Stmt} {t:TS} (h:PSs X.nox st t):PSs X st t:=λpins s σ H D I hw=>
 wpAny_mono (h pins s σ H D (I.iQ _) hw) (λ_ _ q=>q.dP) λ_ _ z=>False.elim z
end
section
variable {X:Cx} {st:Stmt} {rest:List Stmt} {t u:TS} {e:Expr} {te:TE} {pos:Pos}
noncomputable def zU:TS:=λD σ H=>D.nx σ H
noncomputable def AL (t u:TS):TS:=λD σ H=>t { D with nx:=u D } σ H
theorem u7:PSs X [] zU:=λ_ _ σ H _ I h=>wpAny_execs_nil ⟨σ,H,I,h⟩
theorem uv (h1:PS X st t) (h2:PSs X rest u):PSs X (st :: rest) (AL t u):=by
 intro pins s σ H D I h
 refine wpAny_execs_cons (thn (h1 pins s σ H { D with nx:=u D } I h) λf s1 q=>?_)
 cases f with
 | next=>
   obtain ⟨σ',H',I',q⟩:=q
   exact h2 pins s1 σ' H' D I' q
 | ret v=>exact q
 | brk=>exact q
 | cont=>exact q
theorem vW (h1:PS X st t):PSs X [st] t:=by
 intro pins s σ H D I h
 refine wpAny_execs_cons (thn (h1 pins s σ H D I h) λf s1 q=>?_)
 cases f with
 | next=>exact wpAny_execs_nil q
 | ret v=>exact q
 | brk=>exact q
 | cont=>exact q
theorem Inv.quiet {pins:List (Addr × Obj)} {σ:St} {H:Hp} {s:Shared} (I:Inv X pins σ H s):interactive X.env=false:=by simp [interactive,I.ok.kind]
noncomputable def Ac (te:TE):TS:=λD σ H=>te σ H λ_ H1=>D.nx σ H1
theorem gY (he:PE X e te) (hs:swapsWith e none pos.line X.env=pure false:=by rfl):PS X (.Expr e pos) (Ac te):=by
 intro pins s σ H D I h
 exact wpAny_Expr_any (thn (he pins s σ H _ I h) λv s1 ⟨x,H1,I1,r1,q1⟩=>⟨σ,H1,I1,q1⟩) I.quiet hs
noncomputable def Be (te:TE):TS:=λD σ H=>te σ H D.rt
theorem lG (he:PE X e te):PS X (.Return (some e) pos) (Be te):=by
 intro pins s σ H D I h
 exact wpAny_Return_some (thn (he pins s σ H _ I h) λv s1 ⟨x,H1,I1,r1,q1⟩=>⟨x,σ,H1,I1,r1,q1⟩)
noncomputable def Bb (c:TT) (t u:TS):TS:=λD σ H=>c σ H λb H1=>if b=true then t D σ H1 else u D σ H1
theorem wk {c:Expr} {a b:List Stmt} {tc:TT} (hc:PT X c tc) (ha:PSs X a t) (hb:PSs X b u):PS X (.If c a b pos) (Bb tc t u):=by
 intro pins s σ H D I h
 refine wpAny_If (thn (hc pins s σ H _ I h) λd s1 ⟨H1,I1,q1⟩=>?_)
 cases d with
 | true=>exact ha pins s1 σ H1 D I1 q1
 | false=>exact hb pins s1 σ H1 D I1 q1
noncomputable def y7:TS:=λ_ _ _=>False
theorem kE {sts:List Stmt}:PSs X sts y7:=λ_ _ _ _ _ _ h=>h.elim
end
noncomputable abbrev TG:=V->St->Hp->(St->Hp->Prop)->Prop
noncomputable abbrev TGs:=List V->St->Hp->(St->Hp->Prop)->Prop
noncomputable def PG (X:Cx) (target:Expr) (t:TG):Prop:=
 ∀ (pins:List (Addr × Obj)) (s:Shared) (σ:St) (H:Hp) (v:V) (u:Value) (Q:St->Hp->Prop),Inv X pins σ H s->RelV v u->t v σ H Q ->
   wpAny (model X.prog X.w) X.A (assign target X.env u) (λ_ s'=>∃ σ' H',Inv X pins σ' H' s'/\Q σ' H') X.xe s
noncomputable def PGs (X:Cx) (ts:List Expr) (t:TGs):Prop:=
 ∀ (pins:List (Addr × Obj)) (s:Shared) (σ:St) (H:Hp) (vs:List V) (us:List Value) (Q:St->Hp->Prop),Inv X pins σ H s->Vals vs us->t vs σ H Q ->
   wpAny (model X.prog X.w) X.A (assignInOrder ((assignEach ts X.env).map (·.2)) us) (λ_ s'=>∃ σ' H',Inv X pins σ' H' s'/\Q σ' H') X.xe s
noncomputable abbrev yE:=V->V->V->Hp->(Hp->Prop)->Prop
noncomputable def AA (X:Cx) (t:yE):Prop:=
 ∀ (pins:List (Addr × Obj)) (s:Shared) (σ:St) (H:Hp) (o i v:V) (ov iv u:Value) (Q:Hp->Prop),Inv X pins σ H s->RelV o ov->RelV i iv->RelV v u->t o i v H Q ->
   wpAny (model X.prog X.w) X.A (setItem ov iv u) (λ_ s'=>∃ H',Inv X pins σ H' s'/\Q H') X.xe s
section
variable {X:Cx} {pos:Pos}
noncomputable def wj (i:Nat):TG:=λv σ H Q=>Q (σ.set i (some v)) H
theorem gM {i:Nat} {x:Str} (hN:X.N.Nodup) (hi:X.N[i]?=some x) (hx:Loc X.env.scope x) (hf:X.fn x=true\/X.env.scope.names.lookup x=some .local:=by first | exact .inl rfl | exact .inr rfl | assumption):PG X (.Name x pos) (wj i):=by
 intro pins s σ H v u Q I r h
 exact wpAny_assign_Name (hR I hN hi hx r (λs' I'=>⟨_,H,I',h⟩) hf)
noncomputable def AO:TGs:=λvs σ H Q=>vs=[]/\Q σ H
noncomputable def zR (t:TG) (u:TGs):TGs:=λvs σ H Q=>∃ v r,vs=v :: r/\t v σ H λσ' H'=>u r σ' H' Q
theorem qu:PGs X [] AO:=by
 intro pins s σ H vs us Q I r h
 obtain ⟨e,h⟩:=h
 subst e
 cases r
 exact assignInOrder_nil ⟨σ,H,I,h⟩
theorem jq {e:Expr} {es:List Expr} {t:TG} {u:TGs} (h1:PG X e t) (h2:PGs X es u)
   (hs:(assignEach (e :: es) X.env).map (·.2)=assign e X.env :: (assignEach es X.env).map (·.2):=by rfl):PGs X (e :: es) (zR t u):=by
 intro pins s σ H vs us Q I r h
 obtain ⟨v,vr,e1,h⟩:=h
 subst e1
 cases r with
 | cons r rr=>
   rw [hs]
   refine assignInOrder_cons (thn (h1 pins s σ H _ _ _ I r h) λ_ s1 ⟨σ1,H1,I1,q1⟩=>?_)
   exact h2 pins s1 σ1 H1 _ _ Q I1 rr q1
noncomputable def Bg (K:PySem.W.Frag) (n:Nat) (t:TGs):TG:=λv σ H Q=>∃ a xs,v=.ref a/\SqT K H a xs/\xs.length=n/\t xs σ H Q
theorem uK {es:List Expr} {k:Nat} {t:TGs} {n:Nat} (hc:X.calm=true) (h:PGs X es t)
   (hn:(assignEach es X.env).length=n:=by rfl) (hst:(assignEach es X.env).findIdx? (·.1)=none:=by rfl):PG X (.Tuple es k pos) (Bg X.K n t):=by
 intro pins s σ H v u Q I r hw
 obtain ⟨a,xs,e1,hq,hl,hw⟩:=hw
 subst e1
 cases r
 obtain ⟨its,rv,ht,hz⟩:=I.tuple hq
 refine assign_Tuple_tuple (I.ok.hd hc) ht (by simp [hn,<- hl,rv.length]) hst λh' hx=>?_
 have I1:Inv X pins σ H { s with heap:=h' }:=I.kept (t':=s.toks) λb o e=>hx b o (Nat.ne_of_lt (Heap.lt_size e)) e
 exact h pins _ σ H xs _ Q I1 (by simpa using rv) hw
noncomputable def Ba (to ti:TE) (t:yE):TG:=λv σ H Q=>to σ H λo H1=>ti σ H1 λi H2=>t o i v H2 λH3=>Q σ H3
theorem w9 {o i:Expr} {to ti:TE} {t:yE} (ho:PE X o to) (hi:PE X i ti) (hs:AA X t)
   (ha:∀ v,assign (.Subscript o i pos) X.env v=(do
     let ov <- holding [v] (eval o X.env)
     let iv <- holding [v,ov] (eval i X.env)
     standAt pos
     holding [v,ov,iv] (setItem ov iv v)
     release [v,ov,iv] []):=by intro _; rfl):PG X (.Subscript o i pos) (Ba to ti t):=by
 intro pins s σ H v u Q I r h
 rw [ha]
 refine wpAny_bind (wpAny_holding (thn (ho pins s σ H _ I h) λov s1 ⟨x,H1,I1,r1,q1⟩=>?_))
 refine wpAny_bind (wpAny_holding (thn (hi pins s1 σ H1 _ I1 q1) λiv s2 ⟨y,H2,I2,r2,q2⟩=>?_))
 refine wpAny_bind (wpAny_standAt (wpAny_bind (wpAny_holding (thn (hs pins s2 σ H2 x y v ov iv u _ I2 r1 r2 r q2) λ_ s3 ⟨H3,I3,q3⟩=>?_))))
 exact wpAny_release ⟨σ,H3,I3,q3⟩
noncomputable def yP (te:TE) (g:TG):TS:=λD σ H=>te σ H λx H1=>g x σ H1 D.nx
theorem sa {tg e:Expr} {te:TE} {g:TG} (he:PE X e te) (hg:PG X tg g) (hs:swapsWithSole [tg] e pos.line X.env=pure false:=by rfl) (hw:swappedStores [tg] e X.env=pure none:=by rfl)
   (h1:(assignEach [tg] X.env).map (·.2)=[assign tg X.env]:=by rfl):PS X (.Assign [tg] e pos) (yP te g):=by
 intro pins s σ H D I h
 refine wpAny_Assign_stores (thn (he pins s σ H _ I h) λv s1 ⟨x,H1,I1,r1,q1⟩=>?_) hs hw
 rw [h1]
 exact thn (hg pins s1 σ H1 x v _ I1 r1 q1) λ_ s2 q=>q
theorem sr {i:Nat} {x:Str} {e:Expr} {te:TE} {pos':Pos} (hN:X.N.Nodup) (hi:X.N[i]?=some x) (hx:Loc X.env.scope x) (he:PE X e te) (hs:swapsWith e (some (.Name x pos')) pos.line X.env=pure false:=by rfl) (hf:X.fn x=true\/X.env.scope.names.lookup x=some .local:=by first | exact .inl rfl | exact .inr rfl | assumption) :
   PS X (.Assign [.Name x pos'] e pos) (yP te (wj i)):=by
 intro pins s σ H D I h
 refine wpAny_Assign_Name (thn (he pins s σ H _ I h) λv s1 ⟨y,H1,I1,r1,q1⟩=>?_) hs
 exact hR I1 hN hi hx r1 (λs2 I2=>⟨_,H1,I2,q1⟩) hf
end
section
variable {X:Cx} {pos:Pos}
noncomputable def yX (c:TT) (tb:TS):TS:=λD σ H=>∃ W:Nat->St->Hp->Prop,(∃ m,W m σ H)/\∀ m σ H,W m σ H ->
 c σ H λb H1=>if b=true then ∃ N:St->Hp->Prop,(∀ σ' H',N σ' H'->∃ m',m' < m/\W m' σ' H')/\tb { D with nx:=N,ct:=N,bk:=D.nx } σ H1 else D.nx σ H1
theorem sf {c:Expr} {body:List Stmt} {tc:TT} {tb:TS} (hp:PassesOwn (model X.prog X.w) X.A X.env X.xe) (hc:PT X c tc) (hb:PSs X body tb):PS X (.While c body [] pos) (yX tc tb):=by
 intro pins s σ H D I h
 obtain ⟨W,⟨m0,w0⟩,turn⟩:=h
 refine wpAny_While (codeAny_whileLoop (λn s'=>∃ σ' H',Inv X pins σ' H' s'/\W n σ' H') ?_ m0 ⟨σ,H,I,w0⟩)
 rintro n s1 ⟨σ1,H1,I1,w1⟩
 refine wpAny_passesOwn hp (thn (hc pins s1 σ1 H1 _ I1 (turn n σ1 H1 w1)) λb s2 ⟨H2,I2,q2⟩=>?_)
 cases b with
 | true=>
   obtain ⟨N,hN,q2⟩:=q2
   rw [if_pos rfl]
   refine wpAny_passesOwn hp (thn (hb pins s2 σ1 H2 _ I2 q2) λf s3 q3=>?_)
   cases f with
   | next=>
     obtain ⟨σ3,H3,I3,n3⟩:=q3
     obtain ⟨m',hm,w3⟩:=hN σ3 H3 n3
     exact ⟨m',hm,σ3,H3,I3,w3⟩
   | cont=>
     obtain ⟨σ3,H3,I3,n3⟩:=q3
     obtain ⟨m',hm,w3⟩:=hN σ3 H3 n3
     exact ⟨m',hm,σ3,H3,I3,w3⟩
   | brk=>exact q3
   | ret v=>exact q3
 | false=>
   rw [if_neg Bool.false_ne_true]
   exact wpAny_execs_nil ⟨σ1,H2,I2,q2⟩
end
structure It where
 go:Nat->Hp->Prop
 yld:Nat->Hp->V->Hp->Prop
 stop:Nat->Hp->Prop
noncomputable def kq (X:Cx) (pins:List (Addr × Obj)) (H:Hp) (b:Addr):Prop:=
 H b=none/\b ≠ X.env.locals/\b ∉ X.fs/\(b ∈ X.ex\/X.s₀.heap.objs.size<=b)/\(∀ x c,X.env.cells.lookup x=some c->c ≠ b)/\∀ p ∈ X.pn++pins,p.1 ≠ b
theorem Inv.oU {X:Cx} {pins:List (Addr × Obj)} {σ:St} {H H':Hp} {s:Shared} {b:Addr} (I:Inv X pins σ H s) (hb:s.heap.objs.size<=b) (hn:H' b=none):kq X pins H' b:=by
 refine ⟨hn,Nat.ne_of_gt (Nat.lt_of_lt_of_le I.lt hb),I.A5 hb,.inr (Nat.le_trans I.sz hb),λx c e z=>?_,λp hp z=>?_⟩
 · obtain ⟨v,q⟩:=I.cell x c e
   exact absurd (Nat.lt_of_lt_of_le q.lt (by rw [z]; exact hb)) (Nat.lt_irrefl _)
 · exact absurd (Nat.lt_of_lt_of_le (Heap.lt_size (I.pin p hp).1) (by rw [z]; exact hb)) (Nat.lt_irrefl _)
noncomputable def A3 (X:Cx):Prop:=∃ h o u vs,X.A.handled=some (.ref h)/\X.H₀ h=some (.frz o u)/\o.data=.fields vs/\vs[2]?=some .none
noncomputable def Ck (kd:Bool) (X:Cx):Prop:=X.calm=true\/(kd=true/\A3 X)
theorem Ck.calm {X:Cx} (h:Ck false X):X.calm=true:=h.resolve_right λz=>nomatch z.1
structure Turn (P:Program) (w:World) (K:PySem.W.Frag) (kd:Bool) (tg:Expr) (J:It) (fp:List Addr) (it:Addr) (tn:Nat->Heap->Prop):Prop where
 mem:it ∈ fp
 obj:∀ i h,tn i h->∀ b ∈ fp,∃ o,h.get? b=some o/\∀ v,o.data ≠ .cell v
 keep:∀ i h h',tn i h->(∀ b ∈ fp,∀ o,h.get? b=some o->h'.get? b=some o)->tn i h'
 item:∀ (X:Cx),X.prog=P->X.w=w->X.K=K->Ck kd X->∀ (i:Nat) (pins:List (Addr × Obj)) (s:Shared) (σ:St) (H:Hp) (E:Value->Shared->Prop),Inv X pins σ H s->(∀ b ∈ fp,kq X pins H b)->tn i s.heap->J.go i H ->
   wpAny (model P w) X.A (pyNext (.ref it)) (λr s1=>∃ u,r=some u /\
     wpAny (model P w) X.A (letOwnedTupleGo tg (.ref it) u) (λ_ s2=>∃ x H',Inv X pins σ H' s2/\RelV x u/\J.yld i H x H'/\tn (i + 1) s2.heap/\∀ b ∈ fp,H' b=none) E s1) E s
 done:∀ (X:Cx),X.prog=P->X.w=w->X.K=K->Ck kd X->∀ (i:Nat) (pins:List (Addr × Obj)) (s:Shared) (σ:St) (H:Hp) (E:Value->Shared->Prop),Inv X pins σ H s->(∀ b ∈ fp,kq X pins H b)->tn i s.heap->J.stop i H ->
   wpAny (model P w) X.A (pyNext (.ref it)) (λr s1=>r=none/\Inv X pins σ H s1) E s
 self:∀ (A:Around) (i:Nat) (s:Shared) (Q:Value->Shared->Prop) (E:Value->Shared->Prop),tn i s.heap->Q (.ref it) s->wpAny (model P w) A (pyIter (.ref it)) Q E s
noncomputable abbrev TI:=St->Hp->(It->Hp->Prop)->Prop
noncomputable def PIE (X:Cx) (pins:List (Addr × Obj)) (σ:St) (tg:Expr) (R:It->Hp->Prop) (itv:Value) (s2:Shared):Prop:=
 ∃ (kd:Bool) (it:Addr) (fp:List Addr) (tn:Nat->Heap->Prop) (J:It) (H':Hp),itv=.ref it/\Inv X pins σ H' s2/\Ck kd X/\Turn X.prog X.w X.K kd tg J fp it tn/\tn 0 s2.heap/\(∀ b ∈ fp,kq X pins H' b)/\R J H'
noncomputable def PI (X:Cx) (tg iter:Expr) (wi:TI):Prop:=
 ∀ (pins:List (Addr × Obj)) (s:Shared) (σ:St) (H:Hp) (R:It->Hp->Prop),Inv X pins σ H s->wi σ H R ->
   wpAny (model X.prog X.w) X.A (eval iter X.env) (λv s1=>wpAny (model X.prog X.w) X.A (pyIter v) (PIE X pins σ tg R) X.xe s1) X.xe s
theorem tZ {M:Model} {A:Around} {E:Value->Shared->Prop} {s:Shared} {tg:Expr} {it:Addr} {u:Value} {o:Obj} {n:String} {vs:Array Value} {Q:Unit->Shared->Prop} (ho:s.heap.get? it=some o) (hc:o.cls=.type n) (hd:o.data=.fields vs)
   (hn:["enumerate","zip","dict_itemiterator","dict_reverseitemiterator","odict_iterator","itertools.zip_longest","itertools.pairwise"].contains n=false) (hQ:Q () s):wpAny M A (letOwnedTupleGo tg (.ref it) u) Q E s:=by
 unfold letOwnedTupleGo
 cases tg <;> first
   | exact wpAny_pure hQ
   | (cases u <;> first
       | exact wpAny_pure hQ
       | (refine wpAny_bind (wpAny_load ho ?_)
          rw [hc,hd]
          show wpAny M A (if (["enumerate","zip","dict_itemiterator","dict_reverseitemiterator","odict_iterator","itertools.zip_longest","itertools.pairwise"].contains n && vs[0]? == some (rawInt _))=true then _ else _) Q E s
          rw [if_neg (by intro h; rw [hn,Bool.false_and] at h; cases h)]
          exact wpAny_pure hQ))
noncomputable def Itl (K:PySem.W.Frag) (a:Addr):It:=
 ⟨λi H=>∃ xs x,SqL K H a xs/\xs[i]?=some x,λi H x H'=>H'=H/\∀ xs,SqL K H a xs->xs[i]?=some x,λi H=>∃ xs,SqL K H a xs/\xs.length<=i⟩
noncomputable def Itr (lo:Int) (n:Nat):It:=⟨λi _=>i < n,λi H x H'=>H'=H/\x=.int (lo + i),λi _=>n<=i⟩
theorem r6 {P:Program} {w:World} {K:PySem.W.Frag} {tg:Expr} (a it:Addr):Turn P w K false tg (Itl K a) [it] it (λi h=>h.IsListIter it a i) where
 mem:=by simp
 obj:=λi h st b hb=>by
   have e:b=it:=by simpa using hb
   subst e
   obtain ⟨o,e,c,d⟩:=st
   exact ⟨o,e,λv z=>by rw [d] at z; cases z⟩
 keep:=λi h h' st k=>st.at λo e=>k it (by simp) o e
 item:=by
   intro X hP hw hK hc i pins s σ H E I hf st hg
   subst hP hw hK
   obtain ⟨xs,x,hq,hx⟩:=hg
   obtain ⟨its,rv,p,hz⟩:=I.list hq
   obtain ⟨u,hu,ru⟩:=rv.get hx
   obtain ⟨f0,f1,f2,f3,f4,f5⟩:=hf it (by simp)
   refine wpAny_pyNext_list_item st p.isList (x:=u) (by simpa using hu) λh' st' sb=>?_
   have I1:Inv X pins σ H { s with heap:=h' }:=I.turned (t':=s.toks) (λb o hb e=>(sb.2 b hb).trans e) f0 f1 f3 f4 f5
   obtain ⟨o,e,c,d⟩:=id st'
   exact ⟨u,rfl,tZ (s:={ s with heap:=h' }) e c d (by decide) ⟨x,H,I1,ru,⟨rfl,λys hy=>by rw [I.g8 hy hq]; exact hx⟩,st',λb hb=>(hf b hb).1⟩⟩
 done:=by
   intro X hP hw hK hc i pins s σ H E I hf st hg
   subst hP hw hK
   obtain ⟨xs,hq,hx⟩:=hg
   obtain ⟨its,rv,p,hz⟩:=I.list hq
   obtain ⟨f0,f1,f2,f3,f4,f5⟩:=hf it (by simp)
   have hl:=rv.length
   exact wpAny_pyNext_list_end (I.ok.hd hc.calm) st p.isList (by simp; omega) λh' eb=>⟨rfl,I.turned (t':=s.toks) (λb o hb e=>eb b o hb e) f0 f1 f3 f4 f5⟩
 self:=λ_ _ _ _ _ st h=>wpAny_pyIter_listiter st h
theorem pV {P:Program} {w:World} {K:PySem.W.Frag} {tg:Expr} (it:Addr) (lo:Int) (n:Nat):Turn P w K true tg (Itr lo n) [it] it (λi h=>IsRangeIter h it (lo + (i:Nat) * 1) ((n:Int) - (i:Nat)) 1) where
 mem:=by simp
 obj:=λi h st b hb=>by
   have e:b=it:=by simpa using hb
   subst e
   exact ⟨_,st,λv z=>by
     have z':Data.fields _=Data.cell v:=z
     cases z'⟩
 keep:=λi h h' st k=>k it (by simp) _ st
 item:=by
   intro X hP hw hK hc i pins s σ H E I hf st hg
   subst hP hw hK
   obtain ⟨f0,f1,f2,f3,f4,f5⟩:=hf it (by simp)
   refine wpAny_pyNext_range_item st (by have:i < n:=hg; omega) λh' st0 sb=>?_
   have st':IsRangeIter h' it (lo + ((i + 1:Nat):Int) * 1) ((n:Int) - ((i + 1:Nat):Int)) 1:=by
     have e1:lo + ((i + 1:Nat):Int) * 1=lo + (i:Nat) * 1 + 1:=by omega
     have e2:(n:Int) - ((i + 1:Nat):Int)=(n:Int) - (i:Nat) - 1:=by omega
     rw [e1,e2]; exact st0
   have I1:Inv X pins σ H { s with heap:=h',toks:=s.toks + 1 }:=I.turned (λb o hb e=>(sb.2 b hb).trans e) f0 f1 f3 f4 f5
   refine ⟨_,rfl,tZ (s:={ s with heap:=h',toks:=s.toks + 1 }) (n:="range_iterator") st' rfl rfl (by decide) ⟨.int (lo + i),H,I1,⟨s.toks,?_⟩,⟨rfl,rfl⟩,st',λb hb=>(hf b hb).1⟩⟩
   rw [Int.mul_one]
 done:=by
   intro X hP hw hK hc i pins s σ H E I hf st hg
   subst hP hw hK
   obtain ⟨f0,f1,f2,f3,f4,f5⟩:=hf it (by simp)
   rcases hc with hc | ⟨_,q,o,u,vs,e1,e2,e3,e4⟩
   · exact wpAny_pyNext_range_end (I.ok.hd hc) st (by have:n<=i:=hg; omega) λh' eb=>⟨rfl,I.turned (t':=s.toks) (λb o hb e=>eb b o hb e) f0 f1 f3 f4 f5⟩
   · have e5:=I.hok q _ (I.base.frzs q o u e2)
     exact Hx.oZ e1 e5.1 e3 e4 st (by have:n<=i:=hg; omega) λh' eb=>⟨rfl,I.turned (t':=s.toks) (λb o hb e=>eb b o hb e) f0 f1 f3 f4 f5⟩
 self:=λ_ _ _ _ _ st h=>wpAny_pyIter_rangeiter st h
section
variable {X:Cx} {tg:Expr}
noncomputable def Al (K:PySem.W.Frag) (tl:TE):TI:=λσ H R=>tl σ H λx H1=>∃ a,x=.ref a/\(∃ xs,SqL K H1 a xs)/\R (Itl K a) H1
theorem vQ {l:Expr} {tl:TE} (hc:X.calm=true) (hl:PE X l tl):PI X tg l (Al X.K tl):=by
 intro pins s σ H R I h
 refine thn (hl pins s σ H _ I h) λv s1 ⟨x,H1,I1,r1,q1⟩=>?_
 obtain ⟨a,e,⟨xs,hq⟩,q⟩:=q1
 subst e
 cases r1
 obtain ⟨its,rv,p,hz⟩:=I1.list hq
 refine wpAny_pyIter_list p.isList ?_
 refine ⟨false,s1.heap.objs.size,[s1.heap.objs.size],_,_,H1,rfl,I1.kept (t':=s1.toks) λb o e=>Heap.get?_push_of_some _ e,.inl hc,r6 a _,⟨_,Heap.get?_push_size _ rfl,rfl,rfl⟩,λb hb=>?_,q⟩
 have e:b=s1.heap.objs.size:=by simpa using hb
 subst e
 exact I1.oU (Nat.le_refl _) (I1.hok.fresh (Nat.le_refl _))
theorem nY {pins:List (Addr × Obj)} {σ:St} {H:Hp} {s:Shared} {R:It->Hp->Prop} {E:Value->Shared->Prop} {lo hi:Int} {t u v:Tok} {tk:Nat} (hc:Ck true X) (I:Inv X pins σ H s) (h1:-(2 ^ 62)<=lo) (h2:lo < 2 ^ 62) (h3:-(2 ^ 62)<=hi) (h4:hi < 2 ^ 62)
   (q:R (Itr lo (hi - lo).toNat) H):wpAny (model X.prog X.w) X.A (pyIter (.ref s.heap.objs.size)) (PIE X pins σ tg R) E { s with heap:=s.heap.push { cls:=.type "range",data:=.fields #[.int lo t,.int hi u,.int 1 v] },toks:=tk }:=by
 refine wpAny_pyIter_range (IsRange.new ..) (small_one h1 h2 h3 h4) ?_
 have I1:Inv X pins σ H { s with heap:=s.heap.push { cls:=.type "range",data:=.fields #[.int lo t,.int hi u,.int 1 v] },toks:=tk }:=I.kept λb o e=>Heap.get?_push_of_some _ e
 refine ⟨true,(s.heap.push { cls:=.type "range",data:=.fields #[.int lo t,.int hi u,.int 1 v] }).objs.size,[(s.heap.push { cls:=.type "range",data:=.fields #[.int lo t,.int hi u,.int 1 v] }).objs.size],_,_,H,rfl,
   I1.kept (t':=tk) λb o e=>Heap.get?_push_of_some _ e,hc,pV _ lo (hi - lo).toNat,?_,λb hb=>?_,q⟩
 · have e1:lo + ((0:Nat):Int) * 1=lo:=by simp
   have e2:(((hi - lo).toNat:Nat):Int) - ((0:Nat):Int)=Builtin.Range.rangeSize lo hi 1:=by rw [rangeSize_one]; split <;> omega
   show IsRangeIter _ _ (lo + ((0:Nat):Int) * 1) ((((hi - lo).toNat:Nat):Int) - ((0:Nat):Int)) 1
   rw [e1,e2]
   exact Heap.get?_push_size _ rfl
 · have e:b=(s.heap.push { cls:=.type "range",data:=.fields #[.int lo t,.int hi u,.int 1 v] }).objs.size:=by simpa using hb
   subst e
   exact I1.oU (Nat.le_refl _) (I1.hok.fresh (Nat.le_refl _))
noncomputable def zE (ta:TA):TI:=λσ H R=>ta σ H λvs H1=>∃ j:Int,vs=[.int j]/\-(2 ^ 62)<=j/\j < 2 ^ 62/\R (Itr 0 j.toNat) H1
noncomputable def zL (ta:TA):TI:=λσ H R=>ta σ H λvs H1=>∃ i j:Int,vs=[.int i,.int j]/\(-(2 ^ 62)<=i/\i < 2 ^ 62/\-(2 ^ 62)<=j/\j < 2 ^ 62)/\R (Itr i (j - i).toNat) H1
theorem lB {a:Expr} {ta:TA} {p pos:Pos} (hc:Ck true X) (hg:Gl X "range") (hm:X.mg "range" = none) (ha:PA X [a] ta) (hs:starEach [a] X.env=[(false,eval a X.env)]:=by rfl):PI X tg (.Call (.Name "range" p) [a] [] pos) (zE ta):=by
 intro pins s σ H R I h
 refine Call_ (gC I hg hm boot_range (PyProof.Rows.callWith_type1 (thn (ha pos pins s σ H _ I h) λus s1 ⟨vs,H1,I1,r1,q1⟩=>?_) hs rfl))
 obtain ⟨j,e,q1,q2,q⟩:=q1
 subst e
 cases r1 with
 | cons r rr=>
   cases rr
   obtain ⟨t,rfl⟩:=r
   exact call_range_1 (nY hc I1 (by omega) (by omega) q1 q2 (by simpa using q))
theorem rd {a b:Expr} {ta:TA} {p pos:Pos} (hc:Ck true X) (hg:Gl X "range") (hm:X.mg "range" = none) (ha:PA X [a,b] ta) (hs:starEach [a,b] X.env=[(false,eval a X.env),(false,eval b X.env)]:=by rfl) (hs2:starEach [b] X.env=[(false,eval b X.env)]:=by rfl) :
   PI X tg (.Call (.Name "range" p) [a,b] [] pos) (zL ta):=by
 intro pins s σ H R I h
 refine Call_ (gC I hg hm boot_range (PyProof.Rows.callWith_type1 (thn (ha pos pins s σ H _ I h) λus s1 ⟨vs,H1,I1,r1,q1⟩=>?_) (by rw [hs,hs2]) (by rw [hs2]; rfl)))
 obtain ⟨i,j,e,⟨q1,q2,q3,q4⟩,q⟩:=q1
 subst e
 cases r1 with
 | cons r rr=>
   cases rr with
   | cons r' rr=>
     cases rr
     obtain ⟨t,rfl⟩:=r
     obtain ⟨t',rfl⟩:=r'
     exact call_range_2 (nY hc I1 q1 q2 q3 q4 q)
noncomputable def AY (wi:TI) (g:TG) (tb:TS):TS:=λD σ H=>wi σ H λJ H1=>∃ W:Nat->Nat->St->Hp->Prop,(∃ m,W 0 m σ H1)/\∀ i m σ H,W i m σ H ->
 (J.stop i H/\D.nx σ H)\/(J.go i H/\∃ N:St->Hp->Prop,(∀ σ' H',N σ' H'->∃ m',m' < m/\W (i + 1) m' σ' H')/\∀ x H',J.yld i H x H'->g x σ H' λσ2 H2=>tb { D with nx:=N,ct:=N,bk:=D.nx } σ2 H2)
noncomputable def gy (fp:List Addr) (h:Heap):List (Addr × Obj):=fp.filterMap λb=>(h.get? b).map λo=>(b,o)
theorem bX {fp:List Addr} {h:Heap} {b:Addr} {o:Obj} (hb:b ∈ fp) (e:h.get? b=some o):(b,o) ∈ gy fp h:=List.mem_filterMap.mpr ⟨b,hb,by rw [e]; rfl⟩
theorem q9 {fp:List Addr} {h:Heap} {p:Addr × Obj} (hp:p ∈ gy fp h):p.1 ∈ fp/\h.get? p.1=some p.2:=by
 obtain ⟨b,hb,e⟩:=List.mem_filterMap.mp hp
 cases q:h.get? b with
 | none=>rw [q] at e; cases e
 | some o=>
   rw [q] at e
   have e':(b,o)=p:=Option.some.inj e
   subst e'
   exact ⟨hb,q⟩
theorem Inv.pinned {pins:List (Addr × Obj)} {σ:St} {H:Hp} {s:Shared} {fp:List Addr} (I:Inv X pins σ H s) (hf:∀ b ∈ fp,kq X pins H b) (ho:∀ b ∈ fp,∃ o,s.heap.get? b=some o/\∀ v,o.data ≠ .cell v):Inv X (pins++gy fp s.heap) σ H s:=
 I.qb λp hp=>(List.mem_append.mp hp).elim (λz=>I.pin p (List.mem_append_right _ z)) λz=>by
   obtain ⟨hb,e⟩:=q9 z
   obtain ⟨f0,f1,f2,_⟩:=hf p.1 hb
   obtain ⟨o,e',d⟩:=ho p.1 hb
   rw [e] at e'; cases e'
   exact ⟨e,f0,f1,f2,d⟩
theorem Inv.dY {pins pl:List (Addr × Obj)} {σ:St} {H:Hp} {s:Shared} (I:Inv X (pins++pl) σ H s):Inv X pins σ H s:=I.qb λp hp=>I.pin p (List.mem_append_right _ (List.mem_append_left _ hp))
theorem yR {iter:Expr} {body:List Stmt} {wi:TI} {g:TG} {tb:TS} {pos:Pos} (hp:PassesOwn (model X.prog X.w) X.A X.env X.xe) (hi:PI X tg iter wi) (hg:PG X tg g) (hb:PSs X body tb)
   (hs:∀ x,foldedSetIterable iter X.env x=pure x:=by intro _; rfl):PS X (.For tg iter body [] pos) (AY wi g tb):=by
 intro pins s σ H D I h
 refine wpAny_For (thn (hi pins s σ H _ I h) λv s1 h1=>thn h1 λitv s2 h2=>?_) hs
 obtain ⟨kd,it,fp,tn,J,H2,e,I2,hc,T,st2,f2,W,⟨m0,w0⟩,turn⟩:=h2
 subst e
 have stat:∀ {H':Hp},(∀ b ∈ fp,H' b=none)->∀ b ∈ fp,kq X pins H' b:=λhn b hb=>⟨hn b hb,(f2 b hb).2⟩
 refine codeAny_forLoop_any (λn s'=>∃ i σ' H',Inv X pins σ' H' s'/\tn i s'.heap/\(∀ b ∈ fp,H' b=none)/\W i n σ' H') ?_ m0 ⟨0,σ,H2,I2,st2,λb hb=>(f2 b hb).1,w0⟩
 rintro n s3 ⟨i,σ3,H3,I3,st3,fr3,w3⟩
 rcases turn i n σ3 H3 w3 with ⟨stop,qn⟩ | ⟨go,N,hN,step⟩
 · refine wpAny_passesOwn hp (thn (T.done X rfl rfl rfl hc i pins s3 σ3 H3 X.xe I3 (stat fr3) st3 stop) λr s4 ⟨hr,I4⟩=>?_)
   subst hr
   exact wpAny_execs_nil ⟨σ3,H3,I4,qn⟩
 · refine wpAny_passesOwn hp (thn (T.item X rfl rfl rfl hc i pins s3 σ3 H3 X.xe I3 (stat fr3) st3 go) λr s4 ⟨u,hr,h4⟩=>?_)
   subst hr
   refine wpAny_passesOwn hp (thn h4 λ_ s5 ⟨x,H5,I5,r5,y5,st5,fr5⟩=>?_)
   have I5':=I5.pinned (stat fr5) (T.obj _ _ st5)
   refine wpAny_passesOwn hp (thn (hg _ s5 σ3 H5 x u _ I5' r5 (step x H5 y5)) λ_ s6 ⟨σ6,H6,I6,q6⟩=>?_)
   refine wpAny_passesOwn hp (thn (hb _ s6 σ6 H6 _ I6 q6) λf s7 q7=>?_)
   have again:∀ {σ7:St} {H7:Hp},Inv X (pins++gy fp s5.heap) σ7 H7 s7->N σ7 H7->∃ m,m < n/\∃ i σ' H',Inv X pins σ' H' s7/\tn i s7.heap/\(∀ b ∈ fp,H' b=none)/\W i m σ' H':=λ{σ7 H7} I7 n7=>by
     obtain ⟨m',hm,w7⟩:=hN σ7 H7 n7
     refine ⟨m',hm,i + 1,σ7,H7,I7.dY,T.keep _ _ _ st5 λb hb o e=>(I7.pin (b,o) (List.mem_append_right _ (List.mem_append_right _ (bX hb e)))).1,λb hb=>?_,w7⟩
     obtain ⟨o,e,d⟩:=T.obj _ _ st5 b hb
     exact (I7.pin (b,o) (List.mem_append_right _ (List.mem_append_right _ (bX hb e)))).2.1
   cases f with
   | next=>obtain ⟨σ7,H7,I7,n7⟩:=q7; exact again I7 n7
   | cont=>obtain ⟨σ7,H7,I7,n7⟩:=q7; exact again I7 n7
   | brk=>obtain ⟨σ7,H7,I7,q7⟩:=q7; exact ⟨σ7,H7,I7.dY,q7⟩
   | ret v=>obtain ⟨x7,σ7,H7,I7,r7,q7⟩:=q7; exact ⟨x7,σ7,H7,I7.dY,r7,q7⟩
end
noncomputable abbrev R2:=V->V->Hp->VK->Prop
noncomputable def OpR (X:Cx) (f:Value->Value->Sem Value) (r:R2):Prop:=
 ∀ (pins:List (Addr × Obj)) (s:Shared) (σ:St) (H:Hp) (x y:V) (v u:Value) (Q:VK),Inv X pins σ H s->RelV x v->RelV y u->r x y H Q ->
   wpAny (model X.prog X.w) X.A (f v u) (EP X pins σ Q) X.xe s
noncomputable def UnR (X:Cx) (f:Value->Sem Value) (r:V->Hp->VK->Prop):Prop:=
 ∀ (pins:List (Addr × Obj)) (s:Shared) (σ:St) (H:Hp) (x:V) (v:Value) (Q:VK),Inv X pins σ H s->RelV x v->r x H Q ->
   wpAny (model X.prog X.w) X.A (f v) (EP X pins σ Q) X.xe s
noncomputable def cY (X:Cx) (f:Value) (r:List V->Hp->VK->Prop):Prop:=
 ∀ (pins:List (Addr × Obj)) (s:Shared) (σ:St) (H:Hp) (xs:List V) (us:List Value) (Q:VK),Inv X pins σ H s->Vals xs us->r xs H Q ->
   wpAny (model X.prog X.w) X.A (call f us) (EP X pins σ Q) X.xe s
noncomputable def tOp (r:R2) (ta tb:TE):TE:=λσ H Q=>ta σ H λx H1=>tb σ H1 λy H2=>r x y H2 Q
noncomputable def tUn (r:V->Hp->VK->Prop) (ta:TE):TE:=λσ H Q=>ta σ H λx H1=>r x H1 Q
noncomputable def rI (C:Int->Int->Prop) (g:Int->Int->V):R2:=λx y H Q=>∃ i j,x=.int i/\y=.int j/\C i j/\Q (g i j) H
noncomputable def rI0 (g:Int->Int->V):R2:=λx y H Q=>∃ i j,x=.int i/\y=.int j/\Q (g i j) H
noncomputable def rU (g:Int->V):V->Hp->VK->Prop:=λx H Q=>∃ i,x=.int i/\Q (g i) H
section
variable {X:Cx} {a b c:Expr} {ta tb tc:TE} {pos:Pos}
theorem xh (ha:PE X a ta) (hb:PE X b tb) {pins:List (Addr × Obj)} {s:Shared} {σ:St} {H:Hp} {R:V->V->Hp->Prop} (I:Inv X pins σ H s)
   (h:ta σ H λx H1=>tb σ H1 λy H2=>R x y H2) {Q:Value->Shared->Prop} {f:Value->Value->Sem Value}
   (hf:∀ v u s2 x y H2,Inv X pins σ H2 s2->RelV x v->RelV y u->R x y H2->wpAny (model X.prog X.w) X.A (f v u) Q X.xe s2) :
   wpAny (model X.prog X.w) X.A (eval a X.env) (λv s₁=>wpAny (model X.prog X.w) X.A (eval b X.env) (λu s₂=>wpAny (model X.prog X.w) X.A (f v u) Q X.xe s₂) X.xe s₁) X.xe s:=by
 refine thn (ha pins s σ H _ I h) λv s1 ⟨x,H1,I1,r1,q1⟩=>?_
 refine thn (hb pins s1 σ H1 _ I1 q1) λu s2 ⟨y,H2,I2,r2,q2⟩=>?_
 exact hf v u s2 x y H2 I2 r1 r2 q2
theorem ua {op:Operator} {r:R2} (ho:OpR X (binaryOp op) r) (ha:PE X a ta) (hb:PE X b tb):PE X (.BinOp a op b pos) (tOp r ta tb):=by
 intro pins s σ H Q I h
 exact wpAny_BinOp (xh ha hb I h λv u s2 x y H2 I2 rx ry q=>ho pins s2 σ H2 x y v u Q I2 rx ry q)
theorem zt {op:UnaryOp} {r:V->Hp->VK->Prop} (ho:UnR X (unaryOp op) r) (ha:PE X a ta):PE X (.UnaryOp op a pos) (tUn r ta):=by
 intro pins s σ H Q I h
 exact UnaryOp_ (thn (ha pins s σ H _ I h) λv s1 ⟨x,H1,I1,r1,q1⟩=>ho pins s1 σ H1 x v Q I1 r1 q1)
theorem opI {f:Value->Value->Sem Value} {C:Int->Int->Prop} {g:Int->Int->Int}
   (rule:∀ (i j:Int) (t u:Tok) (s:Shared) (Q:Value->Shared->Prop) (E:Value->Shared->Prop),C i j->Q (.int (g i j) s.toks) { s with toks:=s.toks + 1 }->wpAny (model X.prog X.w) X.A (f (.int i t) (.int j u)) Q E s) :
   OpR X f (rI C λi j=>.int (g i j)):=by
 intro pins s σ H x y v u Q I rx ry h
 obtain ⟨i,j,rfl,rfl,hc,q⟩:=h
 obtain ⟨t,rfl⟩:=rx
 obtain ⟨t',rfl⟩:=ry
 exact rule i j t t' s _ _ hc ⟨.int (g i j),H,I.tok _,⟨_,rfl⟩,q⟩
theorem zy {f:Value->Value->Sem Value} {g:Int->Int->Int}
   (rule:∀ (i j:Int) (t u:Tok) (s:Shared) (Q:Value->Shared->Prop) (E:Value->Shared->Prop),Q (.int (g i j) s.toks) { s with toks:=s.toks + 1 }->wpAny (model X.prog X.w) X.A (f (.int i t) (.int j u)) Q E s) :
   OpR X f (rI0 λi j=>.int (g i j)):=by
 intro pins s σ H x y v u Q I rx ry h
 obtain ⟨i,j,rfl,rfl,q⟩:=h
 obtain ⟨t,rfl⟩:=rx
 obtain ⟨t',rfl⟩:=ry
 exact rule i j t t' s _ _ ⟨.int (g i j),H,I.tok _,⟨_,rfl⟩,q⟩
theorem wa {f:Value->Value->Sem Value} {g:Int->Int->Bool}
   (rule:∀ (i j:Int) (t u:Tok) (s:Shared) (Q:Value->Shared->Prop) (E:Value->Shared->Prop),Q (.bool (g i j)) s->wpAny (model X.prog X.w) X.A (f (.int i t) (.int j u)) Q E s) :
   OpR X f (rI0 λi j=>.bl (g i j)):=by
 intro pins s σ H x y v u Q I rx ry h
 obtain ⟨i,j,rfl,rfl,q⟩:=h
 obtain ⟨t,rfl⟩:=rx
 obtain ⟨t',rfl⟩:=ry
 exact rule i j t t' s _ _ ⟨.bl (g i j),H,I,rfl,q⟩
noncomputable def AJ (i j:Int):Prop:=0<=j/\j<=1000000/\i.natAbs < 2 ^ 64
theorem oW (k:Nat):(0:Int)<=2 ^ k:=by
 rw [two_pow_cast]
 exact Int.natCast_nonneg _
theorem xF:OpR X (binaryOp .Add) (rI0 λi j=>.int (i + j)):=zy λ_ _ _ _ _ _ _ q=>add_int q
theorem xu:OpR X (binaryOp .Sub) (rI0 λi j=>.int (i - j)):=zy λ_ _ _ _ _ _ _ q=>sub_int q
theorem vU:OpR X (binaryOp .Mod) (rI (λ_ j=>j ≠ 0) λi j=>.int (i.fmod j)):=opI λ_ _ _ _ _ _ _ hc q=>mod_int' hc q
theorem yI:OpR X (binaryOp .Pow) (rI AJ λi j=>.int (i ^ j.toNat)):=opI λ_ _ _ _ _ _ _ hc q=>pow_int_small hc.1 hc.2.1 hc.2.2 q
theorem xD:OpR X (binaryOp .RShift) (rI (λ_ j=>0<=j) λi j=>.int (i / 2 ^ j.toNat)):=opI λi j _ _ _ _ _ hc q=>
 rshift_int hc (by rw [Int.fdiv_eq_ediv_of_nonneg i (oW _)]; exact q)
theorem unI {f:Value->Sem Value} {g:Int->Int}
   (rule:∀ (i:Int) (t:Tok) (s:Shared) (Q:Value->Shared->Prop) (E:Value->Shared->Prop),Q (.int (g i) s.toks) { s with toks:=s.toks + 1 }->wpAny (model X.prog X.w) X.A (f (.int i t)) Q E s) :
   UnR X f (rU λi=>.int (g i)):=by
 intro pins s σ H x v Q I rx h
 obtain ⟨i,rfl,q⟩:=h
 obtain ⟨t,rfl⟩:=rx
 exact rule i t s _ _ ⟨.int (g i),H,I.tok _,⟨_,rfl⟩,q⟩
theorem yK:UnR X (unaryOp .USub) (rU λi=>.int (-i)):=unI λ_ _ _ _ _ q=>neg_int q
end
noncomputable def zD:V->V->Bool
 | .non,.non=>true | .non,.int _=>true | .int _,.non=>true | .non,.bl _=>true | .bl _,.non=>true | .non,.str _=>true | .str _,.non=>true
 | .int _,.int _=>true | .bl _,.bl _=>true | .str _,.str _=>true | .byt _,.byt _=>true
 | .int _,.str _=>true | .str _,.int _=>true | .bl _,.str _=>true | .str _,.bl _=>true
 | _,_=>false
noncomputable def rEq:R2:=λx y H Q=>zD x y=true/\Q (.bl (decide (x=y))) H
noncomputable def rNe:R2:=λx y H Q=>zD x y=true/\Q (.bl (!decide (x=y))) H
theorem pY {i j:Int}:decide (V.int i=V.int j)=(i == j):=by
 rw [Bool.eq_iff_iff]
 simp
theorem tE {i j:Bool}:decide (V.bl i=V.bl j)=(i == j):=by
 rw [Bool.eq_iff_iff]
 simp
theorem qI {i j:Str}:decide (V.str i=V.str j)=(i == j):=by
 rw [Bool.eq_iff_iff]
 simp
theorem p6 {i j:Array UInt8}:decide (V.byt i=V.byt j)=(i.toList == j.toList):=by
 rw [Bool.eq_iff_iff]
 cases i
 cases j
 simp
section
variable {X:Cx} {a b c:Expr} {ta tb tc:TE} {pos:Pos}
theorem aU {pins:List (Addr × Obj)} {σ:St} {H:Hp} {s:Shared} {Q:VK} {k k':Bool} (I:Inv X pins σ H s) (q:Q (.bl k) H) (e:k=k'):EP X pins σ Q (.bool k') s:=by
 subst e
 exact ⟨.bl k,H,I,rfl,q⟩
theorem zv:OpR X (compareOp .Eq) rEq:=by
 intro pins s σ H x y v u Q I rx ry h
 obtain ⟨hs,q⟩:=h
 cases x with
 | non=>
   cases rx
   cases y with
   | non=>cases ry; exact PySem.EqNone.eq_none_none (aU I q (by simp))
   | bl j=>cases ry; exact PySem.EqNone.eq_none_bool (aU I q (by simp))
   | int j=>obtain ⟨t',rfl⟩:=ry; exact PySem.EqNone.eq_none_int (aU I q (by simp))
   | str j=>obtain ⟨t',rfl⟩:=ry; exact PySem.EqNone.eq_none_str (aU I q (by simp))
   | _=>exact absurd (show false=true from hs) Bool.false_ne_true
 | bl i=>
   cases rx
   cases y with
   | non=>cases ry; exact PySem.EqNone.eq_bool_none (aU I q (by simp))
   | bl j=>cases ry; exact eq_bool (aU I q tE)
   | str j=>obtain ⟨t',rfl⟩:=ry; exact PySem.EqMixed.eq_bool_str (aU I q (by simp))
   | _=>exact absurd (show false=true from hs) Bool.false_ne_true
 | int i=>
   obtain ⟨t,rfl⟩:=rx
   cases y with
   | non=>cases ry; exact PySem.EqNone.eq_int_none (aU I q (by simp))
   | int j=>obtain ⟨t',rfl⟩:=ry; exact eq_int (aU I q pY)
   | str j=>obtain ⟨t',rfl⟩:=ry; exact PySem.EqMixed.eq_int_str (aU I q (by simp))
   | _=>exact absurd (show false=true from hs) Bool.false_ne_true
 | str i=>
   obtain ⟨t,rfl⟩:=rx
   cases y with
   | non=>cases ry; exact PySem.EqNone.eq_str_none (aU I q (by simp))
   | bl j=>cases ry; exact PySem.EqMixed.eq_str_bool (aU I q (by simp))
   | int j=>obtain ⟨t',rfl⟩:=ry; exact PySem.EqMixed.eq_str_int (aU I q (by simp))
   | str j=>obtain ⟨t',rfl⟩:=ry; exact eq_str (aU I q qI)
   | _=>exact absurd (show false=true from hs) Bool.false_ne_true
 | byt i=>
   obtain ⟨t,rfl⟩:=rx
   cases y with
   | byt j=>obtain ⟨t',rfl⟩:=ry; exact PySem.W.eq_bytes (aU I q p6)
   | _=>exact absurd (show false=true from hs) Bool.false_ne_true
 | _=>cases y <;> exact absurd (show false=true from hs) Bool.false_ne_true
theorem wH:OpR X (compareOp .NotEq) rNe:=by
 intro pins s σ H x y v u Q I rx ry h
 obtain ⟨hs,q⟩:=h
 cases x with
 | non=>
   cases rx
   cases y with
   | non=>cases ry; exact PySem.EqNone.ne_none_none (aU I q (by simp))
   | bl j=>cases ry; exact PySem.EqNone.ne_none_bool (aU I q (by simp))
   | int j=>obtain ⟨t',rfl⟩:=ry; exact PySem.EqNone.ne_none_int (aU I q (by simp))
   | str j=>obtain ⟨t',rfl⟩:=ry; exact PySem.EqNone.ne_none_str (aU I q (by simp))
   | _=>exact absurd (show false=true from hs) Bool.false_ne_true
 | bl i=>
   cases rx
   cases y with
   | non=>cases ry; exact PySem.EqNone.ne_bool_none (aU I q (by simp))
   | bl j=>cases ry; exact ne_bool (aU I q (congrArg not tE))
   | str j=>obtain ⟨t',rfl⟩:=ry; exact PySem.EqMixed.ne_bool_str (aU I q (by simp))
   | _=>exact absurd (show false=true from hs) Bool.false_ne_true
 | int i=>
   obtain ⟨t,rfl⟩:=rx
   cases y with
   | non=>cases ry; exact PySem.EqNone.ne_int_none (aU I q (by simp))
   | int j=>obtain ⟨t',rfl⟩:=ry; exact ne_int (aU I q (congrArg not pY))
   | str j=>obtain ⟨t',rfl⟩:=ry; exact PySem.EqMixed.ne_int_str (aU I q (by simp))
   | _=>exact absurd (show false=true from hs) Bool.false_ne_true
 | str i=>
   obtain ⟨t,rfl⟩:=rx
   cases y with
   | non=>cases ry; exact PySem.EqNone.ne_str_none (aU I q (by simp))
   | bl j=>cases ry; exact PySem.EqMixed.ne_str_bool (aU I q (by simp))
   | int j=>obtain ⟨t',rfl⟩:=ry; exact PySem.EqMixed.ne_str_int (aU I q (by simp))
   | str j=>obtain ⟨t',rfl⟩:=ry; exact ne_str (aU I q (congrArg not qI))
   | _=>exact absurd (show false=true from hs) Bool.false_ne_true
 | byt i=>
   obtain ⟨t,rfl⟩:=rx
   cases y with
   | byt j=>obtain ⟨t',rfl⟩:=ry; exact PySem.W.ne_bytes (aU I q (congrArg not p6))
   | _=>exact absurd (show false=true from hs) Bool.false_ne_true
 | _=>cases y <;> exact absurd (show false=true from hs) Bool.false_ne_true
theorem zr:OpR X (compareOp .Lt) (rI0 λi j=>.bl (decide (i < j))):=wa λ_ _ _ _ _ _ _ q=>lt_int q
theorem zM:OpR X (compareOp .LtE) (rI0 λi j=>.bl (decide (i<=j))):=wa λ_ _ _ _ _ _ _ q=>le_int q
theorem Az:OpR X (compareOp .Gt) (rI0 λi j=>.bl (decide (j < i))):=wa λ_ _ _ _ _ _ _ q=>gt_int q
theorem zf:OpR X (compareOp .GtE) (rI0 λi j=>.bl (decide (j<=i))):=wa λ_ _ _ _ _ _ _ q=>ge_int q
theorem pj:OpR X (compareOp .Is) (λx y H Q=>y=.non/\Q (.bl (decide (x=.non))) H):=by
 intro pins s σ H x y v u Q I rx ry h
 obtain ⟨rfl,q⟩:=h
 cases ry
 refine is_none_gen (aU I q ?_)
 cases x <;> first
   | (cases rx; rfl)
   | (obtain ⟨t,rfl⟩:=rx; rfl)
theorem um (b:Expr) {op:CmpOp} (h:op ≠ .In:=by decide) (h2:op ≠ .NotIn:=by decide):behindInMarks op b=false:=by
 have e1:(op == CmpOp.In)=false:=by cases op <;> first | rfl | exact absurd rfl h
 have e2:(op == CmpOp.NotIn)=false:=by cases op <;> first | rfl | exact absurd rfl h2
 cases b <;> simp [behindInMarks,e1,e2]
theorem va {op:CmpOp} {r:R2} (ho:OpR X (compareOp op) r) (ha:PE X a ta) (hb:PE X b tb) (hm:behindInMarks op b=false):PE X (.Compare a [op] [b] pos) (tOp r ta tb):=by
 intro pins s σ H Q I h
 exact wpAny_Compare1 (xh ha hb I h λv u s2 x y H2 I2 rx ry q=>ho pins s2 σ H2 x y v u Q I2 rx ry q) hm
noncomputable def wJ (t:TE):TT:=λσ H Q=>t σ H λx H'=>∃ k,x=.bl k/\Q k H'
theorem vS {op:CmpOp} {r:R2} (ho:OpR X (compareOp op) r) (ha:PE X a ta) (hb:PE X b tb) (hm:behindInMarks op b=false):PT X (.Compare a [op] [b] pos) (wJ (tOp r ta tb)):=by
 intro pins s σ H Q I h
 refine wpAny_isTrue_Compare1 (thn (ha pins s σ H _ I h) λv s1 ⟨x,H1,I1,r1,q1⟩=>thn (hb pins s1 σ H1 _ I1 q1) λu s2 ⟨y,H2,I2,r2,q2⟩=>
   thn (ho pins s2 σ H2 x y v u _ I2 r1 r2 q2) λc s3 ⟨z,H3,I3,r3,k,e,q3⟩=>?_) hm
 subst e
 cases r3
 exact wpAny_truthy_bool ⟨H3,I3,q3⟩
noncomputable def o9 (r r':R2) (ta tb tc:TE):TE:=λσ H Q=>ta σ H λx H1=>tb σ H1 λy H2=>r x y H2 λz H3=>∃ k,z=.bl k /\
 (if k=true then tc σ H3 λw' H4=>r' y w' H4 Q else Q (.bl false) H3)
theorem uA {op op':CmpOp} {r r':R2} (ho:OpR X (compareOp op) r) (ho':OpR X (compareOp op') r') (ha:PE X a ta) (hb:PE X b tb) (hc:PE X c tc)
   (hm:lastMarks [op,op'] [b,c]=false:=by with_unfolding_all rfl):PE X (.Compare a [op,op'] [b,c] pos) (o9 r r' ta tb tc):=by
 intro pins s σ H Q I h
 refine Compare_chain (thn (ha pins s σ H _ I h) λv s1 ⟨x,H1,I1,r1,q1⟩=>chain_link (thn (hb pins s1 σ H1 _ I1 q1) λu s2 ⟨y,H2,I2,r2,q2⟩=>
   thn (ho pins s2 σ H2 x y v u _ I2 r1 r2 q2) λd s3 ⟨z,H3,I3,r3,k,e,q3⟩=>?_)) hm
 subst e
 cases r3
 refine wpAny_truthy_bool ?_
 cases k with
 | false=>exact ite_ff ⟨.bl false,H3,I3,rfl,q3⟩
 | true=>exact ite_tt (chain_last (thn (hc pins s3 σ H3 _ I3 q3) λw' s4 ⟨z',H4,I4,r4,q4⟩=>ho' pins s4 σ H4 y z' u w' Q I4 r2 r4 q4))
theorem tK {op op':CmpOp} {r r':R2} (ho:OpR X (compareOp op) r) (ho':OpR X (compareOp op') r') (ha:PE X a ta) (hb:PE X b tb) (hc:PE X c tc)
   (hm:lastMarks [op,op'] [b,c]=false:=by with_unfolding_all rfl):PT X (.Compare a [op,op'] [b,c] pos) (wJ (o9 r r' ta tb tc)):=by
 intro pins s σ H Q I h
 refine isTrue_chain (thn (ha pins s σ H _ I h) λv s1 ⟨x,H1,I1,r1,q1⟩=>test_link (thn (hb pins s1 σ H1 _ I1 q1) λu s2 ⟨y,H2,I2,r2,q2⟩=>
   thn (ho pins s2 σ H2 x y v u _ I2 r1 r2 q2) λd s3 ⟨z,H3,I3,r3,k,e,q3⟩=>?_)) hm
 subst e
 cases r3
 refine wpAny_truthy_bool ?_
 cases k with
 | false=>
   obtain ⟨k',e',q'⟩:=q3
   cases e'
   exact ite_ff ⟨H3,I3,q'⟩
 | true=>
   refine ite_tt (test_last (thn (hc pins s3 σ H3 _ I3 q3) λw' s4 ⟨z',H4,I4,r4,q4⟩=>thn (ho' pins s4 σ H4 y z' u w' _ I4 r2 r4 q4) λd' s5 ⟨z2,H5,I5,r5,k2,e2,q5⟩=>?_))
   subst e2
   cases r5
   exact wpAny_truthy_bool ⟨H5,I5,q5⟩
theorem mX:(sizeLine:Nat) < 2 ^ 63:=by rw [sizeLine_eq]; decide
theorem vals1 {x:V} {us:List Value} (r:Vals [x] us):∃ u,us=[u]/\RelV x u:=by
 cases r with
 | cons r1 r2=>cases r2; exact ⟨_,rfl,r1⟩
theorem vals2 {x y:V} {us:List Value} (r:Vals [x,y] us):∃ u w',us=[u,w']/\RelV x u/\RelV y w':=by
 cases r with
 | cons r1 r2=>
   cases r2 with
   | cons r3 r4=>cases r4; exact ⟨_,_,rfl,r1,r3⟩
theorem sJ:cY X (.builtin "abs") (λxs H Q=>∃ i,xs=[.int i]/\Q (.int (if i < 0 then -i else i)) H):=by
 intro pins s σ H xs us Q I r h
 obtain ⟨i,rfl,q⟩:=h
 obtain ⟨u,rfl,t,rfl⟩:=vals1 r
 exact call_abs_int λu tk=>⟨.int (if i < 0 then -i else i),H,I.tok _,⟨_,rfl⟩,q⟩
theorem rg (hc:X.calm=true):cY X (.builtin "max") (λxs H Q=>∃ i j,xs=[.int i,.int j]/\Q (.int (if j > i then j else i)) H):=by
 intro pins s σ H xs us Q I r h
 obtain ⟨i,j,rfl,q⟩:=h
 obtain ⟨u,w',rfl,⟨t,rfl⟩,⟨t',rfl⟩⟩:=vals2 r
 refine max_two_ints (I.ok.hd hc) λh' tk k=>⟨_,H,I.kept k,?_,q⟩
 by_cases hj:j > i
 · rw [if_pos hj,if_pos hj]; exact ⟨_,rfl⟩
 · rw [if_neg hj,if_neg hj]; exact ⟨_,rfl⟩
theorem rY (hc:X.calm=true):cY X (.builtin "min") (λxs H Q=>∃ i j,xs=[.int i,.int j]/\Q (.int (if j < i then j else i)) H):=by
 intro pins s σ H xs us Q I r h
 obtain ⟨i,j,rfl,q⟩:=h
 obtain ⟨u,w',rfl,⟨t,rfl⟩,⟨t',rfl⟩⟩:=vals2 r
 refine min_two_ints (I.ok.hd hc) λh' tk k=>⟨_,H,I.kept k,?_,q⟩
 by_cases hj:j < i
 · rw [if_pos hj,if_pos hj]; exact ⟨_,rfl⟩
 · rw [if_neg hj,if_neg hj]; exact ⟨_,rfl⟩
theorem rQ:cY X (.type "int") (λxs H Q=>(∃ i,xs=[.int i]/\Q (.int i) H)\/∃ k,xs=[.bl k]/\Q (.int (if k then 1 else 0)) H):=by
 intro pins s σ H xs us Q I r h
 rcases h with ⟨i,rfl,q⟩ | ⟨k,rfl,q⟩
 · obtain ⟨u,rfl,t,rfl⟩:=vals1 r
   exact call_int_int ⟨.int i,H,I,⟨_,rfl⟩,q⟩
 · obtain ⟨u,rfl,r1⟩:=vals1 r
   cases r1
   exact call_int_bool ⟨.int (if k then 1 else 0),H,I.tok _,⟨_,rfl⟩,q⟩
end
section
variable {prog:Program} {w:World} {A:Around} {E:Value->Shared->Prop} {s:Shared} {K:PySem.W.Frag} {x dx C f:Addr} {mA:Str->Option Value} {name:Str} {v:Value}
end
section
variable {P:Program} {w:World} {H H':Hp} {h h':Heap} {a C dx:Addr} {fs fs':List (Str × V)}
end
section
variable {X:Cx} {pins:List (Addr × Obj)} {σ:St} {H:Hp} {s:Shared} {a C dx:Addr} {fs:List (Str × V)} {f:Str} {v:V} {A:Around} {E:Value->Shared->Prop}
end
section
variable {X:Cx} {o e value:Expr} {f:Str} {pos pos' tpos:Pos} {ta tv:TE}
end
section
variable {X:Cx} {pins:List (Addr × Obj)} {σ:St} {H:Hp} {s:Shared} {A:Around} {E:Value->Shared->Prop} {Q:Value->Shared->Prop} {c:Value} {b:Bool}
end
structure dM (k:Nat) (A:Around):Prop where
 hd:A.handled=none
 dp:A.depth + 3 * k + 5 < recursionLimit
 un:A.units + 16 * k + 200 < cLine
theorem dM.mono {j k:Nat} {A:Around} (r:dM k A) (h:j<=k):dM j A:=⟨r.hd,by have:=r.dp; omega,by have:=r.un; omega⟩
theorem dM.deeper {k:Nat} {A:Around} (r:dM (k + 1) A) (env:Env):dM k (A.deeper env):=
 ⟨r.hd,by have:=r.dp; show A.depth + 1 + 3 * k + 5 < _; omega,by have:=r.un; show A.units + 3 + 16 * k + 200 < _; omega⟩
theorem dM.depth {k:Nat} {A:Around} (r:dM k A):A.depth < recursionLimit:=by have:=r.dp; omega
theorem dM.units {k:Nat} {A:Around} (r:dM k A):A.units + 64 < cLine:=by have:=r.un; omega
noncomputable def A7:TA:=λ_ H Q=>Q [] H
noncomputable def Ad (ta:TE) (tr:TA):TA:=λσ H Q=>ta σ H λx H1=>tr σ H1 λxs H2=>Q (x :: xs) H2
section
variable {X:Cx} {e:Expr} {es:List Expr} {te:TE} {t:TA} {pos:Pos}
theorem dQ:PA X [] A7:=λ_ _ _ _ H Q I h=>Calls.spliced_nil ⟨[],H,I,.nil,h⟩
theorem bA (ha:PE X e te) (hr:PA X es t) (hs:starEach (e :: es) X.env=(false,eval e X.env) :: starEach es X.env:=by rfl):PA X (e :: es) (Ad te t):=by
 intro pos pins s σ H Q I h
 rw [hs]
 show wpAny _ _ (spliced ((false,eval e X.env) :: backTo pos (starEach es X.env))) _ _ s
 refine Calls.spliced_cons (thn (ha pins s σ H _ I h) λu s1 ⟨x,H1,I1,r1,q1⟩=>?_)
 exact thn (hr pos pins s1 σ H1 _ I1 q1) λus s2 ⟨xs,H2,I2,r2,q2⟩=>⟨x :: xs,H2,I2,.cons r1 r2,q2⟩
noncomputable def Bf (t:TA):TE:=λσ H Q=>t σ H λxs H1=>xs.length<=sizeLine/\∀ p,H1 p=none->Q (.ref p) (upd H1 p (.tup xs))
noncomputable def Bi (t:TA):TE:=λσ H Q=>t σ H λxs H1=>xs.length<=sizeLine/\∀ p,H1 p=none->Q (.ref p) (upd H1 p (.lst xs))
theorem uz {x1} (h:PA X es t):PE X (.Tuple es x1 pos) (Bf t):=by
 intro pins s σ H Q I hq
 refine wpAny_Tuple_spliced (thn (h pos pins s σ H _ I hq) λus s1 ⟨xs,H1,I1,r,z,q⟩=>⟨by rw [<- r.length]; exact z,?_⟩)
 have hf:H1 s1.heap.objs.size=none:=I1.hok.fresh (Nat.le_refl _)
 refine ⟨.ref s1.heap.objs.size,upd H1 s1.heap.objs.size (.tup xs),I1.laid (t':=s1.toks) (λb u e=>Heap.get?_push_of_some _ e) (Nat.le_refl _) ?_,rfl,q _ hf⟩
 exact ⟨z,us,r,⟨_,Heap.get?_push_size _ rfl,rfl,_,rfl⟩⟩
theorem xI (h:PA X es t):PE X (.List es pos) (Bi t):=by
 intro pins s σ H Q I hq
 refine wpAny_List_spliced (thn (h pos pins s σ H _ I hq) λus s1 ⟨xs,H1,I1,r,z,q⟩=>⟨by rw [<- r.length]; exact z,?_⟩)
 have hf:H1 s1.heap.objs.size=none:=I1.hok.fresh (Nat.le_refl _)
 refine ⟨.ref s1.heap.objs.size,upd H1 s1.heap.objs.size (.lst xs),I1.laid (t':=s1.toks) (λb u e=>Heap.get?_push_of_some _ e) (Nat.le_refl _) ?_,rfl,q _ hf⟩
 exact ⟨z,us,0,r,Heap.get?_push_size _ rfl⟩
end
noncomputable abbrev Sp:=List V->Hp->VK->XK->Prop
noncomputable abbrev CXT:=List Env->Hp->Shared->XK->Value->Shared->Prop
structure sI (P:Program) (w:World) (K:PySem.W.Frag) (mg:Str->Option Value) (base:Heap) (A:Around) (outer:List Env) (s:Shared) (H:Hp):Prop where
 frames:A.frames=some outer
 mod:Mod K mg base
 bs:∀ b o,base.get? b=some o->s.heap.get? b=some o/\H b=none
 bsz:base.objs.size<=s.heap.objs.size
 iO:s.heap.FunFrames base outer
 frf:∀ b ∈ frs outer,H b=none
 hok:HOk P w H s.heap
 bare:AllBare s.gens
noncomputable def CE (outer:List Env) (P:Program) (w:World) (H:Hp) (s:Shared) (Q:VK) (u:Value) (s':Shared):Prop:=
 ∃ v H',s'.os=s.os/\AllBare s'.gens/\Un (frs outer) [] H H' s.heap s'.heap/\HOk P w H' s'.heap/\RelV v u/\Q v H'
noncomputable def CR (CX:CXT) (outer:List Env) (P:Program) (w:World) (H:Hp) (s:Shared) (Q:VK) (E:XK) (r:Result) (s':Shared):Prop:=
 match r with
 | .ok (.ret u)=>CE outer P w H s Q u s'
 | .ok _=>False
 | .error e=>CX outer H s E e s'
structure aJ (P:Program) (w:World) (K:PySem.W.Frag) (mg:Str->Option Value) (base:Heap) (CX:CXT) (k:Nat) (f:Addr) (fd:FuncData) (ps:List Str) (sp:Sp):Prop where
 len:∀ vs H Q E,sp vs H Q E->vs.length=ps.length
 run:∀ (A:Around) (outer:List Env) (s:Shared) (H:Hp) (args:Args) (us:List Value) (vs:List V) (Q:VK) (E:XK),dM k A->sI P w K mg base A outer s H->BindsTo s fd args (ps.zip us)->Vals vs us->sp vs H Q E ->
   codeAny (model P w) A (.call (.ref f) args) (CR CX outer P w H s Q E) s
theorem aJ.mono {P:Program} {w:World} {K:PySem.W.Frag} {mg:Str->Option Value} {base:Heap} {CX:CXT} {j k:Nat} {f:Addr} {fd:FuncData} {ps:List Str} {sp:Sp} (F:aJ P w K mg base CX j f fd ps sp) (h:j<=k) :
   aJ P w K mg base CX k f fd ps sp:=⟨F.len,λA outer s H args us vs Q E hr=>F.run A outer s H args us vs Q E (hr.mono h)⟩
section
variable {X:Cx} {pins:List (Addr × Obj)} {σ:St} {H:Hp} {s s':Shared}
theorem Inv.Ae (I:Inv X pins σ H s):sI X.prog X.w X.K X.mg X.base X.A X.stack s H:=
 ⟨I.ok.frames,I.ok.mod,I.bs,Nat.le_trans I.ok.bsz I.sz,I.stack,I.gX,I.hok,I.bare⟩
theorem Inv.after {Q:VK} {u:Value} (I:Inv X pins σ H s) (h:CE X.stack X.prog X.w H s Q u s'):EP X pins σ Q u s':=by
 obtain ⟨v,H',os,bare,un,hok,r,q⟩:=h
 obtain ⟨hh,g,d,t,os'⟩:=s'
 obtain rfl:os'=s.os:=os
 exact ⟨v,H',I.call (h':=hh) (g':=g) (d':=d) (t':=t) (ch:=[]) un hok bare (λb z=>absurd z (by simp)),r,q⟩
end
noncomputable def zx (sp:Sp) (dvs:List V) (E:XK) (t:TA):TE:=λσ H Q=>t σ H λvs H1=>sp (vs++dvs) H1 Q E
noncomputable def Binds (K:PySem.W.Frag) (fd:FuncData) (ps:List Str) (ds:List Value):Prop:=
 ∀ (s:Shared) (us:List Value),K.In s.heap->(us++ds).length=ps.length->BindsTo s fd ⟨us,[]⟩ (ps.zip (us++ds))
theorem Binds.all {K:PySem.W.Frag} {fd:FuncData} {ps:List Str} (h:∀ us:List Value,us.length=ps.length->bindArgs fd ⟨us,[]⟩=pure (ps.zip us)):Binds K fd ps []:=λs us _ hl=>by
 rw [List.append_nil] at hl ⊢
 exact .of_eq (h us hl)
noncomputable def Passes (CX:CXT) (X:Cx) (E:XK):Prop:=∀ (pins:List (Addr × Obj)) (σ:St) (H:Hp) (s:Shared) (e:Value) (s':Shared),Inv X pins σ H s->CX X.stack H s E e s'->X.xe e s'
section
variable {X:Cx} {CX:CXT} {k:Nat} {f C:Addr} {fd:FuncData} {ps:List Str} {sp:Sp} {dvs:List V} {ds:List Value} {E:XK} {x m:Str} {p pos apos:Pos} {e o:Expr} {es:List Expr} {ta:TE} {t:TA}
theorem yS {pins:List (Addr × Obj)} {σ:St} {H:Hp} {s:Shared} {Q:VK} {us:List Value} {vs:List V} (F:aJ X.prog X.w X.K X.mg X.base CX k f fd ps sp) (hr:dM k X.A) (hb:Binds X.K fd ps ds) (hd:Vals dvs ds) (hx:Passes CX X E)
   (I:Inv X pins σ H s) (r:Vals vs us) (h:sp (vs++dvs) H Q E):wpAny (model X.prog X.w) X.A (call (.ref f) us) (EP X pins σ Q) X.xe s:=by
 have r2:Vals (vs++dvs) (us++ds):=r.append hd
 have hl:(us++ds).length=ps.length:=by rw [<- r2.length]; exact F.len _ _ _ _ h
 refine wpAny_call (codeAny_mono (F.run X.A X.stack s H ⟨us,[]⟩ (us++ds) (vs++dvs) Q E hr I.Ae (hb s us I.kIn hl) r2 h) λr s' hq=>?_)
 cases r with
 | error e=>exact hx pins σ H s e s' I hq
 | ok fl=>
   cases fl with
   | ret u=>exact I.after hq
   | next=>exact False.elim hq
   | brk=>exact False.elim hq
   | cont=>exact False.elim hq
theorem lL (F:aJ X.prog X.w X.K X.mg X.base CX k f fd ps sp) (hr:dM k X.A) (hg:Gl X x) (hm:X.mg x=some (.ref f)) (hk:PySem.W.keepIn X.K (.ref f)=true) (hb:Binds X.K fd ps ds) (hd:Vals dvs ds) (hx:Passes CX X E)
   (ha:PA X (e :: es) t) (hdb:(x == ("__debug__" : Str))=false:=by decide) (he:starEach (e :: es) X.env=(false,eval e X.env) :: starEach es X.env:=by rfl) (hpl:(backTo pos (starEach es X.env)).any (·.1)=false:=by rfl) :
   PE X (.Call (.Name x p) (e :: es) [] pos) (zx sp dvs E t):=by
 intro pins s σ H Q I h
 refine wpAny_Call_Name_kw (gJ I hg hm ?_ hdb)
 refine PySem.W.callWith_K (h₀:=X.base) I.ok.mod.kin hk (thn (ha pos pins s σ H _ I h) λus s1 ⟨vs,H1,I1,r,q⟩=>⟨I1.kIn,?_⟩) he hpl
 exact yS F hr hb hd hx I1 r q
end
section
variable {X:Cx} {CX:CXT} {k:Nat} {f C:Addr} {fd:FuncData} {ps ks:List Str} {sp:Sp} {E:XK} {x m:Str} {p pos apos kpos:Pos} {e o:Expr} {es:List Expr} {kws:List Keyword} {te ta:TE} {t tk:TA} {nm:Option Str}
variable {g:List Value->List Value->List Value} {gV:List V->List V->List V}
end
structure ao (N P:List Str) (sc:Scope):Prop where
 kind:sc.kind=.function
 co:sc.isCoroutine=false
 gen:sc.isGenerator=false
 nd:N.Nodup
 pre:N.take P.length=P
 par:∀ x ∈ P,sc.names.lookup x=some .local\/sc.names.lookup x=some .cell
 nofree:∀ y ∈ sc.names,y.2 ≠ .free
theorem kG {kindOf:Str->Option NameKind} {x:Str}:∀ {binds:List (Str × Value)} {m:Str->Option Value},(∀ v,(x,v) ∉ binds)->bindL kindOf binds m x=m x
 | [],_,_=>rfl
 | (n,v) :: r,m,h=>by
   unfold bindL
   rw [kG λw hw=>h w (List.mem_cons_of_mem _ hw)]
   split
   · have:x ≠ n:=by rintro rfl; exact h v List.mem_cons_self
     simp [this]
   · rfl
theorem kM {kindOf:Str->Option NameKind} {x:Str}:∀ {binds:List (Str × Value)} {m:Str->Option Value},(∀ v,(x,v) ∉ binds)->bindC kindOf binds m x=m x
 | [],_,_=>rfl
 | (n,v) :: r,m,h=>by
   unfold bindC
   rw [kM λw hw=>h w (List.mem_cons_of_mem _ hw)]
   split
   · rfl
   · have:x ≠ n:=by rintro rfl; exact h v List.mem_cons_self
     simp [this]
theorem kN {kindOf:Str->Option NameKind} {x:Str} {v:Value}:∀ {P:List Str} {vs:List Value} {i:Nat} {m:Str->Option Value},P.Nodup->P[i]?=some x->vs[i]?=some v->kindOf x=some .local ->
   bindL kindOf (P.zip vs) m x=some v
 | [],_,_,_,_,h,_,_=>by simp at h
 | _ :: _,[],_,_,_,_,h,_=>by simp at h
 | p :: P,w :: vs,0,m,nd,h1,h2,hk=>by
   simp at h1 h2; subst h1; subst h2
   show bindL kindOf ((p,w) :: P.zip vs) m p=_
   unfold bindL
   rw [kG λv hv=>(List.nodup_cons.mp nd).1 (List.of_mem_zip hv).1,if_pos hk]
   simp
 | p :: P,w :: vs,i + 1,m,nd,h1,h2,hk=>by
   show bindL kindOf ((p,w) :: P.zip vs) m x=_
   unfold bindL
   exact kN (i:=i) (List.nodup_cons.mp nd).2 (by simpa using h1) (by simpa using h2) hk
theorem kH {kindOf:Str->Option NameKind} {x:Str} {v:Value}:∀ {P:List Str} {vs:List Value} {i:Nat} {m:Str->Option Value},P.Nodup->P[i]?=some x->vs[i]?=some v->kindOf x ≠ some .local ->
   bindC kindOf (P.zip vs) m x=some v
 | [],_,_,_,_,h,_,_=>by simp at h
 | _ :: _,[],_,_,_,_,h,_=>by simp at h
 | p :: P,w :: vs,0,m,nd,h1,h2,hk=>by
   simp at h1 h2; subst h1; subst h2
   show bindC kindOf ((p,w) :: P.zip vs) m p=_
   unfold bindC
   rw [kM λv hv=>(List.nodup_cons.mp nd).1 (List.of_mem_zip hv).1,if_neg hk]
   simp
 | p :: P,w :: vs,i + 1,m,nd,h1,h2,hk=>by
   show bindC kindOf ((p,w) :: P.zip vs) m x=_
   unfold bindC
   exact kH (i:=i) (List.nodup_cons.mp nd).2 (by simpa using h1) (by simpa using h2) hk
noncomputable def start (N:List Str) (vs:List V):St:=vs.map some++List.replicate (N.length - vs.length) none
noncomputable def jx (CX:CXT) (P:Program) (w:World) (K:PySem.W.Frag) (mg:Str->Option Value) (base:Heap) (N:List Str) (qual:Str) (scope:Scope) (f:Addr) (cd:Value) (A:Around) (outer:List Env) (s:Shared) (H:Hp) (E:XK):Cx where
 prog:=P
 w:=w
 K:=K
 mg:=mg
 base:=base
 A:=A.deeper (envOfC qual scope s.heap.objs.size f cd)
 N:=N
 s₀:=s
 H₀:=H
 env:=envOfC qual scope s.heap.objs.size f cd
 outer:=outer
 stack:=envOfC qual scope s.heap.objs.size f cd :: outer
 ex:=[]
 calm:=true
 fn:=λ_=>true
 pn:=[]
 xe:=λe s'=>wpAny (model P w) (A.deeper (envOfC qual scope s.heap.objs.size f cd)) (leaving (envOfC qual scope s.heap.objs.size f cd) e) (λ_ s''=>CX outer H s E e s'') (λe' s''=>CX outer H s E e' s'') s'
theorem nE {sc:Scope} {n:Nat} {x:Str} (h:sc.names.lookup x=some .cell):∃ c,(cellsFrom n sc.names []).lookup x=some c:=by
 have q:=PySem.W.cellsFrom_some sc.names n [] (.inl h)
 exact Option.isSome_iff_exists.mp q
theorem kZ {CX:CXT} {P:Program} {w:World} {K:PySem.W.Frag} {mg:Str->Option Value} {base:Heap} {N ps:List Str} {qual:Str} {scope:Scope} {f:Addr} {cd:Value} {A:Around} {outer:List Env} {s s1:Shared} {H:Hp} {E:XK} {us:List Value} {vs:List V}
   (S:ao N ps scope) {cm:Bool} (hd:cm=true->A.handled=none) (e0:sI P w K mg base A outer s H) (hl:vs.length=ps.length) (r:Vals vs us)
   (x:InCallC s s.heap.objs.size (bindL (envOfC qual scope s.heap.objs.size f cd).kindOf (ps.zip us) λ_=>none) (cellsFrom (s.heap.objs.size + 1) scope.names []) (bindC (envOfC qual scope s.heap.objs.size f cd).kindOf (ps.zip us) λ_=>none) s1) :
   Inv { jx CX P w K mg base N qual scope f cd A outer s H E with calm:=cm } [] (start N vs) H s1:=by
 have hpl:ps.length<=N.length:=by have:=congrArg List.length S.pre; rw [List.length_take] at this; omega
 obtain ⟨h1,tk,rfl,hk⟩:=x.done
 have noA:∀ b:Addr,b ∉ (jx CX P w K mg base N qual scope f cd A outer s H E).ex:=λb z=>absurd (show b ∈ ([]:List Addr) from z) (by simp)
 refine ⟨⟨e0.mod,S.kind,rfl,rfl,Nat.le_refl _,λy z c h1 h2=>?_,λy hy=>?_,λy c _ h=>?_,hd,Around.frames_deeper e0.frames,.inr ⟨rfl,rfl⟩,λb z=>absurd z (noA b),e0.bs,e0.bsz,λb _ _=>noA b,λb z=>absurd z (noA b),e0.iO,e0.frf⟩,
   rfl,e0.bare,Un.kept hk,⟨_,x.toInCall.ns,λi y v h1 h2 h3=>?_⟩,λy c h=>⟨_,x.cell y c h⟩,e0.hok.fresh (Nat.le_refl _),λy c h=>?_,λp hp=>absurd (show p ∈ ([]:List (Addr × Obj)) from hp) (by simp),e0.hok.kept hk,?_⟩
 · exact name_of_addr x.apart (PySem.mem_of_lookup h1) (PySem.mem_of_lookup h2)
 · have hy:scope.names.lookup y=some .cell\/scope.names.lookup y=some .free:=hy
   rcases hy with hy | hy
   · exact nE hy
   · exact absurd rfl (S.nofree _ (PySem.mem_of_lookup hy))
 · exact Nat.le_of_lt (x.above y c (PySem.mem_of_lookup h))
 · have hi:i < vs.length:=by
     unfold start at h2
     by_cases hi:i < vs.length
     · exact hi
     · rw [List.getElem?_append_right (by simpa using hi)] at h2
       rw [List.getElem?_replicate] at h2
       split at h2 <;> cases h2
   have ha:vs[i]?=some v:=by
     unfold start at h2
     rw [List.getElem?_append_left (by simpa using hi),List.getElem?_map] at h2
     cases e:vs[i]? with
     | none=>rw [e] at h2; cases h2
     | some a=>rw [e] at h2; cases h2; rfl
   obtain ⟨u,hu,rv⟩:=r.get ha
   have hp:ps[i]?=some y:=by
     rw [<- S.pre,List.getElem?_take_of_lt (by omega)]; exact h1
   have ndP:ps.Nodup:=by rw [<- S.pre]; exact S.nd.sublist (List.take_sublist _ _)
   refine ⟨u,rv,?_⟩
   rcases S.par y (List.mem_of_getElem? hp) with k | k
   · exact .inl ⟨k,kN ndP hp hu k⟩
   · obtain ⟨c,e⟩:=nE (n:=s.heap.objs.size + 1) k
     refine .inr ⟨.inl k,c,e,?_⟩
     have q:=x.cell y c e
     rw [kH ndP hp hu (by show scope.names.lookup y ≠ _; rw [k]; decide)] at q
     exact q
 · exact e0.hok.fresh (Nat.le_of_lt (x.above y c (PySem.mem_of_lookup h)))
 · unfold start
   show _=N.length
   rw [List.length_append,List.length_map,List.length_replicate]
   omega
theorem wo {CX:CXT} {P:Program} {w:World} {K:PySem.W.Frag} {mg:Str->Option Value} {base:Heap} {k:Nat} {f:Addr} {name qual:Str} {params:Arguments} {body:List Stmt} {scope:Scope} {dV kV doc pm cdv ct oc:Value} {an od:Option Addr}
   {osl:Array (Option Value)} {N ps:List Str} {sp:Sp} (lk:K.lookup f=some ⟨oc,od,.func (PySem.W.fnOf name qual params body scope dV kV doc pm an cdv ct),osl⟩) (hcd:PySem.W.codeIn K cdv qual=true) (S:ao N ps scope)
   (len:∀ vs H Q E,sp vs H Q E->vs.length=ps.length)
   (hbody:∀ (A:Around) (outer:List Env) (s:Shared) (H:Hp) (vs:List V) (Q:VK) (E:XK),dM k (A.deeper (envOfC qual scope s.heap.objs.size f cdv))->sp vs H Q E ->
     ∃ t,PSs (jx CX P w K mg base N qual scope f cdv A outer s H E) body t/\t { nx:=λ_ H'=>Q .non H',rt:=Q } (start N vs) H) :
   aJ P w K mg base CX (k + 1) f (PySem.W.fnOf name qual params body scope dV kV doc pm an cdv ct) ps sp:=by
 refine ⟨len,λA outer s H args us vs Q E hr e0 hb r hsp=>?_⟩
 have hl:=len _ _ _ _ hsp
 have KX:K.In s.heap:=e0.mod.kin.keeps λb o e=>(e0.bs b o e).1
 have lim:s.heap.NoLimit:=e0.mod.nolimit.keeps λb o e=>(e0.bs b o e).1
 have hkind:∀ y ∈ ps.zip us,scope.names.lookup y.1=some .local\/(scope.names.lookup y.1=some .cell/\((cellsFrom (s.heap.objs.size + 1) scope.names []).lookup y.1).isSome=true):=λ⟨n,v⟩ hy=>by
   rcases S.par n (List.of_mem_zip hy).1 with q | q
   · exact .inl q
   · exact .inr ⟨q,PySem.W.cellsFrom_some _ _ _ (.inl q)⟩
 refine codeAny_call_function hr.depth (KX _ _ lk) rfl S.co S.gen rfl (PySem.W.codeRec_of KX hcd) (hb _ _ _ _ ?_)
 refine wpAny_newFunctionEnv_cells S.kind hkind λenv he s1 x=>?_
 subst he
 refine ⟨lim.keeps x.toInCall.keep,codeAny_func ?_⟩
 obtain ⟨t,ht,hq⟩:=hbody A outer s H vs Q E (hr.deeper _) hsp
 have I:Inv (jx CX P w K mg base N qual scope f cdv A outer s H E) [] (start N vs) H s1:=kZ (cm:=true) S (λ_=>hr.hd) e0 hl r x
 refine wpAny_mono (ht [] s1 (start N vs) H _ I hq) (λfl s' hs=>?_) λe s' hs=>hs
 have fin:∀ {σ':St} {H':Hp} {v:V} {u:Value},Inv (jx CX P w K mg base N qual scope f cdv A outer s H E) [] σ' H' s'->RelV v u->Q v H'->CE outer P w H s Q u s':=
   λ{σ' H' v u} J rv q=>⟨v,H',J.os,J.bare,J.base,J.hok,rv,q⟩
 cases fl with
 | ret u=>
   obtain ⟨v,σ',H',J,rv,q⟩:=hs
   exact fin J rv q
 | next=>
   obtain ⟨σ',H',J,q⟩:=hs
   exact fin (v:=V.non) (u:=Value.none) J rfl q
 | brk=>
   obtain ⟨_,_,_,q⟩:=hs
   exact False.elim q
 | cont=>
   obtain ⟨_,_,_,q⟩:=hs
   exact False.elim q
section
variable {X:Cx} {x:Str} {p pos:Pos} {e:Expr} {es:List Expr} {t:TA} {id T:String} {r:List V->Hp->VK->Prop}
noncomputable def tCB (r:List V->Hp->VK->Prop) (t:TA):TE:=λσ H Q=>t σ H λvs H1=>r vs H1 Q
theorem fM (hc:cY X (.builtin id) r) (hg:Gl X x) (hm:X.mg x=none) (hv:bootBuiltins x=some (.builtin id)) (ha:PA X (e :: es) t) (hn:x ≠ "__name__":=by decide) (hdb:(x == ("__debug__" : Str))=false:=by decide)
   (he:starEach (e :: es) X.env=(false,eval e X.env) :: starEach es X.env:=by rfl) (hpl:(backTo pos (starEach es X.env)).any (·.1)=false:=by rfl):PE X (.Call (.Name x p) (e :: es) [] pos) (tCB r t):=by
 intro pins s σ H Q I h
 refine wpAny_Call_Name_kw (gC I hg hm hv ?_ hn hdb)
 exact PyProof.Rows.callWith_builtin1 (thn (ha pos pins s σ H _ I h) λus s1 ⟨vs,H1,I1,r1,q1⟩=>hc pins s1 σ H1 vs us Q I1 r1 q1) he hpl
theorem rK (hc:cY X (.type T) r) (hg:Gl X x) (hm:X.mg x=none) (hv:bootBuiltins x=some (.type T)) (ha:PA X (e :: es) t) (hn:x ≠ "__name__":=by decide) (hdb:(x == ("__debug__" : Str))=false:=by decide)
   (he:starEach (e :: es) X.env=(false,eval e X.env) :: starEach es X.env:=by rfl) (hpl:(backTo pos (starEach es X.env)).any (·.1)=false:=by rfl):PE X (.Call (.Name x p) (e :: es) [] pos) (tCB r t):=by
 intro pins s σ H Q I h
 refine wpAny_Call_Name_kw (gC I hg hm hv ?_ hn hdb)
 exact PyProof.Rows.callWith_type1 (thn (ha pos pins s σ H _ I h) λus s1 ⟨vs,H1,I1,r1,q1⟩=>hc pins s1 σ H1 vs us Q I1 r1 q1) he hpl
end
end L2
namespace HT
open PySem PyProof.Rows
section
open PySem.SeqAt
open PySem.AutoSeq1 (wpAny_loadPart')
open PySem.MeetsSeq PySem.MeetsSeq2 PySem.MeetsSeq3
end
section
variable {prog:Program} {w:World} {A:Around} {E:Value->Shared->Prop} {s:Shared}
theorem vg {t b:Addr} {vs ws:List Value} {Q:Value->Shared->Prop} (ht:IsTup s.heap t vs.toArray) (hb:IsTup s.heap b ws.toArray) (hv:vs ≠ [])
   (h1:ws=[]->Q (.ref t) s) (h2:ws ≠ []->Q (.ref s.heap.objs.size) { s with heap:=s.heap.push { cls:=.type "tuple",data:=.seq (vs++ws).toArray } })
   (hsz:vs.length + ws.length<=sizeLine):wpAny (model prog w) A (binaryOp .Add (.ref t) (.ref b)) Q E s:=by
 obtain ⟨⟨cls,dd,data,sl⟩,ho,hc,n,hd⟩:=id ht
 obtain ⟨⟨cls2,dd2,data2,sl2⟩,ho2,hc2,n2,hd2⟩:=id hb
 simp only at hc hd hc2 hd2
 subst hc hd hc2 hd2
 have e:vs.toArray++ws.toArray=(vs++ws).toArray:=by simp
 by_cases hw:ws=[]
 · exact concat_meets ⟨_,ho,rfl⟩ ⟨_,ho2,rfl⟩ noFill_tuple_add seq_tuple_add PySem.F.slot_tuple_add PySem.F.entry_tuple_add (PySem.F.args_tuple_add_2 _ _)
     (tuple_addW1 t b vs.toArray ws.toArray n n2 dd dd2 sl sl2 (by simpa using hv) (by simp [hw])) ⟨ho,ho2,h1 hw⟩
 · refine concat_meets ⟨_,ho,rfl⟩ ⟨_,ho2,rfl⟩ noFill_tuple_add seq_tuple_add PySem.F.slot_tuple_add PySem.F.entry_tuple_add (PySem.F.args_tuple_add_2 _ _)
     (tuple_addW2 t b vs.toArray ws.toArray n n2 dd dd2 sl sl2 (by simpa using hv) (by simpa using hw) (by rw [List.size_toArray,List.size_toArray]; exact hsz)) ⟨ho,ho2,?_⟩
   rw [e]
   exact h2 hw
noncomputable def sIx (n d:Nat):Option Int->Nat
 | none=>d
 | some v=>if v < 0 then (v + (n:Int)).toNat else min v.toNat n
theorem jk (n d:Nat):sIx n d none=d:=rfl
theorem fW (n d k:Nat):sIx n d (some (k:Int))=min k n:=by
 show (if (k:Int) < 0 then ((k:Int) + (n:Int)).toNat else min (k:Int).toNat n)=min k n
 rw [if_neg (by omega),Int.toNat_natCast]
theorem xP (n d:Nat) (hd:d<=n) (o:Option Int):sIx n d o<=n:=by
 cases o with
 | none=>exact hd
 | some v=>
   show (if v < 0 then (v + (n:Int)).toNat else min v.toNat n)<=n
   by_cases hv:v < 0
   · rw [if_pos hv]; omega
   · rw [if_neg hv]; exact Nat.min_le_right _ _
theorem qG (v:Int) (n d:Nat):(if v < 0 then max (v + (n:Int)) 0 else min v (n:Int))=((sIx n d (some v):Nat):Int):=by
 show (if v < 0 then max (v + (n:Int)) 0 else min v (n:Int))=(((if v < 0 then (v + (n:Int)).toNat else min v.toNat n):Nat):Int)
 by_cases hv:v < 0
 · simp only [if_pos hv]; omega
 · simp only [if_neg hv]; omega
theorem pw (lo hi:Option Int) (n:Nat):Builtin.Slice.sliceAdjust lo hi 1 (n:Int)=(((sIx n 0 lo:Nat):Int),((sIx n n hi:Nat):Int)):=by
 have h1:¬ ((1:Int) < 0):=by omega
 unfold Builtin.Slice.sliceAdjust
 simp only [h1,if_false]
 refine Prod.ext ?_ ?_
 · cases lo with
   | none=>rfl
   | some v=>exact qG v n 0
 · cases hi with
   | none=>rfl
   | some v=>exact qG v n n
theorem pP (i j:Nat):Builtin.Slice.slicePlaces (i:Int) (j:Int) 1=j - i:=by
 unfold Builtin.Slice.slicePlaces
 have h1:(1:Int) > 0:=by omega
 simp only [h1,if_true,Int.ediv_one]
 split <;> omega
theorem j0 {v:Value} {o:Option Int} {Q:Option Int->Shared->Prop} (p:IsPart v o) (h:Q o s):wpAny (model prog w) A (Builtin.Slice.slicePartIndex v) Q E s:=by
 cases p with
 | none=>exact slicePart_none h
 | int i t=>exact slicePart_int h
theorem iu {sl:Addr} {vl vu:Value} {lo hi:Option Int} {n:Nat} {Q:Int × Int × Nat->Shared->Prop} (hs:s.heap.IsSliceOf sl vl vu .none) (pl:IsPart vl lo) (pu:IsPart vu hi)
   (h:Q (((sIx n 0 lo:Nat):Int),1,sIx n n hi - sIx n 0 lo) s):wpAny (model prog w) A (Builtin.Slice.sliceApplied (.ref sl) (pure (n:Int))) Q E s:=by
 obtain ⟨os,hos,hcs,hds⟩:=id hs
 unfold Builtin.Slice.sliceApplied Builtin.Slice.sliceFields
 refine wpAny_bind (wpAny_bind (wpAny_field hos hds (x:=vl) rfl (wpAny_bind (wpAny_field hos hds (x:=vu) rfl (wpAny_bind (wpAny_field hos hds (x:=.none) rfl (wpAny_pure ?_)))))))
 refine wpAny_bind (slicePart_none ?_)
 show wpAny _ _ (if ((1:Int) == 0)=true then _ else _) _ _ s
 rw [if_neg (by decide)]
 refine wpAny_bind (j0 pl (wpAny_bind (j0 pu (wpAny_bind (wpAny_pure ?_)))))
 show wpAny _ _ (match Builtin.Slice.sliceAdjust lo hi 1 (n:Int) with | (lo,hi)=>pure (lo,(1:Int),Builtin.Slice.slicePlaces lo hi 1)) _ _ s
 rw [pw lo hi n]
 show wpAny _ _ (pure (((sIx n 0 lo:Nat):Int),(1:Int),Builtin.Slice.slicePlaces ((sIx n 0 lo:Nat):Int) ((sIx n n hi:Nat):Int) 1)) _ _ s
 rw [pP]
 exact wpAny_pure h
theorem tQ (xs:Array Value) (i k:Nat):((List.range k).filterMap λ(m:Nat)=>xs[((i:Int) + (m:Int) * 1).toNat]?).toArray=((xs.toList.drop i).take k).toArray:=by
 have e:(λ(m:Nat)=>xs[((i:Int) + (m:Int) * 1).toNat]?)=λm=>xs[i + m]?:=by
   funext m
   have:((i:Int) + (m:Int) * 1).toNat=i + m:=by omega
   rw [this]
 rw [e]
 have:=pick_run xs i k
 rw [List.filterMap_map] at this
 have e2:((λx=>xs[x]?) ∘ λx=>i + x)=λm=>xs[i + m]?:=rfl
 rw [e2] at this
 rw [this]
theorem ij {t sl:Addr} {items:Array Value} {vl vu:Value} {lo hi:Option Int} {Q:Value->Shared->Prop} (ht:IsTup s.heap t items) (hs:s.heap.IsSliceOf sl vl vu .none) (pl:IsPart vl lo) (pu:IsPart vu hi)
   (hw:¬ (sIx items.size 0 lo=0/\sIx items.size items.size hi=items.size))
   (h:Q (.ref s.heap.objs.size) { s with heap:=s.heap.push { cls:=.type "tuple",data:=.seq ((items.toList.drop (sIx items.size 0 lo)).take (sIx items.size items.size hi - sIx items.size 0 lo)).toArray } })
   (hsz:items.size<=sizeLine):wpAny (model prog w) A (getItem (.ref t) (.ref sl)) Q E s:=by
 have htake:sizeOk (.seq ((items.toList.drop (sIx items.size 0 lo)).take (sIx items.size items.size hi - sIx items.size 0 lo)).toArray):=by
   show ((items.toList.drop (sIx items.size 0 lo)).take (sIx items.size items.size hi - sIx items.size 0 lo)).toArray.size<=sizeLine
   rw [List.size_toArray,List.length_take,List.length_drop,Array.length_toList]
   omega
 have hj:sIx items.size items.size hi<=items.size:=xP _ _ (Nat.le_refl _) hi
 obtain ⟨os,hos,hcs,hds⟩:=id hs
 have hTs:s.TypeIs (.ref sl) "slice":=⟨os,hos,hcs⟩
 unfold getItem
 try with_reducible refine wpAny_holding ?_
 first | refine wpAny_bind (wpAny_pure ?_) | skip
 refine wpAny_bind (wpAny_sequenceKey ht.typeIs (by decide) ?_)
 refine wpAny_bind (wpAny_callSpecial?_slot (name:=Str.ofString "__getitem__") ht.typeIs PyProof.Rows.slot_tuple_getitem
   (wpAny_call_entry PyProof.Rows.slot_tuple_getitem ht.typeIs entry_tuple_getitem ?_ (args_tuple_getitem _ _)))
 show wpAny _ _ (Builtin.Tuple.tupleItemsOf (.ref t) >>= _) _ _ s
 refine wpAny_bind (tupleItemsOf_ ht ?_)
 refine wpAny_bind (wpAny_typeOf hTs ?_)
 rw [if_pos (by decide)]
 refine wpAny_bind (iu hs pl pu ?_)
 have hno:¬ ((((sIx items.size 0 lo:Nat):Int) == 0 && (1:Int) == 1 && (sIx items.size items.size hi - sIx items.size 0 lo) == items.size)=true):=by
   intro q
   rw [Bool.and_eq_true,Bool.and_eq_true] at q
   have q1:((sIx items.size 0 lo:Nat):Int)=0:=eq_of_beq q.1.1
   have q2:sIx items.size items.size hi - sIx items.size 0 lo=items.size:=eq_of_beq q.2
   exact hw ⟨by omega,by omega⟩
 show wpAny _ _ (if (((sIx items.size 0 lo:Nat):Int) == 0 && (1:Int) == 1 && (sIx items.size items.size hi - sIx items.size 0 lo) == items.size)=true then _ else _) _ _ s
 rw [if_neg hno,tQ]
 first
   | exact wpAny_bind (m:=Builtin.Tuple.tupleExact _) (wpAny_newObj_type (wpAny_pure ⟨_,rfl,wpAny_pure h⟩) htake)
   | exact wpAny_bind (m:=Builtin.Tuple.tupleExact _) (wpAny_newObj_type (wpAny_bind (wpAny_pure (wpAny_pure ⟨_,rfl,wpAny_pure h⟩))) htake)
   | exact wpAny_bind (wpAny_bind (m:=Builtin.Tuple.tupleExact _) (wpAny_newObj_type (wpAny_pure (wpAny_pure ⟨_,rfl,wpAny_pure h⟩)) htake))
   | exact wpAny_bind (wpAny_bind (m:=Builtin.Tuple.tupleExact _) (wpAny_newObj_type (wpAny_pure ⟨_,rfl,wpAny_pure h⟩) htake))
end
end HT
namespace L2
open PySem PySem.Spec PyProof.Rows
noncomputable abbrev TO:=St->Hp->(Option Int->Hp->Prop)->Prop
noncomputable def PO (X:Cx) (e:Option Expr) (t:TO):Prop:=
 ∀ (pins:List (Addr × Obj)) (s:Shared) (σ:St) (H:Hp) (Q:Option Int->Hp->Prop),Inv X pins σ H s->t σ H Q ->
   wpAny (model X.prog X.w) X.A (evalPart e X.env) (λu s'=>∃ o H',Inv X pins σ H' s'/\IsPart u o/\Q o H') X.xe s
noncomputable def vI:TO:=λ_ H Q=>Q none H
noncomputable def Aq (t:TE):TO:=λσ H Q=>t σ H λx H1=>∃ i,x=.int i/\Q (some i) H1
section
variable {X:Cx} {e:Expr} {te:TE} {lo hi:Option Expr} {tl th:TO} {pos p2:Pos}
theorem vy:PO X none vI:=by
 intro pins s σ H Q I h
 rw [evalPart_none]
 exact wpAny_pure ⟨none,H,I,.none,h⟩
theorem vm (h:PE X e te):PO X (some e) (Aq te):=by
 intro pins s σ H Q I hw
 rw [evalPart_some]
 refine thn (h pins s σ H _ I hw) λu s1 ⟨x,H1,I1,r1,q1⟩=>?_
 obtain ⟨i,rfl,q⟩:=q1
 obtain ⟨t,rfl⟩:=r1
 exact ⟨some i,H1,I1,.int i t,q⟩
noncomputable def SlR (X:Cx) (r:V->Option Int->Option Int->Hp->VK->Prop):Prop:=
 ∀ (pins:List (Addr × Obj)) (s:Shared) (σ:St) (H:Hp) (x:V) (v vl vu:Value) (lo hi:Option Int) (sl:Addr) (Q:VK),Inv X pins σ H s->RelV x v->s.heap.IsSliceOf sl vl vu .none->IsPart vl lo->IsPart vu hi->r x lo hi H Q ->
   ∃ T id,typeLookup (.type T) "__getitem__" = pure (some (.builtin id))/\s.TypeIs v T/\wpAny (model X.prog X.w) X.A (getItem v (.ref sl)) (EP X pins σ Q) X.xe s
noncomputable def tSl (r:V->Option Int->Option Int->Hp->VK->Prop) (te:TE) (tl th:TO):TE:=λσ H Q=>te σ H λx H1=>tl σ H1 λl H2=>th σ H2 λu H3=>r x l u H3 Q
theorem n8 {r:V->Option Int->Option Int->Hp->VK->Prop} (hr:SlR X r) (he:PE X e te) (hl:PO X lo tl) (hu:PO X hi th):PE X (.Subscript e (.Slice lo hi none p2) pos) (tSl r te tl th):=by
 intro pins s σ H Q I h
 refine Subscript_ (thn (he pins s σ H _ I h) λv s1 ⟨x,H1,I1,r1,q1⟩=>?_)
 refine wpAny_Slice (thn (hl pins s1 σ H1 _ I1 q1) λvl s2 ⟨l,H2,I2,pl,q2⟩=>thn (hu pins s2 σ H2 _ I2 q2) λvu s3 ⟨u,H3,I3,pu,q3⟩=>?_)
 rw [evalPart_none]
 refine wpAny_pure ?_
 have I4:Inv X pins σ H3 { s3 with heap:=s3.heap.push { cls:=.type "slice",data:=.fields #[vl,vu,.none] } }:=I3.kept (t':=s3.toks) λb ob q=>Heap.get?_push_of_some _ q
 obtain ⟨T,id,hT,ht,hg⟩:=hr pins { s3 with heap:=s3.heap.push { cls:=.type "slice",data:=.fields #[vl,vu,.none] } } σ H3 x v vl vu l u s3.heap.objs.size Q I4 r1 (Heap.IsSliceOf.new ..) pl pu q3
 show wpAny (model X.prog X.w) X.A (subscriptTail e (.Slice lo hi none p2) v (.ref s3.heap.objs.size)) (EP X pins σ Q) X.xe { s3 with heap:=s3.heap.push { cls:=.type "slice",data:=.fields #[vl,vu,.none] } }
 exact tail_any (ops:=[.ref s3.heap.objs.size,v]) ht hT hg (by with_unfolding_all rfl)
noncomputable def jJ (xs:List V) (lo hi:Option Int):List V:=(xs.drop (HT.sIx xs.length 0 lo)).take (HT.sIx xs.length xs.length hi - HT.sIx xs.length 0 lo)
theorem i0 (xs:List V) (lo hi:Option Int):(jJ xs lo hi).length<=xs.length:=by
 unfold jJ
 rw [List.length_take,List.length_drop]
 omega
noncomputable def A2 (K:PySem.W.Frag):V->Option Int->Option Int->Hp->VK->Prop:=λx lo hi H Q=>∃ a xs,x=.ref a/\SqT K H a xs /\
 ¬ (HT.sIx xs.length 0 lo=0/\HT.sIx xs.length xs.length hi=xs.length)/\∀ p,H p=none->Q (.ref p) (upd H p (.tup (jJ xs lo hi)))
theorem za:SlR X (A2 X.K):=by
 intro pins s σ H x v vl vu lo hi sl Q I rx hs pl pu h
 obtain ⟨a,xs,rfl,hx,hw,q⟩:=h
 cases rx
 obtain ⟨its,r,ht,hz⟩:=I.tuple hx
 have hlen:its.toArray.size=xs.length:=by rw [List.size_toArray]; exact r.length.symm
 refine ⟨"tuple",_,PyProof.Rows.slot_tuple_getitem.lookup,ht.typeIs,?_⟩
 refine HT.ij ht hs pl pu (by rw [hlen]; exact hw) ?_ (by rw [hlen]; exact hz)
 rw [hlen]
 refine ⟨.ref s.heap.objs.size,_,I.laid (t':=s.toks) (o:=.tup (jJ xs lo hi)) (λb ob q=>Heap.get?_push_of_some _ q) (Nat.le_refl _) ?_,rfl,q _ (I.hok.fresh (Nat.le_refl _))⟩
 exact ⟨Nat.le_trans (i0 xs lo hi) hz,_,(r.drop (HT.sIx xs.length 0 lo)).take (HT.sIx xs.length xs.length hi - HT.sIx xs.length 0 lo),IsTup.new _ _⟩
noncomputable def zw (K:PySem.W.Frag):R2:=λx y H Q=>∃ a b xs ys,x=.ref a/\y=.ref b/\SqT K H a xs/\SqT K H b ys/\xs ≠ []/\xs.length + ys.length<=sizeLine /\
 (ys=[]->Q (.ref a) H)/\(ys ≠ []->∀ p,H p=none->Q (.ref p) (upd H p (.tup (xs++ys))))
theorem Vals.mU {xs:List V} {us:List Value} (r:Vals xs us):us=[] ↔ xs=[]:=by
 cases r with
 | nil=>simp
 | cons _ _=>simp
theorem vq:OpR X (binaryOp .Add) (zw X.K):=by
 intro pins s σ H x y v u Q I rx ry h
 obtain ⟨a,b,xs,ys,rfl,rfl,ha,hb,hx,hz,q1,q2⟩:=h
 cases rx
 cases ry
 obtain ⟨its,r1,p1,_⟩:=I.tuple ha
 obtain ⟨its2,r2,p2,_⟩:=I.tuple hb
 refine HT.vg p1 p2 (λz=>hx (r1.mU.mp z)) (λz=>⟨.ref a,H,I,rfl,q1 (r2.mU.mp z)⟩) (λz=>?_) (by rw [<- r1.length,<- r2.length]; exact hz)
 refine ⟨.ref s.heap.objs.size,_,I.laid (t':=s.toks) (o:=.tup (xs++ys)) (λb ob q=>Heap.get?_push_of_some _ q) (Nat.le_refl _) ?_,rfl,q2 (λw=>z (r2.mU.mpr w)) _ (I.hok.fresh (Nat.le_refl _))⟩
 exact ⟨by rw [List.length_append]; exact hz,_,r1.append r2,IsTup.new _ _⟩
end
noncomputable def ixN (n:Nat) (i:Int):Option Nat:=if 0<=i then (if i < n then some i.toNat else none) else if -(n:Int)<=i then some (i + n).toNat else none
noncomputable def atI {α:Type} (xs:List α) (i:Int):Option α:=(ixN xs.length i).bind λj=>xs[j]?
theorem qC {n:Nat} {i:Int} {j:Nat} (h:ixN n i=some j):seqIndex? i n=some j/\j < n/\-(n:Int)<=i/\i < n:=by
 unfold ixN at h
 by_cases h0:0<=i
 · rw [if_pos h0] at h
   by_cases h1:i < n
   · rw [if_pos h1] at h
     have e:i.toNat=j:=Option.some.inj h
     exact ⟨by rw [seqIndex_of h0 h1,e],by omega,by omega,h1⟩
   · rw [if_neg h1] at h; cases h
 · rw [if_neg h0] at h
   by_cases h1:-(n:Int)<=i
   · rw [if_pos h1] at h
     have e:(i + n).toNat=j:=Option.some.inj h
     exact ⟨by rw [seqIndex_neg (by omega) h1,e],by omega,h1,by omega⟩
   · rw [if_neg h1] at h; cases h
theorem qr {α:Type} {xs:List α} {i:Int} {v:α} (h:atI xs i=some v):∃ j,seqIndex? i xs.length=some j/\xs[j]?=some v/\j < xs.length/\-(xs.length:Int)<=i/\i < xs.length:=by
 unfold atI at h
 cases e:ixN xs.length i with
 | none=>rw [e] at h; cases h
 | some j=>
   rw [e] at h
   obtain ⟨h1,h2,h3,h4⟩:=qC e
   exact ⟨j,h1,h,h2,h3,h4⟩
noncomputable def qP (b:Expr):Prop:=∀ o i,subscripted b false o i=operate [o,i] (getItem o i)
noncomputable def IxR (X:Cx) (r:R2):Prop:=
 ∀ (value slice:Expr) (pins:List (Addr × Obj)) (s:Shared) (σ:St) (H:Hp) (x y:V) (v u:Value) (Q:VK),Inv X pins σ H s->RelV x v->RelV y u->r x y H Q ->
   subscripted slice false v u=operate [v,u] (getItem v u)->wpAny (model X.prog X.w) X.A (subscriptTail value slice v u) (EP X pins σ Q) X.xe s
noncomputable def MtR (X:Cx) (id:String) (r:V->List V->Hp->VK->Prop):Prop:=
 ∀ (pins:List (Addr × Obj)) (s:Shared) (σ:St) (H:Hp) (x:V) (xs:List V) (v:Value) (us:List Value) (Q:VK),Inv X pins σ H s->RelV x v->Vals xs us->r x xs H Q ->
   wpAny (model X.prog X.w) X.A (call (.builtin id) (v :: us)) (EP X pins σ Q) X.xe s
section
variable {X:Cx} {a b:Expr} {ta tb:TE} {pos:Pos}
theorem zB {r:R2} (hr:IxR X r) (ha:PE X a ta) (hb:PE X b tb) (hs:qP b):PE X (.Subscript a b pos) (tOp r ta tb):=by
 intro pins s σ H Q I h
 exact Subscript_ (xh ha hb I h λv u s2 x y H2 I2 rx ry q=>hr a b pins s2 σ H2 x y v u Q I2 rx ry q (hs _ _))
noncomputable def AR (K:PySem.W.Frag):R2:=λx y H Q=>∃ p xs i v,x=.ref p/\y=.int i/\SqL K H p xs/\atI xs i=some v/\Q v H
noncomputable def AS (K:PySem.W.Frag):R2:=λx y H Q=>∃ p xs i v,x=.ref p/\y=.int i/\SqT K H p xs/\atI xs i=some v/\Q v H
theorem vo:IxR X (AR X.K):=by
 intro value slice pins s σ H x y v u Q I rx ry h hs
 obtain ⟨p,xs,i,z,rfl,rfl,hq,he,q⟩:=h
 cases rx
 obtain ⟨t,rfl⟩:=ry
 obtain ⟨its,r,pl,hz⟩:=I.list hq
 obtain ⟨j,h1,h2,h3,h4,h5⟩:=qr he
 obtain ⟨w,ew,rw'⟩:=r.get h2
 have hl:=r.length
 have hn:=mX
 have fin:EP X pins σ Q w s:=⟨z,H,I,rw',q⟩
 by_cases h0:0<=i
 · have hj:i.toNat=j:=by
     rw [seqIndex_of h0 h5] at h1
     exact Option.some.inj h1
   exact item_listR pl.isList h0 (by omega) (by rw [hj]; simpa using ew) fin hs
 · have hj:(i + (its.toArray.size:Int)).toNat=j:=by
     rw [seqIndex_neg (by omega) h4] at h1
     rw [List.size_toArray,<- hl]
     exact Option.some.inj h1
   exact subscriptTail_builtinR (x:=w) pl.isList.typeIs slot_list_getitem.lookup
     (wpAny_getItem_list_neg (Q:=λr s'=>r=w/\EP X pins σ Q r s') pl.isList (by omega) (by rw [List.size_toArray] <;> omega) (by omega) (by rw [hj]; simpa using ew) ⟨rfl,fin⟩) hs
theorem yc:IxR X (AS X.K):=by
 intro value slice pins s σ H x y v u Q I rx ry h hs
 obtain ⟨p,xs,i,z,rfl,rfl,hq,he,q⟩:=h
 cases rx
 obtain ⟨t,rfl⟩:=ry
 obtain ⟨its,r,pl,hz⟩:=I.tuple hq
 obtain ⟨j,h1,h2,h3,h4,h5⟩:=qr he
 obtain ⟨w,ew,rw'⟩:=r.get h2
 have hl:=r.length
 have hn:=mX
 have fin:EP X pins σ Q w s:=⟨z,H,I,rw',q⟩
 exact subscriptTail_builtinR (x:=w) pl.typeIs slot_tuple_getitem.lookup
   (getItem_tuple (j:=j) (Q:=λr s'=>r=w/\EP X pins σ Q r s') pl (by omega) (by omega) (by rw [List.size_toArray,<- hl]; exact h1) (by simpa using ew) ⟨rfl,fin⟩) hs
theorem pd (its:List Value) (n j:Nat) (u:Value):Obj.mapSeq (·.setIfInBounds j u) { cls:=.type "list",data:=.seq its.toArray n }={ cls:=.type "list",data:=.seq (its.set j u).toArray n }:=by
 simp [Obj.mapSeq]
theorem Inv.lst {pins:List (Addr × Obj)} {σ:St} {H:Hp} {s:Shared} {p:Addr} {xs:List V} (I:Inv X pins σ H s) (h:H p=some (.lst xs)) :
   ∃ (its:List Value) (n:Nat),Vals xs its/\s.heap.get? p=some { cls:=.type "list",data:=.seq its.toArray n }/\xs.length<=sizeLine:=by
 obtain ⟨z,its,n,r,e⟩:=I.hok p _ h
 exact ⟨its,n,r,e,z⟩
theorem Inv.yt {pins:List (Addr × Obj)} {σ:St} {H:Hp} {s:Shared} {p:Addr} {xs ys:List V} {its its':List Value} {n n':Nat} {f:Obj->Obj} (I:Inv X pins σ H s) (h:H p=some (.lst xs))
   (ho:s.heap.get? p=some { cls:=.type "list",data:=.seq its.toArray n }) (hf:f { cls:=.type "list",data:=.seq its.toArray n }={ cls:=.type "list",data:=.seq its'.toArray n' }) (r:Vals ys its') (hz:ys.length<=sizeLine) (t:Nat) :
   Inv X pins σ (upd H p (.lst ys)) { s with heap:=s.heap.update p f,toks:=t }:=by
 have e:(s.heap.update p f).get? p=some { cls:=.type "list",data:=.seq its'.toArray n' }:=by
   rw [Heap.get?_update_self f ho (by rw [hf] <;> rfl),hf]
 refine I.write (x:=p) (e:=p) (by rw [h]; trivial) (.inl rfl) (λb u hb q=>(Heap.get?_update_other _ _ (Ne.symm hb)).trans q) ⟨_,e⟩ ?_
 exact ⟨hz,its',n',r,e⟩
noncomputable def zg:V->V->V->Hp->(Hp->Prop)->Prop:=λo i v H Q=>∃ p xs k j,o=.ref p/\i=.int k/\H p=some (.lst xs)/\ixN xs.length k=some j/\Q (upd H p (.lst (xs.set j v)))
theorem set_list:AA X zg:=by
 intro pins s σ H o i v ov iv u Q I ro ri rv h
 obtain ⟨p,xs,k,j,rfl,rfl,hp,hj,q⟩:=h
 cases ro
 obtain ⟨t,rfl⟩:=ri
 obtain ⟨its,n,r,ho,hz⟩:=I.lst hp
 obtain ⟨h1,h2,h3,h4⟩:=qC hj
 have hl:=r.length
 have hn:=mX
 have I':Inv X pins σ (upd H p (.lst (xs.set j v))) { s with heap:=s.heap.update p (Obj.mapSeq (·.setIfInBounds j u)) }:=
   I.yt hp ho (pd its n j u) (r.set rv j) (by rw [List.length_set]; exact hz) s.toks
 by_cases h0:0<=k
 · have hk:k.toNat=j:=by
     rw [seqIndex_of h0 h4] at h1
     exact Option.some.inj h1
   exact PySem.W.ki_setAt ho h0 (by omega) (by rw [List.size_toArray,<- hl]; exact h4) (by rw [hk]; exact ⟨_,I',q⟩)
 · have hk:(k + (its.toArray.size:Int)).toNat=j:=by
     rw [seqIndex_neg (by omega) h3] at h1
     rw [List.size_toArray,<- hl]
     exact Option.some.inj h1
   exact PySem.W.ki_setBack ho (by omega) (by rw [List.size_toArray,<- hl]; exact h3) (by omega) (by rw [hk]; exact ⟨_,I',q⟩)
theorem mG (lo hi:Option Int) (n:Nat):(sliceBounds lo hi none n).1=((HT.sIx n 0 lo:Nat):Int)/\(sliceBounds lo hi none n).2.1=((HT.sIx n n hi:Nat):Int)/\(sliceBounds lo hi none n).2.2=1:=by
 refine ⟨?_,?_,rfl⟩
 · cases lo with
   | none=>simp [sliceBounds,HT.sIx]
   | some i=>
     simp only [sliceBounds,HT.sIx,Option.getD_none,show (1:Int) > 0 by decide,if_true]
     by_cases h:i < 0
     · simp only [h,if_true] <;> omega
     · simp only [h,if_false] <;> omega
 · cases hi with
   | none=>simp [sliceBounds,HT.sIx]
   | some i=>
     simp only [sliceBounds,HT.sIx,Option.getD_none,show (1:Int) > 0 by decide,if_true]
     by_cases h:i < 0
     · simp only [h,if_true] <;> omega
     · simp only [h,if_false] <;> omega
theorem kx (its:List Value) (lo hi:Option Int):slicePick its.toArray lo hi none=((its.drop (HT.sIx its.length 0 lo)).take (HT.sIx its.length its.length hi - HT.sIx its.length 0 lo)).toArray:=by
 obtain ⟨h1,h2,h3⟩:=mG lo hi its.toArray.size
 unfold slicePick
 rw [h1,h2,h3]
 simp only [sliceRange_one,pick_run,List.size_toArray] <;> rfl
noncomputable def Bh (K:PySem.W.Frag):V->Option Int->Option Int->Hp->VK->Prop:=λx lo hi H Q=>∃ a xs,x=.ref a/\SqL K H a xs/\∀ p,H p=none->Q (.ref p) (upd H p (.lst (jJ xs lo hi)))
theorem uQ:SlR X (Bh X.K):=by
 intro pins s σ H x v vl vu lo hi sl Q I rx hs pl pu h
 obtain ⟨a,xs,rfl,hx,q⟩:=h
 cases rx
 obtain ⟨its,r,ht,hz⟩:=I.list hx
 have hlen:=r.length
 refine ⟨"list",_,slot_list_getitem.lookup,ht.isList.typeIs,?_⟩
 refine wpAny_getItem_list_slice ht.isList hs pl pu .none (by simp) ?_ (by rw [List.size_toArray] <;> omega)
 rw [kx,<- hlen]
 refine ⟨.ref s.heap.objs.size,_,I.laid (t':=s.toks) (o:=.lst (jJ xs lo hi)) (λb ob q=>Heap.get?_push_of_some _ q) (Nat.le_refl _) ?_,rfl,q _ (I.hok.fresh (Nat.le_refl _))⟩
 exact ⟨Nat.le_trans (i0 xs lo hi) hz,_,0,(r.drop (HT.sIx xs.length 0 lo)).take (HT.sIx xs.length xs.length hi - HT.sIx xs.length 0 lo),Heap.get?_push_size _ rfl⟩
noncomputable def iT:V->Bool
 | .non=>true
 | .bl _=>true
 | .int _=>true
 | .str _=>true
 | _=>false
noncomputable def eqV:V->V->Bool
 | .non,.non=>true
 | .bl a,.bl b=>a == b
 | .bl a,.int b=>(if a then 1 else 0) == b
 | .int a,.bl b=>a == (if b then 1 else 0)
 | .int a,.int b=>a == b
 | .str a,.str b=>a == b
 | _,_=>false
theorem yn {A:Around} {s:Shared} {y x:V} {u v:Value} (ry:RelV y u) (rx:RelV x v) (fy:iT y=true) (fx:iT x=true):SeqAt.EqAt A s u v (eqV y x):=by
 cases y with
 | non=>
   cases ry
   cases x with
   | non=>cases rx; exact SeqAt.EqAt.same _
   | bl b=>cases rx; exact SeqAt.EqAt.none_bool b
   | int b=>obtain ⟨t,rfl⟩:=rx; exact SeqAt.EqAt.none_int b t
   | str b=>obtain ⟨t,rfl⟩:=rx; exact SeqAt.EqAt.none_str b t
   | _=>exact absurd (show false=true from fx) Bool.false_ne_true
 | bl a=>
   cases ry
   cases x with
   | non=>cases rx; exact SeqAt.EqAt.bool_none a
   | bl b=>cases rx; exact SeqAt.EqAt.bool_bool a b
   | int b=>obtain ⟨t,rfl⟩:=rx; exact SeqAt.EqAt.bool_int a b t
   | str b=>obtain ⟨t,rfl⟩:=rx; exact SeqAt.EqAt.bool_str a b t
   | _=>exact absurd (show false=true from fx) Bool.false_ne_true
 | int a=>
   obtain ⟨t',rfl⟩:=ry
   cases x with
   | non=>cases rx; exact SeqAt.EqAt.int_none a t'
   | bl b=>cases rx; exact SeqAt.EqAt.int_bool a t' b
   | int b=>obtain ⟨t,rfl⟩:=rx; exact SeqAt.EqAt.int_int a t' b t
   | str b=>obtain ⟨t,rfl⟩:=rx; exact SeqAt.EqAt.int_str a t' b t
   | _=>exact absurd (show false=true from fx) Bool.false_ne_true
 | str a=>
   obtain ⟨t',rfl⟩:=ry
   cases x with
   | non=>cases rx; exact SeqAt.EqAt.str_none a t'
   | bl b=>cases rx; exact SeqAt.EqAt.str_bool a t' b
   | int b=>obtain ⟨t,rfl⟩:=rx; exact SeqAt.EqAt.str_int a t' b t
   | str b=>obtain ⟨t,rfl⟩:=rx; exact SeqAt.EqAt.str_str a t' b t
   | _=>exact absurd (show false=true from fx) Bool.false_ne_true
 | _=>exact absurd (show false=true from fy) Bool.false_ne_true
noncomputable def eqU (x:V) (u:Value):Bool:=match u with
 | .none=>eqV .non x
 | .bool b=>eqV (.bl b) x
 | .int i _=>eqV (.int i) x
 | .str z _=>eqV (.str z) x
 | _=>false
theorem uH {x y:V} {u:Value} (r:RelV y u) (f:iT y=true):eqU x u=eqV y x:=by
 cases y with
 | non=>cases r; rfl
 | bl b=>cases r; rfl
 | int i=>obtain ⟨t,rfl⟩:=r; rfl
 | str z=>obtain ⟨t,rfl⟩:=r; rfl
 | _=>exact absurd (show false=true from f) Bool.false_ne_true
theorem hV {x:V}:∀ {xs:List V} {us:List Value},Vals xs us->xs.all iT=true->us.any (eqU x)=xs.any λy=>eqV y x
 | _,_,.nil,_=>rfl
 | y :: xs,u :: us,.cons r t,f=>by
   rw [List.all_cons,Bool.and_eq_true] at f
   rw [List.any_cons,List.any_cons,uH r f.1,hV t f.2]
theorem fJ {A:Around} {s:Shared} {x:V} {v:Value} (rx:RelV x v) (fx:iT x=true):∀ {xs:List V} {us:List Value},Vals xs us->xs.all iT=true->∀ u ∈ us,SeqAt.EqAt A s u v (eqU x u)
 | _,_,.nil,_=>λu hu=>by cases hu
 | y :: xs,u :: us,.cons r t,f=>λu' hu=>by
   rw [List.all_cons,Bool.and_eq_true] at f
   rcases List.mem_cons.mp hu with rfl | hu
   · rw [uH r f.1]; exact yn r rx f.1 fx
   · exact fJ rx fx t f.2 u' hu
noncomputable def inV (x:V) (xs:List V):Bool:=xs.any λy=>eqV y x
noncomputable def rIn (K:PySem.W.Frag) (neg:Bool):R2:=λx y H Q=>∃ p xs,y=.ref p/\(SqL K H p xs\/SqT K H p xs)/\iT x=true/\xs.all iT=true/\Q (.bl (if neg then !inV x xs else inV x xs)) H
theorem qX:OpR X (compareOp .In) (rIn X.K false):=by
 intro pins s σ H x y v u Q I rx ry h
 obtain ⟨p,xs,rfl,hq,fx,fs,q⟩:=h
 cases ry
 rcases hq with hq | hq
 · obtain ⟨its,r,pl,hz⟩:=I.list hq
   refine SeqAt.in_listAt (eqU x) pl.isList (λw hw=>fJ rx fx r fs w (by simpa using hw)) ⟨.bl _,H,I,rfl,?_⟩
   rw [show its.toArray.any (eqU x)=its.any (eqU x) by simp,hV r fs]
   exact q
 · obtain ⟨its,r,pl,hz⟩:=I.tuple hq
   refine SeqAt.in_tupleAt (eqU x) pl (λw hw=>fJ rx fx r fs w (by simpa using hw)) ⟨.bl _,H,I,rfl,?_⟩
   rw [show its.toArray.any (eqU x)=its.any (eqU x) by simp,hV r fs]
   exact q
theorem lY:OpR X (compareOp .NotIn) (rIn X.K true):=by
 intro pins s σ H x y v u Q I rx ry h
 obtain ⟨p,xs,rfl,hq,fx,fs,q⟩:=h
 cases ry
 rcases hq with hq | hq
 · obtain ⟨its,r,pl,hz⟩:=I.list hq
   refine SeqAt.notIn_listAt (eqU x) pl.isList (λw hw=>fJ rx fx r fs w (by simpa using hw)) ⟨.bl _,H,I,rfl,?_⟩
   rw [show its.toArray.any (eqU x)=its.any (eqU x) by simp,hV r fs]
   exact q
 · obtain ⟨its,r,pl,hz⟩:=I.tuple hq
   refine SeqAt.notIn_tupleAt (eqU x) pl (λw hw=>fJ rx fx r fs w (by simpa using hw)) ⟨.bl _,H,I,rfl,?_⟩
   rw [show its.toArray.any (eqU x)=its.any (eqU x) by simp,hV r fs]
   exact q
theorem gP:cY X (.builtin "len") (λxs H Q=>∃ p ys,xs=[.ref p]/\(SqL X.K H p ys\/SqT X.K H p ys)/\Q (.int ys.length) H):=by
 intro pins s σ H xs us Q I r h
 obtain ⟨p,ys,rfl,hq,q⟩:=h
 obtain ⟨u,rfl,rx⟩:=vals1 r
 cases rx
 have hn:=mX
 rcases hq with hq | hq
 · obtain ⟨its,r',pl,hz⟩:=I.list hq
   have hlen:=r'.length
   exact Calls.call_len_list pl.isList (by simp only [List.size_toArray] <;> omega) ⟨.int ys.length,H,I.tok _,⟨s.toks + 1,by rw [List.size_toArray,hlen]⟩,q⟩
 · obtain ⟨its,r',pl,hz⟩:=I.tuple hq
   have hlen:=r'.length
   exact len_tuple pl (by simp only [List.size_toArray] <;> omega) ⟨.int ys.length,H,I.tok _,⟨s.toks + 1,by rw [List.size_toArray,hlen]⟩,q⟩
theorem gK:cY X (.type "list") (λxs H Q=>∃ p ys,xs=[.ref p]/\(SqL X.K H p ys\/SqT X.K H p ys)/\∀ l,H l=none->Q (.ref l) (upd H l (.lst ys))):=by
 intro pins s σ H xs us Q I r h
 obtain ⟨p,ys,rfl,hq,q⟩:=h
 obtain ⟨u,rfl,rx⟩:=vals1 r
 cases rx
 have fin:∀ (its:List Value),Vals ys its->ys.length<=sizeLine->∀ (h':Heap) (c':Nat),(∀ b o',s.heap.get? b=some o'->h'.get? b=some o') ->
     h'.get? s.heap.objs.size=some { cls:=.type "list",dict:=none,data:=.seq its.toArray c',slots:=#[] }->EP X pins σ Q (.ref s.heap.objs.size) { s with heap:=h' }:=λits r' hz h' c' kp e=>
   ⟨.ref s.heap.objs.size,_,I.laid (t':=s.toks) kp (Nat.le_refl _) (show bZ X.prog X.w _ h' _ (.lst ys) from ⟨hz,its,c',r',e⟩),rfl,q _ (I.hok.fresh (Nat.le_refl _))⟩
 rcases hq with hq | hq
 · obtain ⟨its,r',pl,hz⟩:=I.list hq
   have hlen:=r'.length
   obtain ⟨o,ho,hc,n,hd⟩:=pl.isList
   exact call_list_seq p (.inl rfl) ho hc hd (λh' c' kp e=>fin its r' hz h' c' kp e) (by simp only [List.size_toArray] <;> omega)
 · obtain ⟨its,r',pl,hz⟩:=I.tuple hq
   have hlen:=r'.length
   obtain ⟨o,ho,hc,n,hd⟩:=pl
   exact call_list_seq p (.inr rfl) ho hc hd (λh' c' kp e=>fin its r' hz h' c' kp e) (by simp only [List.size_toArray] <;> omega)
theorem kr:cY X (.type "tuple") (λxs H Q=>∃ p ys,xs=[.ref p]/\((SqL X.K H p ys/\∀ l,H l=none->Q (.ref l) (upd H l (.tup ys)))\/(SqT X.K H p ys/\Q (.ref p) H))):=by
 intro pins s σ H xs us Q I r h
 obtain ⟨p,ys,rfl,h⟩:=h
 obtain ⟨u,rfl,rx⟩:=vals1 r
 cases rx
 rcases h with ⟨hq,q⟩ | ⟨hq,q⟩
 · obtain ⟨its,r',pl,hz⟩:=I.list hq
   have hlen:=r'.length
   refine call_tuple_list pl.isList (λh' kp=>?_) (by simp only [List.size_toArray] <;> omega)
   have I1:Inv X pins σ H { s with heap:=h' }:=I.kept (t':=s.toks) kp
   have I2:Inv X pins σ (upd H h'.objs.size (.tup ys)) { s with heap:=h'.push { cls:=.type "tuple",data:=.seq its.toArray } }:=
     I1.laid (t':=s.toks) (λb o e=>Heap.get?_push_of_some _ e) (Nat.le_refl _) (show bZ X.prog X.w _ _ _ (.tup ys) from ⟨hz,its,r',IsTup.new _ _⟩)
   exact ⟨.ref h'.objs.size,_,I2,rfl,q _ (I1.hok.fresh (Nat.le_refl _))⟩
 · obtain ⟨its,r',pl,hz⟩:=I.tuple hq
   exact call_tuple_same pl ⟨.ref p,H,I,rfl,q⟩
noncomputable def tyV (K:PySem.W.Frag) (T:String) (x:V) (H:Hp):Prop:=match x with
 | .str _=>T = "str"
 | .int _=>T = "int"
 | .ref p=>(T = "list" /\ ∃ xs,SqL K H p xs)\/(T = "tuple" /\ ∃ o,K.lookup p=some o/\o.cls=.type "tuple" /\ o.dict=none) \/
     (T = "dict" /\ ((∃ kvs,H p=some (.dK kvs))\/∃ kvs,H p=some (.dT kvs)))\/(T = "set" /\ ∃ S n,H p=some (.set S n))
 | _=>False
theorem xV {pins:List (Addr × Obj)} {σ:St} {H:Hp} {s:Shared} {T:String} {x:V} {v:Value} (I:Inv X pins σ H s) (r:RelV x v) (ty:tyV X.K T x H) :
   s.TypeIs v T/\∀ a,v=.ref a->∃ ob,s.heap.get? a=some ob/\ob.dict=none:=by
 cases x with
 | str z=>
   obtain ⟨t,rfl⟩:=r
   cases (show T = "str" from ty)
   exact ⟨typeIs_str s z t,λ_ e=>nomatch e⟩
 | int i=>
   obtain ⟨t,rfl⟩:=r
   cases (show T = "int" from ty)
   exact ⟨typeIs_int s i t,λ_ e=>nomatch e⟩
 | ref p=>
   cases r
   rcases ty with ⟨rfl,xs,hq⟩ | ⟨rfl,o,hk,hc,hd⟩ | ⟨rfl,hk⟩ | ⟨rfl,S,n,hk⟩
   · obtain ⟨its,_,pl,_⟩:=I.list hq
     refine ⟨pl.isList.typeIs,λa e=>?_⟩
     cases e
     obtain ⟨o,n,e,c,hd,_⟩:=pl
     exact ⟨o,e,hd⟩
   · refine ⟨⟨o,I.kIn p o hk,hc⟩,λa e=>?_⟩
     cases e
     exact ⟨o,I.kIn _ o hk,hd⟩
   · have z:∃ o,s.heap.get? p=some o/\o.ExactDict:=by
       rcases hk with ⟨kvs,hk⟩ | ⟨kvs,hk⟩
       · obtain ⟨_,_,_,_,o,_,_,e,ex,_⟩:=I.hok p _ hk
         exact ⟨o,e,ex⟩
       · obtain ⟨_,_,_,_,o,_,_,e,ex,_⟩:=I.hok p _ hk
         exact ⟨o,e,ex⟩
     obtain ⟨o,e,ex⟩:=z
     refine ⟨⟨o,e,ex.1⟩,λa e2=>?_⟩
     cases e2
     exact ⟨o,e,ex.2.1⟩
   · obtain ⟨o,_,_,_,e,ex,_⟩:=I.hok p _ hk
     refine ⟨⟨o,e,ex.1⟩,λa e2=>?_⟩
     cases e2
     exact ⟨o,e,ex.2.1⟩
 | _=>exact False.elim ty
noncomputable def tBM (K:PySem.W.Frag) (T:String) (r:V->List V->Hp->VK->Prop) (to:TE) (t:TA):TE:=λσ H Q=>to σ H λx H1=>tyV K T x H1/\t σ H1 λxs H2=>r x xs H2 Q
variable {o e:Expr} {es:List Expr} {to:TE} {t:TA} {name:Str} {apos cpos:Pos} {T id:String} {r:V->List V->Hp->VK->Prop}
theorem qh (pa:PlainAttrs T) (slot:Slot T name id) (hty:typeOf (.builtin id)=pure (.type "method_descriptor")) (hm:MtR X id r) (ho:PE X o to) (ha:PA X (e :: es) t)
   (hbase:attributeBase o name X.env (eval o X.env)=eval o X.env:=by rfl)
   (hfew:((backTo cpos (starEach (e :: es) X.env)).all (λx=>!x.1) && (backToKw cpos (keywordEach [] X.env)).all (λx=>x.1.isSome)
     && decide ((e :: es).length + ([]:List Keyword).length + (if ([]:List Keyword).isEmpty then 0 else 1) < 30))=true:=by rfl)
   (hline:(apos.endLine == cpos.line)=true:=by rfl) (hs:starEach (e :: es) X.env=(false,eval e X.env) :: starEach es X.env:=by rfl) (hplain:(backTo cpos (starEach es X.env)).any (·.1)=false:=by rfl) :
   PE X (.Call (.Attribute o name apos) (e :: es) [] cpos) (tBM X.K T r to t):=by
 intro pins s σ H Q I h
 refine wpAny_Call_method_late hbase hfew hline rfl (thn (ho pins s σ H _ I h) λv s1 ⟨x,H1,I1,r1,ty,q1⟩=>?_)
 obtain ⟨h1,h2⟩:=xV I1 r1 ty
 refine ⟨T,id,pa,slot,hty,h1,h2,?_⟩
 have hA:=ha cpos pins s1 σ H1 _ I1 q1
 rw [hs] at hA ⊢
 refine Calls.callWith_builtin (by show (false || (backTo cpos (starEach es X.env)).any (·.1))=false; rw [hplain] <;> rfl) (Calls.evalArgs_plain ?_)
 exact thn hA λus s2 ⟨vs,H2,I2,r2,q2⟩=>hm pins s2 σ H2 x vs v us Q I2 r1 r2 q2
end
noncomputable def MtM (X:Cx) (id:String) (r:V->List V->Hp->VK->Prop):Prop:=
 ∀ (pins:List (Addr × Obj)) (s:Shared) (σ:St) (H:Hp) (x:V) (xs:List V) (v:Value) (us:List Value) (Q:VK),Inv X pins σ H s->RelV x v->Vals xs us->r x xs H Q ->
   wpAny (model X.prog X.w) X.A (call (.builtin id) (v :: us)) (EP X pins σ Q) X.xe s
theorem Vals.one:∀ {x:V} {us:List Value},Vals [x] us->∃ u,us=[u]/\RelV x u
 | _,_,.cons r .nil=>⟨_,rfl,r⟩
theorem Vals.two:∀ {x y:V} {us:List Value},Vals [x,y] us->∃ u v,us=[u,v]/\RelV x u/\RelV y v
 | _,_,_,.cons r (.cons q .nil)=>⟨_,_,rfl,r,q⟩
theorem Vals.eraseIdx:∀ {xs:List V} {us:List Value} (i:Nat),Vals xs us->Vals (xs.eraseIdx i) (us.eraseIdx i)
 | _,_,_,.nil=>.nil
 | _,_,0,.cons _ t=>t
 | _,_,i + 1,.cons r t=>.cons r (Vals.eraseIdx i t)
theorem Vals.rep {xs:List V} {us:List Value} (h:Vals xs us):∀ k:Nat,Vals (List.replicate k xs).flatten (List.replicate k us).flatten
 | 0=>.nil
 | k + 1=>by
   rw [List.replicate_succ,List.replicate_succ,List.flatten_cons,List.flatten_cons]
   exact Vals.append h (Vals.rep h k)
theorem kQ {α:Type}:∀ (l:List α) (i:Nat),(l.eraseIdx i).length<=l.length
 | [],_=>Nat.le_refl _
 | _ :: _,0=>Nat.le_succ _
 | _ :: r,i + 1=>Nat.succ_le_succ (kQ r i)
theorem foldl_rep (its:List Value):∀ (k:Nat) (acc:List Value),
   List.foldl (λx1 x2=>x1++x2) acc.toArray (List.replicate k its.toArray)=(acc++(List.replicate k its).flatten).toArray
 | 0,acc=>by simp
 | k + 1,acc=>by
   have e:acc.toArray++its.toArray=(acc++its).toArray:=by simp
   have e2:(acc++its)++(List.replicate k its).flatten=acc++(List.replicate (k + 1) its).flatten:=by
     rw [List.replicate_succ,List.flatten_cons,List.append_assoc]
   rw [<- e2,<- foldl_rep its k (acc++its),<- e,List.replicate_succ,List.foldl_cons]
section
variable {X:Cx} {pins:List (Addr × Obj)} {σ:St} {H:Hp} {s:Shared} {l b:Addr} {xs ys zs:List V}
theorem Inv.uY {its its':List Value} {n:Nat} {f:Array Value->Array Value} {t':Nat} (I:Inv X pins σ H s) (hH:H l=some (.lst xs))
   (e:s.heap.get? l=some { cls:=.type "list",data:=.seq its.toArray n }) (hf:f its.toArray=its'.toArray) (hv:Vals ys its') (hz:ys.length<=sizeLine) :
   Inv X pins σ (upd H l (.lst ys)) { s with heap:=s.heap.update l (Obj.mapSeq f),toks:=t' }:=by
 have q:=PySem.IsL.update e f
 rw [hf] at q
 refine I.write (x:=l) (e:=l) (by rw [hH]; exact trivial) (.inl rfl) (λb' u hb hu=>(Heap.get?_update_other s.heap (Obj.mapSeq f) (Ne.symm hb)).trans hu) ⟨_,q⟩ ?_
 exact ⟨hz,its',_,hv,q⟩
theorem Inv.zu {its:List Value} {t':Nat} (I:Inv X pins σ H s) (hv:Vals ys its) (hz:ys.length<=sizeLine) :
   Inv X pins σ (upd H s.heap.objs.size (.lst ys)) { s with heap:=s.heap.push { cls:=.type "list",data:=.seq its.toArray },toks:=t' }:=
 I.laid (λ_ _ q=>Heap.get?_push_of_some _ q) (Nat.le_refl _) ⟨hz,its,0,hv,Heap.get?_push_size _ rfl⟩
theorem Inv.fresh (I:Inv X pins σ H s):H s.heap.objs.size=none:=I.hok.fresh (Nat.le_refl _)
theorem Inv.sY (I:Inv X pins σ H s) (hH:H l=some (.lst xs)):xs.length<=sizeLine/\∃ (its:List Value) (n:Nat),Vals xs its/\xs.length=its.length/\s.heap.get? l=some { cls:=.type "list",data:=.seq its.toArray n }:=by
 obtain ⟨z,its,n,r,e⟩:=I.hok l _ hH
 exact ⟨z,its,n,r,r.length,e⟩
theorem nQ {n:Nat} (h:n<=sizeLine):Builtin.List.listTooLong n=false:=by
 unfold Builtin.List.listTooLong
 exact decide_eq_false (by omega)
end
section
variable {X:Cx}
noncomputable def vB:V->List V->Hp->VK->Prop:=λx vs H Q=>∃ l xs y,x=.ref l/\vs=[y]/\H l=some (.lst xs)/\xs.length < sizeLine/\Q .non (upd H l (.lst (xs++[y])))
theorem iI:MtM X "list.append" vB:=by
 intro pins s σ H x vs v us Q I rx rv h
 obtain ⟨l,xs,y,rfl,rfl,hH,hz,q⟩:=h
 cases rx
 obtain ⟨u,rfl,ru⟩:=rv.one
 obtain ⟨z,its,n,r,hl,e⟩:=I.sY hH
 refine call_meets F.slot_list_append ⟨_,e,rfl⟩ F.entry_list_append (F.args_list_append_2 _ _) (PySem.list_append l its.toArray n u (by rw [List.size_toArray]; omega)) ⟨e,?_⟩
 refine ⟨.non,_,I.uY (its':=its++[u]) hH e (by simp) (r.append (.cons ru .nil)) ?_,rfl,q⟩
 rw [List.length_append,List.length_singleton]
 omega
noncomputable def wb:V->List V->Hp->VK->Prop:=λx vs H Q=>∃ l b xs zs,x=.ref l/\vs=[.ref b]/\H l=some (.lst xs)/\H b=some (.lst zs)/\xs.length + zs.length<=sizeLine/\Q .non (upd H l (.lst (xs++zs)))
theorem rB:MtM X "list.extend" wb:=by
 intro pins s σ H x vs v us Q I rx rv h
 obtain ⟨l,b,xs,zs,rfl,rfl,hH,hB,hz,q⟩:=h
 cases rx
 obtain ⟨u,rfl,ru⟩:=rv.one
 cases ru
 obtain ⟨z,its,n,r,hl,e⟩:=I.sY hH
 obtain ⟨z2,its2,n2,r2,hl2,e2⟩:=I.sY hB
 have hsz:its.toArray.size + its2.toArray.size<=sizeLine:=by rw [List.size_toArray,List.size_toArray]; omega
 have hlong:¬ (!its.toArray.isEmpty && Builtin.List.listTooLong (its.toArray.size + its2.toArray.size))=true:=by
   rw [nQ hsz,Bool.and_false]
   exact Bool.false_ne_true
 refine call_meets F.slot_list_extend ⟨_,e,rfl⟩ F.entry_list_extend (F.args_list_extend_2 _ _)
   (AutoSeq1.list_extend_list_list_0 l its.toArray n b its2.toArray n2 hlong (by rw [List.size_toArray]; omega) (by omega)) ⟨e,e2,?_⟩
 refine ⟨.non,_,I.uY (its':=its++its2) hH e (by simp) (r.append r2) ?_,rfl,q⟩
 rw [List.length_append]
 omega
noncomputable def yQ:V->List V->Hp->VK->Prop:=λx vs H Q=>∃ l xs i k y,x=.ref l/\vs=[.int i]/\H l=some (.lst xs)/\-(2 ^ 63)<=i/\i < 2 ^ 63/\seqIndex? i xs.length=some k/\xs[k]?=some y/\Q y (upd H l (.lst (xs.eraseIdx k)))
theorem tJ:MtM X "list.pop" yQ:=by
 intro pins s σ H x vs v us Q I rx rv h
 obtain ⟨l,xs,i,k,y,rfl,rfl,hH,h1,h2,hk,hy,q⟩:=h
 cases rx
 obtain ⟨u,rfl,ru⟩:=rv.one
 obtain ⟨t,rfl⟩:=ru
 obtain ⟨z,its,n,r,hl,e⟩:=I.sY hH
 obtain ⟨w,hw,rw'⟩:=r.get hy
 refine call_meets F.slot_list_pop ⟨_,e,rfl⟩ F.entry_list_pop (F.args_list_pop_2 _ _)
   (MeetsSeq.list_pop_at l its.toArray n i t k w (fitsIndex_both h1 h2) (by rw [List.size_toArray,<- hl]; exact hk) (by rw [<- Array.getElem?_toList]; exact hw) (by rw [List.size_toArray]; omega)) ⟨e,?_⟩
 refine ⟨y,_,I.uY (its':=its.eraseIdx k) hH e ?_ (r.eraseIdx k) ?_,rw',q⟩
 · show its.toArray.eraseIdxIfInBounds k=(its.eraseIdx k).toArray
   rw [List.eraseIdxIfInBounds_toArray]
 · have:=kQ xs k
   omega
theorem len_rep {α:Type} (xs:List α) (k:Nat):(List.replicate k xs).flatten.length=k * xs.length:=by
 induction k with
 | zero=>simp
 | succ k ih=>rw [List.replicate_succ,List.flatten_cons,List.length_append,ih,Nat.succ_mul,Nat.add_comm]
end
section
variable {prog:Program} {w:World} {A:Around} {E:Value->Shared->Prop} {s:Shared}
end
section
variable {X:Cx}
end
end L2
namespace Att
open PySem PySem.W PySem.Calls PyProof.Rows
theorem jb {P:Params} {h:Heap}:∀ (ns:List Int) (vs:List Value),WellAll P h vs (ns.map WData.int)->IntsAre vs ns:=by
 intro ns
 induction ns with
 | nil=>
   intro vs w
   rw [List.map_nil] at w
   cases w
   exact .nil
 | cons n ns ih=>
   intro vs w
   rw [List.map_cons] at w
   cases w with
   | cons a b=>
     cases a
     exact .cons _ _ (ih _ b)
theorem rM {l:OpenLaw} {n:Nat} (hn:l.most=some n) {P:Params} {h:Heap} {args:List WData} {vals:List Value}
   (hpre:l.row.toRowW.claim.pre args=true) (hwl:WellAll P h vals args) :
   ∃ a vs ns,vals=[Value.ref a]/\args=[WData.list (ns.map WData.int)]/\h.get? a=some { cls:=.type "list",data:=.seq vs.toArray }/\IntsAre vs ns/\ns.length<=n:=by
 have hsh:WShape.hasAll [] args [.list .int]=true:=(pre_splitW hpre).1
 have hc:l.pre.holds [] { args:=args }=true:=(pre_splitW hpre).2
 obtain ⟨d,r,rfl,h1,h2⟩:=hasAllW_cons hsh
 obtain rfl:=hasAllW_nil h2
 obtain ⟨xs,rfl,h3⟩:=hasW_list h1
 obtain ⟨ns,rfl⟩:=items_int h3
 have hlen:ns.length<=n:=by
   unfold OpenLaw.pre at hc
   have h4:(WTm.not (.lt (.lit (.int (n:Int))) (.len (.arg 0)))).holds [] { args:=[.list (ns.map .int)] }=true:=by
     have h4:=(holds_andW hc).1
     rw [hn] at h4
     exact h4
   have h5:=condW_of h4 (w_not (w_lt w_lit (w_len_list (w_arg rfl))))
   rw [List.length_map] at h5
   refine Nat.le_of_not_lt λq=>?_
   have q':(n:Int) < ((ns.length:Nat):Int):=by omega
   first
     | (rw [decide_eq_true q'] at h5; exact absurd h5 (by decide))
     | (simp at h5; omega)
 cases hwl with
 | cons w1 w2=>
   cases w2
   cases w1 with
   | list ho hall=>exact ⟨_,_,ns,rfl,rfl,ho,jb ns _ hall,hlen⟩
theorem rA (l:OpenLaw) (args:List WData):l.row.toRowW.claim.post args (.bool true) args=true:=
 postW_of (r:=l.row.toRowW) (X:=(true == true))
   (show WShape.has [] (.bool true) .bool=true by first | rfl | decide | simp [WShape.has,WShape.arms,WShape.armsAll])
   (show (WTm.eq .res (.lit (.bool true))).value [] { args:=args,res:=some (.bool true),after:=args }=some (.bool (true == true)) from w_eq_bool (w_res rfl) w_lit) rfl
theorem nG {l:OpenLaw} {n:Nat} {q:Program} {loose:List Str} {XP:(Str->Option Value)->Heap->Prop} {YP:World->Heap->Prop} {d:DefRec}
   (hn:l.most=some n) (hdf:d.params.defaults=[])
   (call:∀ (w:World) (s₀ s₁:Shared) (mg mb:Str->Option Value) (fa:Addr) (o:Obj) (pm cd doc:Value) (a:Addr) (vs:List Value) (ns:List Int),
     Ground q loose [] XP w s₀ mg mb s₁.heap->YP w s₁.heap ->
     s₁.heap.get? fa=some o->o.data=.func (docDef d.name d.params d.body d.scope pm cd doc)->s₁.heap.CodeRec cd d.name->mg d.name=some (.ref fa) ->
     s₁.heap.get? a=some { cls:=.type "list",data:=.seq vs.toArray }->IntsAre vs ns->ns.length<=n->s₁.gens=#[] ->
     codeAny (model l.prog w) callerA (.call (.ref fa) ⟨[.ref a],[]⟩) (λr s'=>r=.ok (.ret (.bool true))/\OldK s₁.heap s'.heap/\s'.os=s₁.os/\AllBare s'.gens) s₁) :
   WalkO q loose XP YP l.row.toRowW d [] (λf vs=>PySem.call f vs):=by
 intro w s₀ s₁ mg mb G Y fa o pm cd doc dV kV ho hd hcd hD hmg hg args vals as hpre hlay hrd hwl hlo
 obtain rfl:dV=.none:=Dflts.none hD hdf
 obtain rfl:kV=.none:=Dflts.noKw hD
 obtain ⟨a,vs,ns,rfl,rfl,hobj,hints,hlen⟩:=rM hn hpre hwl
 refine enter_call (codeAny_mono (call w s₀ s₁ mg mb fa o pm cd doc a vs ns G Y ho (fd_plain hd) hcd hmg hobj hints hlen hg) λr s' hq=>?_)
 obtain ⟨rfl,h2,h3,h4⟩:=hq
 exact ⟨.inl ⟨.bool true,.bool true,[],rfl,λ_=>rfl,.bool true,rA l _,λ_=>⟨List.Pairwise.nil,λ_ hm=>(nomatch hm)⟩⟩,h2,h3,h4⟩
section
variable {prog:Program} {w:World} {A:Around} {E:Value->Shared->Prop} {s:Shared} {K:Frag}
end
end Att
namespace L2
open PySem PySem.Spec PyProof.Rows
theorem lA:∀ {vs:List Value} {ns:List Int},IntsAre vs ns->Vals (ns.map V.int) vs
 | _,_,.nil=>.nil
 | _,_,.cons n t h=>.cons ⟨t,rfl⟩ (lA h)
noncomputable def xH (H:Hp):Prop:=∀ b,H b=none\/∃ o xs,H b=some (.frz o (.lst xs))
theorem tT {P:Program} {w:World} {K:PySem.W.Frag} {mg mb:Str->Option Value} {CX:CXT} {k:Nat} {fa a:Addr} {fd:FuncData} {x:Str} {sp:Sp} {s₁:Shared} {vs:List Value} {ns:List Int}
   (KX:K.In s₁.heap) (hns:s₁.heap.Ns mainGlobals mg) (hb:s₁.heap.Ns builtinsNs mb) (hbb:∀ x:Str,x ≠ "__name__" -> mb x=bootBuiltins x) (hlim:s₁.heap.NoLimit) (hg:s₁.gens=#[])
   (ha:s₁.heap.get? a=some { cls:=.type "list",data:=.seq vs.toArray }) (hi:IntsAre vs ns) (hl:ns.length<=sizeLine) (hr:dM k callerA)
   (F:∀ base:Heap,K.In base->base.Ns mainGlobals mg->aJ P w K mg base CX k fa fd [x] sp) (hbind:∀ (s:Shared) (u:Value),BindsTo s fd ⟨[u],[]⟩ [(x,u)])
   (hsp:∀ H:Hp,xH H->SqL K H a (ns.map V.int)->sp [.ref a] H (λv _=>v=.bl true) λ_ _ _=>False)
   (hCX:∀ H e s',CX [] H s₁ (λ_ _ _=>False) e s'->False) :
   codeAny (model P w) callerA (.call (.ref fa) ⟨[.ref a],[]⟩) (λr s'=>r=.ok (.ret (.bool true))/\OldK s₁.heap s'.heap/\s'.os=s₁.os/\AllBare s'.gens) s₁:=by
 have rv:=lA hi
 have lenV:=hi.length
 have core:∀ H:Hp,xH H->SqL K H a (ns.map V.int)->HOk P w H s₁.heap->(∀ b,H b ≠ none->b=a)->(H a ≠ none->K.lookup a=none) ->
     codeAny (model P w) callerA (.call (.ref fa) ⟨[.ref a],[]⟩) (λr s'=>r=.ok (.ret (.bool true))/\OldK s₁.heap s'.heap/\s'.os=s₁.os/\AllBare s'.gens) s₁:=by
   intro H hO hS hok hA hK
   have base_of:∀ {b:Addr} {o:Obj},s₁.heap.get? b=some o->H b=none->(mz s₁.heap H).get? b=some o:=λe n=>uG e n
   have noA:∀ {b:Addr} {o:Obj} {es:Array DictEntry} {ep:Nat},s₁.heap.get? b=some o->o.data=.dict es ep->H b=none:=λ{b o es ep} e d=>by
     cases q:H b with
     | none=>rfl
     | some u=>
       have e':b=a:=hA b (by rw [q]; simp)
       subst e'
       rw [ha] at e; cases e
       have d':Data.seq vs.toArray _=Data.dict es ep:=d
       cases d'
   have nsK:∀ {b:Addr} {m:Str->Option Value},s₁.heap.Ns b m->(mz s₁.heap H).Ns b m:=λ{b m} ⟨o,es,ep,e,d,r⟩=>⟨o,es,ep,base_of e (noA e d),d,r⟩
   have hKb:K.In (mz s₁.heap H):=λb o e=>base_of (KX b o e) (by
     cases q:H b with
     | none=>rfl
     | some u=>
       have e':b=a:=hA b (by rw [q]; simp)
       subst e'
       rw [hK (by rw [q]; simp)] at e; cases e)
   have hM:Mod K mg (mz s₁.heap H):=⟨hKb,nsK hns,⟨mb,nsK hb,hbb⟩,let ⟨mc,h1,h2⟩:=hlim; ⟨mc,nsK h1,h2⟩⟩
   have e0:sI P w K mg (mz s₁.heap H) callerA [] s₁ H:=⟨rfl,hM,λb o e=>uV e,Nat.le_of_eq (rV _ _),trivial,λb hb=>absurd (show b ∈ ([]:List Addr) from hb) (by simp),hok,.of_eq hg⟩
   refine codeAny_mono ((F _ hKb (nsK hns)).run callerA [] s₁ H ⟨[.ref a],[]⟩ [.ref a] [.ref a] _ _ hr e0 (hbind s₁ (.ref a)) (.cons rfl .nil) (hsp H hO hS)) λr s' h=>?_
   cases r with
   | error e=>exact (hCX H e s' h).elim
   | ok fl=>
     cases fl with
     | next=>exact False.elim h
     | brk=>exact False.elim h
     | cont=>exact False.elim h
     | ret u=>
       obtain ⟨v,H',os,bare,un,hok',r',q⟩:=h
       have q':v=.bl true:=q
       subst q'
       obtain rfl:u=Value.bool true:=r'
       refine ⟨rfl,OldK.of_keep λb o e=>?_,os,bare⟩
       cases q:H b with
       | none=>exact un.keep b o e q (by intro z; exact absurd (show b ∈ ([]:List Addr) from z) (by simp)) (by simp)
       | some u=>
         rcases hO b with z | ⟨ob,xs,z⟩
         · rw [q] at z; cases z
         · have z2:=un.frzs b ob _ z
           obtain ⟨e1,_⟩:=hok b _ z
           obtain ⟨e2,_⟩:=hok' b _ z2
           rw [e] at e1; cases e1
           exact e2
 cases hk:K.lookup a with
 | some o=>
   have e:=KX a o hk
   rw [ha] at e
   cases e
   refine core (λ_=>none) (λ_=>.inl rfl) (.inr ⟨_,vs.toArray,_,hk,rfl,rfl,rfl,by rw [List.size_toArray,lenV]; exact hl,by simpa using rv⟩) (λb u z=>by have z':(none:Option HO)=some u:=z; cases z') (λb z=>absurd rfl z) λz=>absurd rfl z
 | none=>
   refine core (λb=>if b=a then some (.frz { cls:=.type "list",data:=.seq vs.toArray } (.lst (ns.map V.int))) else none) (λb=>?_) (.inl (.inr ⟨{ cls:=.type "list",data:=.seq vs.toArray },if_pos rfl⟩)) (λb u z=>?_) (λb z=>?_) λ_=>hk
   · by_cases hb:b=a
     · exact .inr ⟨_,_,if_pos hb⟩
     · exact .inl (if_neg hb)
   · by_cases hb:b=a
     · have z':=(if_pos hb).symm.trans z
       cases z'
       subst hb
       exact ⟨ha,by rw [List.length_map]; exact hl,vs,_,rv,ha⟩
     · have z':=(if_neg hb).symm.trans z
       cases z'
   · by_cases hb:b=a
     · exact hb
     · exact absurd (if_neg hb) z
theorem uR {l:PySem.W.OpenLaw} {n k:Nat} {q:Program} {loose:List Str} {XP:(Str->Option Value)->Heap->Prop} {YP:World->Heap->Prop} {d:DefRec} {K:Params->PySem.W.Frag} {CX:World->CXT} {sp:World->Sp} {x:Str}
   (hn:l.most=some n) (hn2:n<=sizeLine) (hdf:d.params.defaults=[]) (hr:dM k callerA)
   (hY:∀ (w:World) (h:Heap),YP w h->(K w.params).In h)
   (F:∀ (w:World) (mg:Str->Option Value) (fa:Addr) (h:Heap),(K w.params).In h->h.Ns mainGlobals mg->mg d.name=some (.ref fa) ->
     ∃ fd:FuncData,(∀ (s:Shared) (u:Value),BindsTo s fd ⟨[u],[]⟩ [(x,u)]) /\
       ∀ base:Heap,(K w.params).In base->base.Ns mainGlobals mg->aJ l.prog w (K w.params) mg base (CX w) k fa fd [x] (sp w))
   (hsp:∀ (w:World) (H:Hp) (a:Addr) (ns:List Int),ns.length<=n->xH H->SqL (K w.params) H a (ns.map V.int)->sp w [.ref a] H (λv _=>v=.bl true) λ_ _ _=>False)
   (hCX:∀ (w:World) (H:Hp) (s:Shared) (e:Value) (s':Shared),CX w [] H s (λ_ _ _=>False) e s'->False) :
   PySem.W.WalkO q loose XP YP l.row.toRowW d [] (λf vs=>PySem.call f vs):=by
 refine Att.nG hn hdf λw s₀ s₁ mg mb fa o pm cd doc a vs ns G Y ho hd hcd hmg hobj hints hlen hg=>?_
 have KX:=hY w _ Y
 obtain ⟨fd,hb,hF⟩:=F w mg fa _ KX G.T.g hmg
 exact tT KX G.T.g G.T.b G.T.builtins G.T.nolimit hg hobj hints (Nat.le_trans hlen hn2) hr hF hb (λH hO hS=>hsp w H a ns hlen hO hS) λH e s'=>hCX w H s₁ e s'
noncomputable def cG (s:Stmt):Arguments:=match s with
 | .FunctionDef _ a _ _ _ _ _ _ _ _=>a
 | _=>{ posonlyargs:=[],args:=[],vararg:=none,kwonlyargs:=[],kw_defaults:=[],kwarg:=none,defaults:=[] }
noncomputable def a7 (s:Stmt):List Stmt:=match s with
 | .FunctionDef _ _ b _ _ _ _ _ _ _=>b
 | _=>[]
noncomputable def ak (s:Stmt):Scope:=match s with
 | .FunctionDef _ _ _ _ _ _ sc _ _ _=>sc
 | _=>{ kind:=.function,names:=[],isGenerator:=false,isCoroutine:=false }
noncomputable abbrev CX0:CXT:=λ_ _ _ _ _ _=>False
noncomputable abbrev E0:XK:=λ_ _ _=>False
theorem wM {X:Cx}:Passes CX0 X E0:=λ_ _ _ _ _ _ _ h=>h.elim
structure Fun (K:PySem.W.Frag) (x qual:Str) (st:Stmt) (f:Addr) (fd:FuncData):Prop where
 ex:∃ (oc:Value) (od:Option Addr) (dV kV doc pm:Value) (an:Option Addr) (cdv ct:Value) (osl:Array (Option Value)),
   fd=PySem.W.fnOf x qual (cG st) (a7 st) (ak st) dV kV doc pm an cdv ct/\K.lookup f=some ⟨oc,od,.func fd,osl⟩/\PySem.W.codeIn K cdv qual=true
 kp:PySem.W.keepIn K (.ref f)=true
section
variable {P:Program} {w:World} {K:PySem.W.Frag} {mg:Str->Option Value} {base:Heap}
theorem Fun.ok {x qual:Str} {st:Stmt} {f:Addr} {fd:FuncData} {N ps:List Str} {k:Nat} {sp:Sp} (F:Fun K x qual st f fd) (S:ao N ps (ak st)) (len:∀ vs H Q E,sp vs H Q E->vs.length=ps.length)
   (hbody:∀ (cdv:Value) (A:Around) (outer:List Env) (s:Shared) (H:Hp) (vs:List V) (Q:VK) (E:XK),dM k (A.deeper (envOfC qual (ak st) s.heap.objs.size f cdv))->sp vs H Q E ->
     ∃ t,PSs (jx CX0 P w K mg base N qual (ak st) f cdv A outer s H E).nox (a7 st) t/\t { nx:=λ_ H'=>Q .non H',rt:=Q } (start N vs) H):aJ P w K mg base CX0 (k + 1) f fd ps sp:=by
 obtain ⟨oc,od,dV,kV,doc,pm,an,cdv,ct,osl,rfl,lk,hcd⟩:=F.ex
 refine wo lk hcd S len λA outer s H vs Q E hr hsp=>?_
 obtain ⟨t,h,q⟩:=hbody cdv A outer s H vs Q E hr hsp
 exact ⟨t,h.nox,q⟩
theorem Fun.binds {x qual:Str} {st:Stmt} {f:Addr} {fd:FuncData} {ps:List Str} (_:Fun K x qual st f fd) (h:∀ us:List Value,us.length=ps.length->bindArgs fd ⟨us,[]⟩=pure (ps.zip us)):Binds K fd ps []:=.all h
theorem pH {x qual:Str} {st:Stmt} {f:Addr} {oc:Value} {od an:Option Addr} {osl:Array (Option Value)} {dV kV doc pm cdv ct:Value} (l:K.lookup f=some ⟨oc,od,.func (PySem.W.fnOf x qual (cG st) (a7 st) (ak st) dV kV doc pm an cdv ct),osl⟩)
   (c:PySem.W.codeIn K cdv qual=true) (k:PySem.W.keepIn K (.ref f)=true):Fun K x qual st f (PySem.W.fnOf x qual (cG st) (a7 st) (ak st) dV kV doc pm an cdv ct):=⟨⟨oc,od,dV,kV,doc,pm,an,cdv,ct,osl,rfl,l,c⟩,k⟩
end
theorem iy {n:Nat} (h:n<=1000):n < sizeLine:=Nat.lt_of_le_of_lt h (by decide)
section
variable {X:Cx}
end
theorem qY {A B:Prop} (h:B):if false=true then A else B:=by
 rw [if_neg Bool.false_ne_true]
 exact h
theorem rE {A B:Prop} (h:A):if true=true then A else B:=by
 rw [if_pos rfl]
 exact h
noncomputable def aq (H H':Hp):Prop:=∀ b o,H b=some o->H' b=some o
theorem aq.refl (H:Hp):aq H H:=λ_ _ h=>h
theorem aq.trans {H H1 H2:Hp} (a:aq H H1) (b:aq H1 H2):aq H H2:=λc o h=>b c o (a c o h)
theorem aq.free {H H':Hp} (e:aq H H') {l:Addr} (h:H' l=Option.none):H l=Option.none:=by
 cases q:H l with
 | none=>rfl
 | some o=>
   rw [e l o q] at h
   cases h
theorem aq.seq {K:PySem.W.Frag} {H H':Hp} {a:Addr} {xs:List V} (e:aq H H') (h:SqL K H a xs):SqL K H' a xs:=by
 rcases h with (h | ⟨o,h⟩) | h
 · exact .inl (.inl (e _ _ h))
 · exact .inl (.inr ⟨o,e _ _ h⟩)
 · exact .inr h
end L2
set_option linter.all false
set_option maxRecDepth 100000
namespace Ev
open PySem PySem.Spec PyProof.Rows L2
structure Bx where
 p:PySem.W.Frag->Hp->Addr->Prop
 mono:∀ {K:PySem.W.Frag} {H H':Hp} {a:Addr},aq H H'->p K H a->p K H' a
 isd:∀ {K:PySem.W.Frag} {H:Hp} {a:Addr},p K H a->∃ o:HO,H a=some o/\∀ (P:Program) (w:World) (H':Hp) (h:Heap),bZ P w H' h a o->∃ ob,h.get? a=some ob/\ob.cls=.type "dict"
inductive D where
 | non | bl (b:Bool) | int (i:Int) | str (x:Str) | tup (xs:List D) | lst (xs:List D) | box (x:Bx)
noncomputable instance:Inhabited D:=⟨.non⟩
mutual
inductive Den (K:PySem.W.Frag) (H:Hp):V->D->Prop where
 | non:Den K H .non .non
 | bl {b:Bool}:Den K H (.bl b) (.bl b)
 | int {i:Int}:Den K H (.int i) (.int i)
 | str {x:Str}:Den K H (.str x) (.str x)
 | tup {a:Addr} {vs:List V} {ds:List D} (h:SqT K H a vs) (r:au K H vs ds):Den K H (.ref a) (.tup ds)
 | lst {a:Addr} {vs:List V} {ds:List D} (h:SqL K H a vs) (r:au K H vs ds):Den K H (.ref a) (.lst ds)
 | box {a:Addr} {x:Bx} (h:x.p K H a):Den K H (.ref a) (.box x)
inductive au (K:PySem.W.Frag) (H:Hp):List V->List D->Prop where
 | nil:au K H [] []
 | cons {v:V} {d:D} {vs:List V} {ds:List D} (h:Den K H v d) (r:au K H vs ds):au K H (v :: vs) (d :: ds)
end
section
variable {K:PySem.W.Frag} {H H':Hp}
theorem aZ (e:aq H H') {a:Addr} {xs:List V} (h:SqT K H a xs):SqT K H' a xs:=by
 rcases h with (h | ⟨o,h⟩) | h
 · exact .inl (.inl (e _ _ h))
 · exact .inl (.inr ⟨o,e _ _ h⟩)
 · exact .inr h
theorem aP (e:aq H H') {a:Addr} {xs:List V} (h:SqL K H a xs):SqL K H' a xs:=e.seq h
mutual
theorem Den.mono (e:aq H H'):∀ {v:V} {d:D},Den K H v d->Den K H' v d
 | _,_,.non=>.non
 | _,_,.bl=>.bl
 | _,_,.int=>.int
 | _,_,.str=>.str
 | _,_,.tup h r=>.tup (aZ e h) (au.mono e r)
 | _,_,.lst h r=>.lst (aP e h) (au.mono e r)
 | _,_,.box (x:=x) h=>.box (x.mono e h)
theorem au.mono (e:aq H H'):∀ {vs:List V} {ds:List D},au K H vs ds->au K H' vs ds
 | _,_,.nil=>.nil
 | _,_,.cons h r=>.cons (Den.mono e h) (au.mono e r)
end
theorem au.length:∀ {vs:List V} {ds:List D},au K H vs ds->vs.length=ds.length
 | _,_,.nil=>rfl
 | _,_,.cons _ r=>congrArg (· + 1) r.length
theorem au.get:∀ {vs:List V} {ds:List D} {i:Nat} {d:D},au K H vs ds->ds[i]?=some d->∃ v,vs[i]?=some v/\Den K H v d
 | _,_,_,_,.nil,e=>by simp at e
 | _,_,0,_,.cons h _,e=>by simp at e; subst e; exact ⟨_,rfl,h⟩
 | _,_,i + 1,d,.cons _ r,e=>by
   obtain ⟨v,h1,h2⟩:=au.get (i:=i) (d:=d) r (by simpa using e)
   exact ⟨v,by simpa using h1,h2⟩
theorem au.append:∀ {xs ys:List V} {ds es:List D},au K H xs ds->au K H ys es->au K H (xs++ys) (ds++es)
 | _,_,_,_,.nil,s=>s
 | _,_,_,_,.cons h r,s=>.cons h (au.append r s)
theorem au.take:∀ {xs:List V} {ds:List D} (n:Nat),au K H xs ds->au K H (xs.take n) (ds.take n)
 | _,_,0,_=>.nil
 | _,_,_ + 1,.nil=>.nil
 | _,_,n + 1,.cons h r=>.cons h (au.take n r)
theorem au.drop:∀ {xs:List V} {ds:List D} (n:Nat),au K H xs ds->au K H (xs.drop n) (ds.drop n)
 | _,_,0,r=>r
 | _,_,_ + 1,.nil=>.nil
 | _,_,n + 1,.cons _ r=>au.drop n r
end
noncomputable def aG (i j:Int):Prop:=i.natAbs.log2 < 64\/j.natAbs.log2 < 64\/(i.natAbs.log2 < 1000000/\j.natAbs.log2 < 1000000)
noncomputable def aE (j:Int):Prop:=j ≠ 0/\j.natAbs.log2 < 9000
theorem ar {H:Hp} {p:Addr} (h:H p=none) (o:HO):aq H (upd H p o):=λb u q=>by rw [aC (aD q h)]; exact q
noncomputable def Ite (K:PySem.W.Frag) (a:Addr):L2.It:=
 ⟨λi H=>∃ xs x,SqL K H a xs/\xs[i]?=some x,λi H v H'=>∃ p x,H p=none/\v=.ref p/\H'=upd H p (.tup [.int (i:Nat),x])/\∀ xs,SqL K H a xs->xs[i]?=some x,λi H=>∃ xs,SqL K H a xs/\xs.length<=i⟩
theorem rb {P:Program} {w:World} {K:PySem.W.Frag} {ts:List Expr} {q:Nat} {tp:Pos} (a e it:Addr) (hne:e ≠ it) :
   Turn P w K false (.Tuple ts q tp) (Ite K a) [e,it] e (λi h=>(∃ old,IsEnum h e it (i:Nat) old)/\h.IsListIter it a i) where
 mem:=by simp
 obj:=λi h st b hb=>by
   obtain ⟨⟨old,h1⟩,o,h2,h3,h4⟩:=st
   rcases List.mem_cons.mp hb with rfl | hb
   · exact ⟨_,h1,λv z=>nomatch z⟩
   · have z:b=it:=by simpa using hb
     subst z
     exact ⟨o,h2,λv z=>by rw [h4] at z; cases z⟩
 keep:=λi h h' st k=>by
   obtain ⟨⟨old,h1⟩,o,h2,h3,h4⟩:=st
   exact ⟨⟨old,k e (by simp) _ h1⟩,o,k it (by simp) o h2,h3,h4⟩
 item:=by
   intro X hP hw hK hc i pins s σ H E I hf st hg
   subst hP hw hK
   obtain ⟨xs,x,hq,hx⟩:=hg
   obtain ⟨its,rv,p,hz⟩:=I.list hq
   obtain ⟨u,hu,ru⟩:=rv.get hx
   obtain ⟨⟨old,h1⟩,h2⟩:=st
   have fe:=hf e (by simp)
   have fi:=hf it (by simp)
   refine wpAny_pyNext_enum_item h1 h2 p.isList (x:=u) (by simpa using hu) hne λh' g1 g2 g3 g4 g5=>⟨_,rfl,?_⟩
   refine wpAny_letOwnedTupleGo_enum (s:={ s with heap:=h',toks:=s.toks + 1 }) g1 λh2' k1 k2=>?_
   have hn:H s.heap.objs.size=none:=I.hok.fresh (Nat.le_refl _)
   have le1:e < s.heap.objs.size:=Heap.lt_size h1
   have le2:it < s.heap.objs.size:=by obtain ⟨o,z,_⟩:=h2; exact Heap.lt_size z
   have kp:∀ b o,b ≠ e->b ≠ it->s.heap.get? b=some o->h2'.get? b=some o:=λb o b1 b2 z=>(k2.2 b b1).trans (g5 b o b1 b2 z)
   have nt:h2'.get? s.heap.objs.size=some { cls:=.type "tuple",data:=.seq #[.int (i:Nat) s.toks,u] }:=(k2.2 _ (Nat.ne_of_gt le1)).trans g3
   have ne1:∀ b v,H b=some v->b ≠ e:=λb v z q=>by rw [q,fe.1] at z; cases z
   have ne2:∀ b v,H b=some v->b ≠ it:=λb v z q=>by rw [q,fi.1] at z; cases z
   have hok0:HOk X.prog X.w H h2':=λb v z=>(I.hok b v z).ft (λc v' hc' q=>kp c v' (by
       rcases hc' with hc' | hc'
       · rw [hc']; exact ne1 b v z
       · exact ne1 c _ hc') (by
       rcases hc' with hc' | hc'
       · rw [hc']; exact ne2 b v z
       · exact ne2 c _ hc') q) (λ_ q=>q) λ_ _ q=>q
   have hok1:HOk X.prog X.w (upd H s.heap.objs.size (.tup [.int (i:Nat),x])) h2':=λb v z=>by
     by_cases hb:b=s.heap.objs.size
     · subst hb
       rw [aL] at z; cases z
       exact ⟨(by show 2<=sizeLine; decide),[.int (i:Nat) s.toks,u],.cons ⟨_,rfl⟩ (.cons ru .nil),_,nt,rfl,_,rfl⟩
     · rw [aC hb] at z
       exact (hok0 b v z).ft (λc v' _ q=>q) (λc q=>by rw [aC (aD q hn)]; exact q) λc ys q=>by rw [aC (aD q hn)]; exact q
   have I1:Inv X pins σ (upd H s.heap.objs.size (.tup [.int (i:Nat),x])) { s with heap:=h2',toks:=s.toks + 1 }:=by
     refine I.step (g':=s.gens) (d':=s.drawn) (ch:=[e,it]) (λb hb=>?_) (λb o _ _ hc' z _=>kp b o (λq=>hc' (by simp [q])) (λq=>hc' (by simp [q])) z)
       (λb o _ _ hc' z _=>⟨o.slots,kp b o (λq=>hc' (by simp [q])) (λq=>hc' (by simp [q])) z⟩)
       (λb o hc' z n=>by rw [aC (Nat.ne_of_lt (Heap.lt_size z))]; exact n) (λb o hc' z=>⟨o,kp b o (λq=>hc' (by simp [q])) (λq=>hc' (by simp [q])) z⟩)
       (λb ys z=>by rw [aC (aD z hn)]; exact z) (λb o u z=>by rw [aC (aD z hn)]; exact z) (λb ps z=>⟨#[],by rw [aC (aD z hn),z]; simp⟩) (λm hm=>?_) hok1 I.bare
     · rcases List.mem_cons.mp hb with rfl | hb
       · exact ⟨fe.2.2.2.1,fe.2.1,fe.2.2.2.2.1,fe.2.2.2.2.2⟩
       · have z:b=it:=by simpa using hb
         subst z
         exact ⟨fi.2.2.2.1,fi.2.1,fi.2.2.2.2.1,fi.2.2.2.2.2⟩
     · obtain ⟨o,es,ep,ho,r⟩:=hm
       exact ⟨o,es,ep,kp _ o (Ne.symm fe.2.1) (Ne.symm fi.2.1) ho,r⟩
   refine ⟨.ref s.heap.objs.size,_,I1,rfl,⟨s.heap.objs.size,x,hn,rfl,rfl,λys hy=>by rw [I.g8 hy hq]; exact hx⟩,⟨⟨_,k1⟩,?_⟩,λb hb=>?_⟩
   · obtain ⟨o,z1,z2,z3⟩:=g2
     exact ⟨o,(k2.2 it (Ne.symm hne)).trans z1,z2,z3⟩
   · rcases List.mem_cons.mp hb with rfl | hb
     · rw [aC (Nat.ne_of_lt le1)]; exact fe.1
     · have z:b=it:=by simpa using hb
       subst z
       rw [aC (Nat.ne_of_lt le2)]; exact fi.1
 done:=by
   intro X hP hw hK hc i pins s σ H E I hf st hg
   subst hP hw hK
   obtain ⟨xs,hq,hx⟩:=hg
   obtain ⟨its,rv,p,hz⟩:=I.list hq
   obtain ⟨⟨old,h1⟩,h2⟩:=st
   obtain ⟨f0,f1,f2,f3,f4,f5⟩:=hf it (by simp)
   have hl:=rv.length
   exact wpAny_pyNext_enum_end (I.ok.hd hc.calm) h1 h2 p.isList (by simp; omega) λh' eb=>⟨rfl,I.turned (t':=s.toks) (λb o hb z=>eb b o hb z) f0 f1 f3 f4 f5⟩
 self:=λ_ _ _ _ _ st h=>by
   obtain ⟨⟨old,h1⟩,_⟩:=st
   exact wpAny_pyIter_enum h1 h
section
variable {X:Cx}
noncomputable def Ao (K:PySem.W.Frag) (ta:TA):TI:=λσ H R=>ta σ H λvs H1=>∃ a,vs=[.ref a]/\(∃ xs,SqL K H1 a xs)/\R (Ite K a) H1
theorem rF:bootBuiltins "enumerate" = some (.type "enumerate"):=by decide +kernel
theorem qA {ts:List Expr} {q:Nat} {tp:Pos} {a:Expr} {ta:TA} {p pos:Pos} (hc:X.calm=true) (hg:Gl X "enumerate") (hm:X.mg "enumerate" = none) (ha:PA X [a] ta) (hs:starEach [a] X.env=[(false,eval a X.env)]) :
   PI X (.Tuple ts q tp) (.Call (.Name "enumerate" p) [a] [] pos) (Ao X.K ta):=by
 intro pins s σ H R I h
 refine Call_ (gC I hg hm rF (PyProof.Rows.callWith_type1 (thn (ha pos pins s σ H _ I h) λus s1 ⟨vs,H1,I1,r1,q1⟩=>?_) hs rfl))
 obtain ⟨l,e,⟨xs,hq⟩,q⟩:=q1
 subst e
 obtain ⟨u,rfl,ru⟩:=vals1 r1
 cases ru
 obtain ⟨its,rv,pl,hz⟩:=I1.list hq
 refine call_enumerate_list pl.isList λh' g1 g2 g3 g4=>?_
 refine wpAny_pyIter_enum (s:={ s1 with heap:=h' }) g1 ?_
 have I2:Inv X pins σ H1 { s1 with heap:=h' }:=I1.kept (t':=s1.toks) g4
 have n1:H1 (s1.heap.objs.size + 1)=none:=I1.hok.fresh (by omega)
 have n2:H1 s1.heap.objs.size=none:=I1.hok.fresh (Nat.le_refl _)
 refine ⟨false,s1.heap.objs.size + 1,[s1.heap.objs.size + 1,s1.heap.objs.size],_,_,H1,rfl,I2,.inl hc,rb l (s1.heap.objs.size + 1) s1.heap.objs.size (Nat.succ_ne_self _),⟨⟨_,g1⟩,g2⟩,λb hb=>?_,q⟩
 rcases List.mem_cons.mp hb with rfl | hb
 · exact I1.oU (by omega) n1
 · have z:b=s1.heap.objs.size:=by simpa using hb
   subst z
   exact I1.oU (Nat.le_refl _) n2
end
noncomputable def Itz (K:PySem.W.Frag) (a b:Addr):L2.It:=
 ⟨λi H=>∃ xs ys x y,SqL K H a xs/\SqL K H b ys/\xs[i]?=some x/\ys[i]?=some y,
  λi H v H'=>∃ p x y,H p=none/\v=.ref p/\H'=upd H p (.tup [x,y])/\(∀ xs,SqL K H a xs->xs[i]?=some x)/\∀ ys,SqL K H b ys->ys[i]?=some y,
  λi H=>∃ xs ys,SqL K H a xs/\SqL K H b ys/\(xs.length<=i\/ys.length<=i)⟩
noncomputable def zSt (a b z TI TO i1 i2:Addr) (i:Nat) (h:Heap):Prop:=
 IsZip h z TI TO .none/\IsPair h TI (.ref i1) (.ref i2)/\(∃ u v,IsPair h TO u v)/\h.IsListIter i1 a i/\h.IsListIter i2 b i
theorem kF {h:Heap} {a b z TI TO i1 i2:Addr} {i:Nat} {xs ys:Array Value} (n:TI ≠ TO) (m:i1 ≠ i2) (s:zSt a b z TI TO i1 i2 i h) (l1:h.IsList a xs) (l2:h.IsList b ys):ZipApart z TI TO i1 i2 a b:=by
 obtain ⟨h1,h2,⟨u,v,h3⟩,⟨o4,h4,c4,d4⟩,⟨o5,h5,c5,d5⟩⟩:=s
 obtain ⟨o6,h6,c6,n6,d6⟩:=l1
 obtain ⟨o7,h7,c7,n7,d7⟩:=l2
 have kk:∀ {x y:Addr} {o p:Obj},h.get? x=some o->h.get? y=some p->o.cls ≠ p.cls->x ≠ y:=λe1 e2 c q=>by subst q; rw [e1] at e2; cases e2; exact c rfl
 have cz:∀ {s t:String},s ≠ t->Value.type s ≠ Value.type t:=λn q=>n (by cases q; rfl)
 refine ⟨kk h2 h1 (cz (by decide)),kk h3 h1 (cz (by decide)),kk h4 h1 ?_,kk h5 h1 ?_,n,kk h2 h4 ?_,kk h2 h5 ?_,kk h3 h4 ?_,kk h3 h5 ?_,m,kk h6 h1 ?_,kk h6 h3 ?_,kk h6 h4 ?_,kk h6 h5 ?_,kk h7 h1 ?_,kk h7 h3 ?_,kk h7 h4 ?_,kk h7 h5 ?_⟩
 all_goals first | (rw [c4]; exact cz (by decide)) | (rw [c5]; exact cz (by decide)) | (rw [c6]; exact cz (by decide)) | (rw [c7]; exact cz (by decide)) | (rw [c6,c4]; exact cz (by decide)) | (rw [c6,c5]; exact cz (by decide)) | (rw [c7,c4]; exact cz (by decide)) | (rw [c7,c5]; exact cz (by decide))
theorem ux {P:Program} {w:World} {K:PySem.W.Frag} {ts:List Expr} {q:Nat} {tp:Pos} (a b z TI TO i1 i2:Addr) (nT:TI ≠ TO) (nI:i1 ≠ i2) :
   Turn P w K false (.Tuple ts q tp) (Itz K a b) [z,TI,TO,i1,i2] z (zSt a b z TI TO i1 i2) where
 mem:=by simp
 obj:=λi h st c hb=>by
   obtain ⟨h1,h2,⟨u,v,h3⟩,⟨o4,h4,c4,d4⟩,⟨o5,h5,c5,d5⟩⟩:=st
   simp only [List.mem_cons,List.not_mem_nil,or_false] at hb
   rcases hb with rfl | rfl | rfl | rfl | rfl
   · exact ⟨_,h1,λv z=>nomatch z⟩
   · exact ⟨_,h2,λv z=>nomatch z⟩
   · exact ⟨_,h3,λv z=>nomatch z⟩
   · exact ⟨_,h4,λv z=>by rw [d4] at z; cases z⟩
   · exact ⟨_,h5,λv z=>by rw [d5] at z; cases z⟩
 keep:=λi h h' st k=>by
   obtain ⟨h1,h2,⟨u,v,h3⟩,⟨o4,h4,c4,d4⟩,⟨o5,h5,c5,d5⟩⟩:=st
   exact ⟨k z (by simp) _ h1,k TI (by simp) _ h2,⟨u,v,k TO (by simp) _ h3⟩,⟨o4,k i1 (by simp) _ h4,c4,d4⟩,⟨o5,k i2 (by simp) _ h5,c5,d5⟩⟩
 item:=by
   intro X hP hw hK hc i pins s σ H E I hf st hg
   subst hP hw hK
   obtain ⟨xs,ys,x,y,hq1,hq2,hx,hy⟩:=hg
   obtain ⟨its1,rv1,p1,hz1⟩:=I.list hq1
   obtain ⟨its2,rv2,p2,hz2⟩:=I.list hq2
   obtain ⟨u1,hu1,ru1⟩:=rv1.get hx
   obtain ⟨u2,hu2,ru2⟩:=rv2.get hy
   have D:=kF nT nI st p1.isList p2.isList
   obtain ⟨h1,h2,⟨u,v,h3⟩,h4,h5⟩:=st
   refine wpAny_pyNext_zip_item D h1 h2 h3 h4 h5 p1.isList p2.isList (x:=u1) (y:=u2) (by simpa using hu1) (by simpa using hu2) λh' g1 g2 g3 g4 g5 g6 g7=>⟨_,rfl,?_⟩
   refine wpAny_letOwnedTupleGo_zip (s:={ s with heap:=h' }) g1 λh2' k1 k2=>?_
   have hn:H s.heap.objs.size=none:=I.hok.fresh (Nat.le_refl _)
   have le1:z < s.heap.objs.size:=Heap.lt_size h1
   have lt2:TI < s.heap.objs.size:=Heap.lt_size h2
   have lt3:TO < s.heap.objs.size:=Heap.lt_size h3
   have lt4:i1 < s.heap.objs.size:=by obtain ⟨o,z,_⟩:=h4; exact Heap.lt_size z
   have lt5:i2 < s.heap.objs.size:=by obtain ⟨o,z,_⟩:=h5; exact Heap.lt_size z
   have kp:∀ c o,c ≠ z->c ≠ TO->c ≠ i1->c ≠ i2->s.heap.get? c=some o->h2'.get? c=some o:=λc o b1 b2 b3 b4 e=>(k2.2 c b1).trans (g7 c o b1 b2 b3 b4 e)
   have nt:IsPair h2' s.heap.objs.size u1 u2:=(k2.2 _ (Nat.ne_of_gt le1)).trans g5
   have ne:∀ c,c ∈ [z,TI,TO,i1,i2]->∀ d v,H d=some v->d ≠ c:=λc hc d v e q=>by
     have:=(hf c hc).1
     rw [q,this] at e; cases e
   have hok0:HOk X.prog X.w H h2':=λd v e=>(I.hok d v e).ft (λc v' hc' q=>kp c v'
       (by rcases hc' with hc' | hc'
           · rw [hc']; exact ne z (by simp) d v e
           · exact ne z (by simp) c _ hc')
       (by rcases hc' with hc' | hc'
           · rw [hc']; exact ne TO (by simp) d v e
           · exact ne TO (by simp) c _ hc')
       (by rcases hc' with hc' | hc'
           · rw [hc']; exact ne i1 (by simp) d v e
           · exact ne i1 (by simp) c _ hc')
       (by rcases hc' with hc' | hc'
           · rw [hc']; exact ne i2 (by simp) d v e
           · exact ne i2 (by simp) c _ hc') q) (λ_ q=>q) λ_ _ q=>q
   have hok1:HOk X.prog X.w (upd H s.heap.objs.size (.tup [x,y])) h2':=λd v e=>by
     by_cases hb:d=s.heap.objs.size
     · subst hb
       rw [aL] at e; cases e
       exact ⟨(by show 2<=sizeLine; decide),[u1,u2],.cons ru1 (.cons ru2 .nil),_,nt,rfl,_,rfl⟩
     · rw [aC hb] at e
       exact (hok0 d v e).ft (λc v' _ q=>q) (λc q=>by rw [aC (aD q hn)]; exact q) λc ys q=>by rw [aC (aD q hn)]; exact q
   have I1:Inv X pins σ (upd H s.heap.objs.size (.tup [x,y])) { s with heap:=h2' }:=by
     refine I.step (t':=s.toks) (g':=s.gens) (d':=s.drawn) (ch:=[z,TO,i1,i2]) (λc hb=>?_) (λc o _ _ hc' e _=>kp c o (λq=>hc' (by simp [q])) (λq=>hc' (by simp [q])) (λq=>hc' (by simp [q])) (λq=>hc' (by simp [q])) e)
       (λc o _ _ hc' e _=>⟨o.slots,kp c o (λq=>hc' (by simp [q])) (λq=>hc' (by simp [q])) (λq=>hc' (by simp [q])) (λq=>hc' (by simp [q])) e⟩)
       (λc o hc' e n=>by rw [aC (Nat.ne_of_lt (Heap.lt_size e))]; exact n) (λc o hc' e=>⟨o,kp c o (λq=>hc' (by simp [q])) (λq=>hc' (by simp [q])) (λq=>hc' (by simp [q])) (λq=>hc' (by simp [q])) e⟩)
       (λc ys e=>by rw [aC (aD e hn)]; exact e) (λc o u e=>by rw [aC (aD e hn)]; exact e) (λc ps e=>⟨#[],by rw [aC (aD e hn),e]; simp⟩) (λm hm=>?_) hok1 I.bare
     · have hb':c ∈ [z,TI,TO,i1,i2]:=by
         simp only [List.mem_cons,List.not_mem_nil,or_false] at hb ⊢
         rcases hb with h | h | h | h <;> simp [h]
       have fe:=hf c hb'
       exact ⟨fe.2.2.2.1,fe.2.1,fe.2.2.2.2.1,fe.2.2.2.2.2⟩
     · obtain ⟨o,es,ep,ho,r⟩:=hm
       exact ⟨o,es,ep,kp _ o (Ne.symm (hf z (by simp)).2.1) (Ne.symm (hf TO (by simp)).2.1) (Ne.symm (hf i1 (by simp)).2.1) (Ne.symm (hf i2 (by simp)).2.1) ho,r⟩
   refine ⟨.ref s.heap.objs.size,_,I1,rfl,⟨s.heap.objs.size,x,y,hn,rfl,rfl,λzs hy'=>by rw [I.g8 hy' hq1]; exact hx,λzs hy'=>by rw [I.g8 hy' hq2]; exact hy⟩,⟨k1,?_,⟨u1,u2,(k2.2 TO D.TOz).trans g2⟩,?_,?_⟩,λc hb=>?_⟩
   · exact kp TI _ D.TIz D.TITO D.TIi1 D.TIi2 h2
   · obtain ⟨o,z1,z2,z3⟩:=g3
     exact ⟨o,(k2.2 i1 D.i1z).trans z1,z2,z3⟩
   · obtain ⟨o,z1,z2,z3⟩:=g4
     exact ⟨o,(k2.2 i2 D.i2z).trans z1,z2,z3⟩
   · have fc:=(hf c hb).1
     have lt:c < s.heap.objs.size:=by
       simp only [List.mem_cons,List.not_mem_nil,or_false] at hb
       rcases hb with rfl | rfl | rfl | rfl | rfl <;> assumption
     rw [aC (Nat.ne_of_lt lt)]
     exact fc
 done:=by
   intro X hP hw hK hc i pins s σ H E I hf st hg
   subst hP hw hK
   obtain ⟨xs,ys,hq1,hq2,hx⟩:=hg
   obtain ⟨its1,rv1,p1,hz1⟩:=I.list hq1
   obtain ⟨its2,rv2,p2,hz2⟩:=I.list hq2
   have D:=kF nT nI st p1.isList p2.isList
   obtain ⟨h1,h2,⟨u,v,h3⟩,h4,h5⟩:=st
   have hl1:=rv1.length
   have hl2:=rv2.length
   refine wpAny_pyNext_zip_end (I.ok.hd hc.calm) D h1 h2 h3 h4 h5 p1.isList p2.isList (by
     rcases hx with hx | hx
     · left; simp; omega
     · right; simp; omega) λh' eb=>⟨rfl,?_⟩
   have ne:∀ c,c ∈ [z,TI,TO,i1,i2]->∀ d v,H d=some v->d ≠ c:=λc hc d v e q=>by
     have:=(hf c hc).1
     rw [q,this] at e; cases e
   have hok0:HOk X.prog X.w H h':=λd v e=>(I.hok d v e).ft (λc v' hc' q=>eb c v'
       (by rcases hc' with hc' | hc'
           · rw [hc']; exact ne z (by simp) d v e
           · exact ne z (by simp) c _ hc')
       (by rcases hc' with hc' | hc'
           · rw [hc']; exact ne TO (by simp) d v e
           · exact ne TO (by simp) c _ hc')
       (by rcases hc' with hc' | hc'
           · rw [hc']; exact ne i1 (by simp) d v e
           · exact ne i1 (by simp) c _ hc')
       (by rcases hc' with hc' | hc'
           · rw [hc']; exact ne i2 (by simp) d v e
           · exact ne i2 (by simp) c _ hc') q) (λ_ q=>q) λ_ _ q=>q
   refine I.step (t':=s.toks) (g':=s.gens) (d':=s.drawn) (ch:=[z,TO,i1,i2]) (λc hb=>?_) (λc o _ _ hc' e _=>eb c o (λq=>hc' (by simp [q])) (λq=>hc' (by simp [q])) (λq=>hc' (by simp [q])) (λq=>hc' (by simp [q])) e)
       (λc o _ _ hc' e _=>⟨o.slots,eb c o (λq=>hc' (by simp [q])) (λq=>hc' (by simp [q])) (λq=>hc' (by simp [q])) (λq=>hc' (by simp [q])) e⟩)
       (λc o hc' e n=>n) (λc o hc' e=>⟨o,eb c o (λq=>hc' (by simp [q])) (λq=>hc' (by simp [q])) (λq=>hc' (by simp [q])) (λq=>hc' (by simp [q])) e⟩)
       (λc ys e=>e) (λc o u e=>e) (λc ps e=>⟨#[],by rw [e]; simp⟩) (λm hm=>?_) hok0 I.bare
   · have hb':c ∈ [z,TI,TO,i1,i2]:=by
       simp only [List.mem_cons,List.not_mem_nil,or_false] at hb ⊢
       rcases hb with h | h | h | h <;> simp [h]
     have fe:=hf c hb'
     exact ⟨fe.2.2.2.1,fe.2.1,fe.2.2.2.2.1,fe.2.2.2.2.2⟩
   · obtain ⟨o,es,ep,ho,r⟩:=hm
     exact ⟨o,es,ep,eb _ o (Ne.symm (hf z (by simp)).2.1) (Ne.symm (hf TO (by simp)).2.1) (Ne.symm (hf i1 (by simp)).2.1) (Ne.symm (hf i2 (by simp)).2.1) ho,r⟩
 self:=λ_ _ _ _ _ st h=>wpAny_pyIter_zip st.1 h
section
variable {X:Cx}
noncomputable def xv (K:PySem.W.Frag) (ta:TA):TI:=λσ H R=>ta σ H λvs H1=>∃ a b,vs=[.ref a,.ref b]/\(∃ xs,SqL K H1 a xs)/\(∃ ys,SqL K H1 b ys)/\R (Itz K a b) H1
theorem pK {ts:List Expr} {q:Nat} {tp:Pos} {a b:Expr} {ta:TA} {p pos:Pos} (hc:X.calm=true) (hg:Gl X "zip") (hm:X.mg "zip" = none) (ha:PA X [a,b] ta) (hs:starEach [a,b] X.env=(false,eval a X.env) :: starEach [b] X.env) (hs2:starEach [b] X.env=[(false,eval b X.env)]) :
   PI X (.Tuple ts q tp) (.Call (.Name "zip" p) [a,b] [] pos) (xv X.K ta):=by
 intro pins s σ H R I h
 refine Call_ (gC I hg hm boot_zip (PyProof.Rows.callWith_type1 (thn (ha pos pins s σ H _ I h) λus s1 ⟨vs,H1,I1,r1,q1⟩=>?_) hs (by rw [hs2]; rfl)))
 obtain ⟨l,l',e,⟨xs,hq1⟩,⟨ys,hq2⟩,q⟩:=q1
 subst e
 obtain ⟨u,u',rfl,ru,ru'⟩:=vals2 r1
 cases ru
 cases ru'
 obtain ⟨its1,rv1,pl1,hz1⟩:=I1.list hq1
 obtain ⟨its2,rv2,pl2,hz2⟩:=I1.list hq2
 refine call_zip_2 pl1.isList pl2.isList λh' g1 g2 g3 g4 g5 g6 g7=>?_
 refine wpAny_pyIter_zip (s:={ s1 with heap:=h' }) g1 ?_
 have I2:Inv X pins σ H1 { s1 with heap:=h' }:=I1.kept (t':=s1.toks) g7
 have nn:∀ j,H1 (s1.heap.objs.size + j)=none:=λj=>I1.hok.fresh (by omega)
 refine ⟨false,s1.heap.objs.size + 4,[s1.heap.objs.size + 4,s1.heap.objs.size + 2,s1.heap.objs.size + 3,s1.heap.objs.size,s1.heap.objs.size + 1],_,_,H1,rfl,I2,.inl hc,ux l l' (s1.heap.objs.size + 4) (s1.heap.objs.size + 2) (s1.heap.objs.size + 3) s1.heap.objs.size (s1.heap.objs.size + 1) (by simp) (Ne.symm (Nat.succ_ne_self _)),⟨g1,g2,⟨_,_,g3⟩,g4,g5⟩,λc hb=>?_,q⟩
 have hb':∃ j,c=s1.heap.objs.size + j:=by
   simp only [List.mem_cons,List.not_mem_nil,or_false] at hb
   rcases hb with h | h | h | h | h
   · exact ⟨_,h⟩
   · exact ⟨_,h⟩
   · exact ⟨_,h⟩
   · exact ⟨0,h⟩
   · exact ⟨_,h⟩
 obtain ⟨j,rfl⟩:=hb'
 exact I1.oU (Nat.le_add_right _ _) (nn j)
end
section
variable {X:Cx} {tg:Expr}
end
theorem ud:∀ (names:List (Str × NameKind)) (n:Nat) (acc:List (Str × Addr)) (x:Str) (c:Addr),(cellsFrom n names acc).lookup x=some c->n<=c\/acc.lookup x=some c
 | [],_,_,_,_,h=>.inr h
 | (y,k) :: r,n,acc,x,c,h=>by
   unfold cellsFrom at h
   split at h
   · rcases ud r (n + 1) _ x c h with q | q
     · exact .inl (by omega)
     · rw [List.lookup_cons] at q
       split at q
       · cases q; exact .inl (Nat.le_refl _)
       · exact .inr q
   · exact ud r n acc x c h
theorem jN:∀ (names:List (Str × NameKind)) (n:Nat) (acc:List (Str × Addr)) (x:Str),(x,NameKind.cell) ∉ names->(cellsFrom n names acc).lookup x=acc.lookup x
 | [],_,_,_,_=>rfl
 | (y,k) :: r,n,acc,x,h=>by
   have h1:(x,NameKind.cell) ∉ r:=λz=>h (List.mem_cons_of_mem _ z)
   unfold cellsFrom
   split
   · rename_i hk
     rw [jN r _ _ x h1,List.lookup_cons]
     have:(x == y)=false:=by
       rw [beq_eq_false_iff_ne]
       rintro rfl
       exact h (by rw [eq_of_beq hk]; exact List.mem_cons_self)
     rw [this]
   · exact jN r n acc x h1
theorem mJ:∀ (names:List (Str × NameKind)) (n:Nat) (acc:List (Str × Addr)) (x:Str),(x,NameKind.cell) ∈ names->∃ c,(cellsFrom n names acc).lookup x=some c/\n<=c
 | (y,k) :: r,n,acc,x,h=>by
   unfold cellsFrom
   by_cases hr:(x,NameKind.cell) ∈ r
   · split
     · obtain ⟨c,e,l⟩:=mJ r (n + 1) ((y,n) :: acc) x hr
       exact ⟨c,e,by omega⟩
     · exact mJ r n acc x hr
   · rcases List.mem_cons.mp h with q | q
     · cases q
       rw [if_pos (by rfl),jN r _ _ _ hr]
       exact ⟨n,by simp [List.lookup_cons],Nat.le_refl _⟩
     · exact absurd q hr
theorem pD:∀ (names:List (Str × NameKind)) (n:Nat) (acc:List (Str × Addr)),(∀ x c,acc.lookup x=some c->c < n)->(∀ x y c,acc.lookup x=some c->acc.lookup y=some c->x=y) ->
   ∀ x y c,(cellsFrom n names acc).lookup x=some c->(cellsFrom n names acc).lookup y=some c->x=y
 | [],_,_,_,h=>h
 | (z,k) :: r,n,acc,hl,h=>by
   unfold cellsFrom
   split
   · refine pD r (n + 1) _ (λx c e=>?_) (λx y c e1 e2=>?_)
     · rw [List.lookup_cons] at e
       split at e
       · cases e; exact Nat.lt_succ_self _
       · exact Nat.lt_succ_of_lt (hl x c e)
     · rw [List.lookup_cons] at e1 e2
       split at e1
       · rename_i q1
         cases e1
         split at e2
         · rename_i q2
           exact (eq_of_beq q1).trans (eq_of_beq q2).symm
         · exact absurd (hl y _ e2) (Nat.lt_irrefl _)
       · split at e2
         · cases e2
           exact absurd (hl x _ e1) (Nat.lt_irrefl _)
         · exact h x y c e1 e2
   · exact pD r n acc hl h
theorem lV:∀ (names:List (Str × NameKind)) (h:Heap) (acc:List (Str × Addr)),(∀ x c,acc.lookup x=some c->∃ v,h.IsCell c v)->∀ x c,(cellsFrom h.objs.size names acc).lookup x=some c->∃ v,(pushCells h names).IsCell c v
 | [],_,_,ha,x,c,e=>ha x c e
 | (z,k) :: r,h,acc,ha,x,c,e=>by
   unfold cellsFrom at e
   unfold pushCells
   split at e
   · rename_i hk
     rw [if_pos hk]
     refine lV r _ ((z,h.objs.size) :: acc) (λy d q=>?_) x c (by rw [Heap.size_push]; exact e)
     rw [List.lookup_cons] at q
     split at q
     · cases q
       exact ⟨none,_,Heap.get?_push_size _ rfl,rfl⟩
     · obtain ⟨v,o,ho,hd⟩:=ha y d q
       exact ⟨v,o,Heap.get?_push_of_some _ ho,hd⟩
   · rename_i hk
     rw [if_neg hk]
     exact lV r h acc ha x c e
noncomputable def cS (env:PySem.Env):List (Str × NameKind)->List (Str × Addr)->List (Str × Addr)
 | [],acc=>acc
 | (n,k) :: r,acc=>if k == .free then (match env.cells.lookup n with | some c=>cS env r ((n,c) :: acc) | none=>cS env r acc) else cS env r acc
theorem jD (env:PySem.Env):∀ (names:List (Str × NameKind)) (acc:List (Str × Addr)),(∀ x ∈ names,x.2=.free->∃ c,env.cells.lookup x.1=some c) ->
   (forIn (m:=Sem) names acc λx cs=>do
     let (name,kind):=x
     if kind == .free then do
       let c <- cellOf env name
       pure (ForInStep.yield ((name,c) :: cs))
     else pure (ForInStep.yield cs))=pure (cS env names acc)
 | [],acc,_=>rfl
 | (n,k) :: r,acc,h=>by
   rw [List.forIn_cons]
   unfold cS
   by_cases hk:(k == .free)=true
   · obtain ⟨c,hc⟩:=h (n,k) List.mem_cons_self (eq_of_beq hk)
     simp only [hk,if_true,cellOf,hc,pure_bind]
     exact jD env r _ λx hx=>h x (List.mem_cons_of_mem _ hx)
   · simp only [hk,Bool.false_eq_true,if_false,pure_bind]
     exact jD env r _ λx hx=>h x (List.mem_cons_of_mem _ hx)
theorem qw {env:PySem.Env} {scope:Scope} (h:∀ x ∈ scope.names,x.2=.free->∃ c,env.cells.lookup x.1=some c):closureFor scope env=pure (cS env scope.names []):=by
 unfold closureFor
 have:=jD env scope.names [] h
 simp only [bind_pure]
 exact this
theorem eM (env:PySem.Env):∀ (names:List (Str × NameKind)) (acc:List (Str × Addr)) (x:Str) (c:Addr),(∀ y d,acc.lookup y=some d->env.cells.lookup y=some d)->(cS env names acc).lookup x=some c->env.cells.lookup x=some c
 | [],_,x,c,ha,h=>ha x c h
 | (n,k) :: r,acc,x,c,ha,h=>by
   unfold cS at h
   split at h
   · split at h
     · rename_i c' hc
       refine eM env r _ x c (λy d q=>?_) h
       rw [List.lookup_cons] at q
       split at q
       · rename_i qq
         cases q
         rw [eq_of_beq qq]; exact hc
       · exact ha y d q
     · exact eM env r acc x c ha h
   · exact eM env r acc x c ha h
theorem cZ (env:PySem.Env):∀ (names:List (Str × NameKind)) (acc:List (Str × Addr)) (x:Str) (c:Addr),(∀ y d,acc.lookup y=some d->env.cells.lookup y=some d)->env.cells.lookup x=some c->((x,NameKind.free) ∈ names\/acc.lookup x=some c)->(cS env names acc).lookup x=some c
 | [],_,x,c,_,_,h=>h.elim (λz=>absurd z (by simp)) id
 | (n,k) :: r,acc,x,c,ha,hc,h=>by
   unfold cS
   split
   · split
     · rename_i c' hc'
       refine cZ env r _ x c (λy d q=>?_) hc ?_
       · rw [List.lookup_cons] at q
         split at q
         · rename_i qq
           cases q
           rw [eq_of_beq qq]; exact hc'
         · exact ha y d q
       · by_cases q:x=n
         · subst q
           rw [hc] at hc'; cases hc'
           exact .inr (by simp [List.lookup_cons])
         · rcases h with h | h
           · rcases List.mem_cons.mp h with z | z
             · cases z; exact absurd rfl q
             · exact .inl z
           · refine .inr ?_
             rw [List.lookup_cons,beq_eq_false_iff_ne.mpr q]
             exact h
     · rename_i hc'
       refine cZ env r acc x c ha hc ?_
       rcases h with h | h
       · rcases List.mem_cons.mp h with z | z
         · cases z; rw [hc] at hc'; cases hc'
         · exact .inl z
       · exact .inr h
   · rename_i hk
     refine cZ env r acc x c ha hc ?_
     rcases h with h | h
     · rcases List.mem_cons.mp h with z | z
       · cases z; exact absurd rfl hk
       · exact .inl z
     · exact .inr h
theorem kY {M:Model} {A:Around} {E:Value->Shared->Prop} {s:Shared} {scope:Scope} {cl:List (Str × Addr)} {env:PySem.Env} {Q:PySem.Env->Shared->Prop}
   (h:Q (newEnv scope s.heap.objs.size env.globals (cellsFrom (s.heap.objs.size + 1) scope.names cl) env.qual none .none (some env) builtinsNs) { s with heap:=pushCells (s.heap.push { cls:=.type "dict",data:=.dict #[] }) scope.names }) :
   wpAny M A (newFunctionEnv scope env.globals cl [] env.qual none .none (some env)) Q E s:=by
 simp only [newFunctionEnv,Option.isSome_some,if_true]
 refine wpAny_bind (wpAny_alloc ?_)
 refine wpAny_bind (wpAny_layCells _ (λname kind cells=>by cases hkc:kind == NameKind.cell <;> simp [hkc]) _ _ _ _ ?_)
 rw [show ({ s with heap:=s.heap.push { cls:=.type "dict",data:=.dict #[] } }:Shared).heap.objs.size=s.heap.objs.size + 1 from Heap.size_push ..]
 exact wpAny_bind (wpAny_pure (wpAny_pure h))
noncomputable def aK (X:Cx) (s:Shared) (H:Hp) (scope:Scope) (N:List Str) (fp:List Addr):Cx:=
 { prog:=X.prog,w:=X.w,K:=X.K,mg:=X.mg,base:=X.base,A:=X.A,N:=N,s₀:=s,H₀:=H
   env:=compEnvC scope (cellsFrom (s.heap.objs.size + 1 + 1) scope.names (cS X.env scope.names [])) (s.heap.objs.size + 1) X.env
   outer:=X.stack,stack:=X.stack,ex:=fp,fn:=λx=>decide ((x,NameKind.cell) ∈ scope.names),calm:=X.calm,pn:=[],xe:=λ_ _=>False }
noncomputable def hZ (σ:L2.St) (caps:List (Option Nat)):L2.St:=caps.map λo=>o.bind λi=>(σ[i]?).join
structure fo (X:Cx) (scope:Scope) (N:List Str) (caps:List (Option Nat)):Prop where
 kind:scope.kind=.function
 loc:∀ x ∈ scope.names,x.2=.local->scope.names.lookup x.1=some .local
 fre:∀ x ∈ scope.names,x.2=.free->X.env.kindOf x.1=some .cell
 one:∀ x,(x,NameKind.free) ∈ scope.names->(x,NameKind.cell) ∉ scope.names
 noboth:∀ x,(x,NameKind.free) ∈ scope.names->(x,NameKind.local) ∉ scope.names
 len:N.length=caps.length + 1
 cap:∀ (j i:Nat),caps[j]?=some (some i)->∃ x,N[j]?=some x/\X.N[i]?=some x/\(x,NameKind.free) ∈ scope.names
 acc:∃ z,N[caps.length]?=some z/\¬ Vis (relabel scope X.env) z
section
variable {X:Cx} {pins:List (Addr × Obj)} {σ:L2.St} {H:Hp} {s:Shared} {scope:Scope} {N:List Str} {caps:List (Option Nat)} {fp:List Addr}
theorem eU {env:PySem.Env} {x:Str} {names:List (Str × NameKind)} (h:∀ y,(y,NameKind.free) ∈ names->env.kindOf y=some .cell) (hk:env.scope.kind=.function) {k:NameKind}
   (e:(names.map λ(n,k)=>if (k == NameKind.free && env.scope.kind == .function && env.kindOf n == some .cell) then (n,NameKind.cell) else (n,k)).lookup x=some k) :
   (x,k) ∈ names\/((x,NameKind.free) ∈ names/\k=.cell):=by
 induction names with
 | nil=>cases e
 | cons p r ih=>
   obtain ⟨n,q⟩:=p
   rw [List.map_cons] at e
   have hr:∀ y,(y,NameKind.free) ∈ r->env.kindOf y=some .cell:=λy hy=>h y (List.mem_cons_of_mem _ hy)
   have sub:((x,k) ∈ r\/((x,NameKind.free) ∈ r/\k=.cell))->(x,k) ∈ (n,q) :: r\/((x,NameKind.free) ∈ (n,q) :: r/\k=.cell):=λz=>
     z.elim (λy=>.inl (List.mem_cons_of_mem _ y)) λy=>.inr ⟨List.mem_cons_of_mem _ y.1,y.2⟩
   dsimp only at e
   split at e
   · rename_i c
     rw [List.lookup_cons] at e
     split at e
     · rename_i qq
       cases e
       rw [Bool.and_eq_true,Bool.and_eq_true] at c
       rw [eq_of_beq qq,eq_of_beq c.1.1]
       exact .inr ⟨List.mem_cons_self,rfl⟩
     · exact sub (ih hr e)
   · rename_i c
     rw [List.lookup_cons] at e
     split at e
     · rename_i qq
       cases e
       rw [eq_of_beq qq]
       exact .inl List.mem_cons_self
     · exact sub (ih hr e)
theorem gq (I:Inv X pins σ H s) (c:fo X scope N caps):∀ x ∈ scope.names,x.2=.free->∃ d,X.env.cells.lookup x.1=some d:=λx hx hf=>I.ok.has x.1 (.inl (c.fre x hx hf))
theorem oO (I:Inv X pins σ H s) (hf:∀ b ∈ fp,kq X pins H b) (ho:∀ b ∈ fp,∃ o,s.heap.get? b=some o) (c:fo X scope N caps) :
   Inv (aK X s H scope N fp) [] (hZ σ caps++[some (.ref s.heap.objs.size)]) (upd H s.heap.objs.size (.lst []))
     { s with heap:=pushCells ((s.heap.push { cls:=.type "list",data:=.seq ([]:List Value).toArray }).push { cls:=.type "dict",data:=.dict #[] }) scope.names }:=by
 have hcl:∀ x d,(cS X.env scope.names []).lookup x=some d->X.env.cells.lookup x=some d:=λx d=>eM X.env scope.names [] x d (λy d z=>by simp at z)
 have kp:∀ b o,s.heap.get? b=some o->(pushCells ((s.heap.push { cls:=.type "list",data:=.seq ([]:List Value).toArray }).push { cls:=.type "dict",data:=.dict #[] }) scope.names).get? b=some o:=λb o e=>
   pushCells_keeps _ _ b o (Heap.get?_push_of_some _ (Heap.get?_push_of_some _ e))
 have sz2:((s.heap.push { cls:=.type "list",data:=.seq ([]:List Value).toArray }).push { cls:=.type "dict",data:=.dict #[] }).objs.size=s.heap.objs.size + 1 + 1:=by rw [Heap.size_push,Heap.size_push]
 have oldc:∀ x d,X.env.cells.lookup x=some d->d < s.heap.objs.size:=λx d e=>by
   obtain ⟨v,o,q,_⟩:=I.cell x d e
   exact Heap.lt_size q
 have cel:∀ x d,(aK X s H scope N fp).env.cells.lookup x=some d->s.heap.objs.size + 1 + 1<=d\/X.env.cells.lookup x=some d:=λx d e=>by
   rcases ud _ _ _ x d e with q | q
   · exact .inl q
   · exact .inr (hcl x d q)
 have ok:(aK X s H scope N fp).Ok:=by
   refine ⟨I.ok.mod,c.kind,I.ok.glob,I.ok.blt,Nat.le_succ _,?_,?_,?_,I.ok.hd,I.ok.frames,.inl rfl,?_,I.bs,Nat.le_trans I.ok.bsz I.sz,?_,?_,I.stack,I.gX⟩
   · exact pD _ _ _ (λx d e=>Nat.lt_of_lt_of_le (oldc x d (hcl x d e)) (by omega)) λx y d e1 e2=>I.ok.inj x y d (hcl x d e1) (hcl y d e2)
   · intro x hx
     have hfk:∀ y,(y,NameKind.free) ∈ scope.names->X.env.kindOf y=some .cell:=λy hy=>c.fre _ hy rfl
     have fre:(x,NameKind.free) ∈ scope.names->∃ d,(aK X s H scope N fp).env.cells.lookup x=some d:=λhm=>by
       obtain ⟨d,hd⟩:=gq I c _ hm rfl
       exact ⟨d,by
         show (cellsFrom _ scope.names _).lookup x=_
         rw [jN _ _ _ x (c.one x hm)]
         exact cZ X.env scope.names [] x d (λy e z=>by simp at z) hd (.inl hm)⟩
     have own:(x,NameKind.cell) ∈ scope.names->∃ d,(aK X s H scope N fp).env.cells.lookup x=some d:=λhm=>by
       obtain ⟨d,e,_⟩:=mJ scope.names (s.heap.objs.size + 1 + 1) (cS X.env scope.names []) x hm
       exact ⟨d,e⟩
     rcases hx with hx | hx
     · rcases eU hfk I.ok.kind (show (scope.names.map _).lookup x=some .cell from hx) with q | q
       · exact own q
       · exact fre q.1
     · rcases eU hfk I.ok.kind (show (scope.names.map _).lookup x=some .free from hx) with q | q
       · exact fre q
       · exact fre q.1
   · intro x d hfn e
     have hm:(x,NameKind.cell) ∈ scope.names:=of_decide_eq_true hfn
     obtain ⟨d',e',l⟩:=mJ scope.names (s.heap.objs.size + 1 + 1) (cS X.env scope.names []) x hm
     have e2:(cellsFrom (s.heap.objs.size + 1 + 1) scope.names (cS X.env scope.names [])).lookup x=some d:=e
     rw [e'] at e2; cases e2
     exact Nat.le_trans (Nat.le_trans (Nat.le_succ _) (Nat.le_succ _)) l
   · intro b hb
     obtain ⟨o,q⟩:=ho b hb
     have bl:=Heap.lt_size q
     refine ⟨λz=>?_,λx d e z=>?_⟩
     · have z':b=s.heap.objs.size + 1:=z
       rw [z'] at bl
       exact absurd bl (Nat.not_lt.mpr (Nat.le_succ _))
     · subst z
       rcases cel x d e with q | q
       · exact absurd (Nat.lt_of_lt_of_le bl (Nat.le_trans (Nat.le_trans (Nat.le_succ _) (Nat.le_succ _)) q)) (Nat.lt_irrefl _)
       · exact (hf d hb).2.2.2.2.1 x d q rfl
   · intro b o e hb
     rcases (hf b hb).2.2.2.1 with q | q
     · exact I.ok.noex b o e q
     · have:=Nat.lt_of_lt_of_le (Heap.lt_size e) I.ok.bsz
       exact absurd (Nat.lt_of_lt_of_le this q) (Nat.lt_irrefl _)
   · intro b hb hm
     rcases List.mem_cons.mp (I.jo b hm) with q | q
     · exact (hf b hb).2.1 q
     · exact (hf b hb).2.2.1 q
 have hD:(pushCells ((s.heap.push { cls:=.type "list",data:=.seq ([]:List Value).toArray }).push { cls:=.type "dict",data:=.dict #[] }) scope.names).get? s.heap.objs.size=some { cls:=.type "list",data:=.seq ([]:List Value).toArray }:=
   pushCells_keeps _ _ _ _ (Heap.get?_push_of_some _ (Heap.get?_push_size _ rfl))
 have fr:∀ a,s.heap.objs.size<=a->a ≠ s.heap.objs.size->(upd H s.heap.objs.size (.lst [])) a=none:=λa h1 h2=>by rw [aC h2]; exact I.hok.fresh h1
 refine ⟨ok,rfl,I.bare,Un.laid kp (Nat.le_refl _) (I.hok.fresh (Nat.le_refl _)),⟨λ_=>none,?_,λi x v e1 e2 e3=>?_⟩,λx d e=>?_,?_,λx d e=>?_,λp hp=>absurd (show p ∈ ([]:List (Addr × Obj)) from hp) (by simp),?_,?_⟩
 · have:=Heap.Ns.new (s.heap.push { cls:=.type "list",data:=.seq ([]:List Value).toArray }) (.type "dict")
   rw [Heap.size_push] at this
   exact this.keeps (pushCells_keeps _ _)
 · by_cases hi:i < caps.length
   · rw [List.getElem?_append_left (by unfold hZ; rw [List.length_map]; exact hi)] at e2
     unfold hZ at e2
     rw [List.getElem?_map] at e2
     cases hc:caps[i]? with
     | none=>rw [hc] at e2; cases e2
     | some o=>
       rw [hc] at e2
       cases o with
       | none=>cases e2
       | some j=>
         have e2':(σ[j]?).join=some v:=Option.some.inj e2
         have e4:σ[j]?=some (some v):=by
           cases q:σ[j]? with
           | none=>rw [q] at e2'; cases e2'
           | some y=>rw [q] at e2'; exact congrArg some e2'
         obtain ⟨x',g1,g2,g3⟩:=c.cap i j hc
         rw [show (aK X s H scope N fp).N=N from rfl,g1] at e1
         cases e1
         have hkc:=c.fre _ g3 rfl
         obtain ⟨m,_,hl⟩:=I.loc
         obtain ⟨u,ru,look⟩:=hl j x v g2 e4 (.inr (.inl hkc))
         refine ⟨u,ru,?_⟩
         rcases look with ⟨k,_⟩ | ⟨k,d,hd,hcell⟩
         · rw [hkc] at k; cases k
         · have e5:(aK X s H scope N fp).env.cells.lookup x=some d:=by
             show (cellsFrom _ scope.names _).lookup x=_
             rw [jN _ _ _ x (c.one x g3)]
             exact cZ X.env scope.names [] x d (λy e z=>by simp at z) hd (.inl g3)
           have hcell':Heap.IsCell (pushCells ((s.heap.push { cls:=.type "list",data:=.seq ([]:List Value).toArray }).push { cls:=.type "dict",data:=.dict #[] }) scope.names) d (some u):=by
             obtain ⟨o,q1,q2⟩:=hcell
             exact ⟨o,kp _ _ q1,q2⟩
           refine .inr ⟨?_,d,e5,hcell'⟩
           rcases e3 with e3 | e3 | e3
           · exfalso
             rcases eU (λy hy=>c.fre _ hy rfl) I.ok.kind (show (scope.names.map _).lookup x=some .local from e3) with q | q
             · have q1:=c.loc _ q rfl
               exact c.noboth x g3 q
             · cases q.2
           · exact .inl e3
           · exact .inr e3
   · exfalso
     obtain ⟨z,z1,z2⟩:=c.acc
     have hl:i < N.length:=(List.getElem?_eq_some_iff.mp e1).1
     have:i=caps.length:=by have:=c.len; omega
     subst this
     rw [show (aK X s H scope N fp).N=N from rfl,z1] at e1
     cases e1
     exact z2 e3
 · rw [show (aK X s H scope N fp).env.cells=cellsFrom (s.heap.objs.size + 1 + 1) scope.names (cS X.env scope.names []) from rfl,<- sz2] at e
   refine lV scope.names _ _ (λy d' q=>?_) x d e
   obtain ⟨v,o,q1,q2⟩:=I.cell y d' (hcl y d' q)
   exact ⟨v,o,Heap.get?_push_of_some _ (Heap.get?_push_of_some _ q1),q2⟩
 · exact fr _ (Nat.le_succ _) (Nat.succ_ne_self _)
 · rcases cel x d e with q | q
   · exact fr d (by omega) (by intro z; omega)
   · rw [aC (Nat.ne_of_lt (oldc x d q))]; exact I.freeC x d q
 · exact I.hok.laid kp (Nat.le_refl _) ⟨Nat.zero_le _,[],0,.nil,hD⟩
 · rw [List.length_append]
   unfold hZ
   rw [List.length_map,show (aK X s H scope N fp).N=N from rfl,c.len]
   rfl
end
noncomputable def PTs (X:Cx) (ifs:List Expr) (t:TT):Prop:=
 ∀ (pins:List (Addr × Obj)) (s:Shared) (σ:L2.St) (H:Hp) (Q:Bool->Hp->Prop),Inv X pins σ H s->t σ H Q ->
   wpAny (model X.prog X.w) X.A (forIn ifs true λc r=>if r=true then do let ok <- isTrue c X.env (eval c X.env); pure (ForInStep.yield ok) else pure (ForInStep.yield r)) (TP X pins σ Q) X.xe s
section
variable {prog:Program} {w:World} {A:Around} {R:Result->Shared->Prop} {s:Shared}
theorem jS {elt target iter:Expr} {ifs:List Expr} {scope:Scope} {pos:Pos} {it acc:Value} {env:PySem.Env} (Iv:Nat->Shared->Prop)
   (step:∀ n s,Iv n s->wpAny (model prog w) A (pyNext it) (λr s₁=>match r with
     | none=>R (.ok .next) s₁
     | some v=>wpAny (model prog w) A (letOwnedTupleGo target it v) (λ_ s₀=>wpAny (model prog w) A (assign target env v) (λ_ s₂=>
         wpAny (model prog w) A (forIn ifs true λc r=>if r=true then do let ok <- isTrue c env (eval c env); pure (ForInStep.yield ok) else pure (ForInStep.yield r)) (λok s₃=>
           if ok=true then wpAny (model prog w) A (eval elt env) (λx s₄=>
             wpAny (model prog w) A (call (.builtin "list.append") [acc,x]) (λ_ s₅=>∃ m,m < n/\Iv m s₅) (λ_ _=>False) s₄) (λ_ _=>False) s₃
           else ∃ m,m < n/\Iv m s₃) (λ_ _=>False) s₂) (λ_ _=>False) s₀) (λ_ _=>False) s₁) (λ_ _=>False) s)
   (n:Nat) (h:Iv n s):codeAny (model prog w) A (.compLoop (.ListComp elt [⟨target,iter,ifs,0⟩] scope pos) 0 it acc env) R s:=by
 have no:∀ {α:Type} {t:Sem α} {Q:α->Shared->Prop} {s:Shared} {E:Value->Shared->Prop},wpAny (model prog w) A t Q (λ_ _=>False) s->wpAny (model prog w) A t Q E s:=λh=>wpAny_mono h (λ_ _ q=>q) λ_ _ q=>q.elim
 refine codeAny_loop rfl Iv (λn s hI=>?_) n h
 show wpAny _ A (Sem.onRaise (compTurn (.ListComp elt [⟨target,iter,ifs,0⟩] scope pos) 0 it acc env) (λx=>do noteFrame x env; theTreesLotGoes x)) _ _ s
 refine wpAny_noted ?_
 rw [compTurn_list]
 refine wpAny_bind (wpAny_standAt (wpAny_bind (thn (no (step n s hI)) λr s₁ h₁=>?_)))
 cases r with
 | none=>exact wpAny_pure h₁
 | some v=>
   refine wpAny_bind (thn (no h₁) λ_ s₀ h₀=>wpAny_bind (thn (no h₀) λ_ s₂ h₂=>wpAny_bind (thn (no h₂) λok s₃ h₃=>?_)))
   cases ok with
   | false=>exact wpAny_pure ⟨rfl,h₃⟩
   | true=>exact wpAny_bind (wpAny_bind (thn (no h₃) λx s₄ h₄=>wpAny_bind (thn (no h₄) λ_ s₅ h₅=>wpAny_pure (wpAny_pure ⟨rfl,h₅⟩))))
end
theorem qB {X:Cx} {kd:Bool} {pins:List (Addr × Obj)} {σ:L2.St} {H:Hp} {s:Shared} {scope:Scope} {N:List Str} {fp:List Addr} (h:Ck kd X) (I:Inv X pins σ H s):Ck kd (aK X s H scope N fp):=by
 rcases h with h | ⟨hk,q,o,u,vs,e1,e2,e3,e4⟩
 · exact .inl h
 · exact .inr ⟨hk,q,o,u,vs,e1,I.base.frzs q o u e2,e3,e4⟩
noncomputable def fK (In:TG->TT->TE->Prop) (caps:List (Option Nat)) (wi:TI):TE:=λσ H Q=>wi σ H λJ H1=>∃ g tt te,In g tt te/\∀ D,H1 D=none ->
 ∃ Z:Nat->Nat->L2.St->Hp->Prop,(∃ m,Z 0 m (hZ σ caps++[some (.ref D)]) (upd H1 D (.lst [])))/\∀ i m σ' H',Z i m σ' H' ->
   (J.stop i H'/\Q (.ref D) H')\/(J.go i H'/\∀ x H2,J.yld i H' x H2->g x σ' H2 λσ2 H3=>tt σ2 H3 λb H4=>
     if b=true then te σ2 H4 λv H5=>∃ vs m',H5 D=some (.lst vs)/\vs.length < sizeLine/\m' < m/\Z (i + 1) m' σ2 (upd H5 D (.lst (vs++[v]))) else ∃ m',m' < m/\Z (i + 1) m' σ2 H4)
theorem dz {X:Cx} {elt tg iter:Expr} {ifs:List Expr} {scope:Scope} {N:List Str} {caps:List (Option Nat)} {pos:Pos} {wi:TI} {In:TG->TT->TE->Prop} (c:fo X scope N caps) (hi:PI X tg iter wi)
   (hs:∀ x,foldedSetIterable iter X.env x=pure x)
   (hin:∀ g tt te,In g tt te->∀ s H fp,PG (aK X s H scope N fp) tg g/\PTs (aK X s H scope N fp) ifs tt/\PE (aK X s H scope N fp) elt te) :
   PE X (.ListComp elt [⟨tg,iter,ifs,0⟩] scope pos) (fK In caps wi):=by
 intro pins s σ H Q I h
 rw [eval_ListComp]
 have hcl:=qw (gq I c)
 refine wpAny_comprehension_free (use:=none) (g:=⟨tg,iter,ifs,0⟩) (gs:=[]) rfl hs hcl c.kind c.loc ?_
 show wpAny _ _ (eval iter X.env) _ _ s
 refine thn (hi pins s σ H _ I h) λv s1 h1=>thn h1 λitv s2 h2=>?_
 obtain ⟨kd,it,fp,tn,J,H2,e,I2,hck,T,st2,f2,g,tt,te,hI,q⟩:=h2
 have hc:=qB (scope:=scope) (N:=N) (fp:=fp) hck I2
 subst e
 obtain ⟨Z,⟨m0,z0⟩,turn⟩:=q s2.heap.objs.size (I2.hok.fresh (Nat.le_refl _))
 have ho:∀ b ∈ fp,∃ o,s2.heap.get? b=some o:=λb hb=>let ⟨o,e,_⟩:=T.obj _ _ st2 b hb; ⟨o,e⟩
 have I4:=oO (scope:=scope) (N:=N) (caps:=caps) I2 f2 ho c
 obtain ⟨hg,ht,he⟩:=hin g tt te hI s2 H2 fp
 refine wpAny_newObj_type (kY ?_) (by show 0<=sizeLine; decide)
 have hC:(s2.heap.push { cls:=.type "list",dict:=none,data:=.seq ([]:List Value).toArray }).objs.size=s2.heap.objs.size + 1:=Heap.size_push ..
 dsimp only
 rw [hC]
 have kp:∀ b o,s2.heap.get? b=some o->(pushCells ((s2.heap.push { cls:=.type "list",data:=.seq ([]:List Value).toArray }).push { cls:=.type "dict",data:=.dict #[] }) scope.names).get? b=some o:=λb o e=>
   pushCells_keeps _ _ b o (Heap.get?_push_of_some _ (Heap.get?_push_of_some _ e))
 have st4:tn 0 (pushCells ((s2.heap.push { cls:=.type "list",data:=.seq ([]:List Value).toArray }).push { cls:=.type "dict",data:=.dict #[] }) scope.names):=T.keep _ _ _ st2 λb _ o e=>kp b o e
 have stat:∀ {H':Hp},(∀ b ∈ fp,H' b=none)->∀ b ∈ fp,kq (aK X s2 H2 scope N fp) [] H' b:=λhn b hb=>
   ⟨hn b hb,(I4.ok.exf b hb).1,I4.ok.exfs b hb,.inl hb,(I4.ok.exf b hb).2,λp hp=>absurd (show p ∈ ([]:List (Addr × Obj)) from hp) (by simp)⟩
 have fr4:∀ b ∈ fp,(upd H2 s2.heap.objs.size (.lst [])) b=none:=λb hb=>by
   obtain ⟨o,e⟩:=ho b hb
   rw [aC (Nat.ne_of_lt (Heap.lt_size e))]; exact (f2 b hb).1
 have loop:codeAny (model X.prog X.w) X.A (.compLoop (.ListComp elt [⟨tg,iter,ifs,0⟩] scope pos) 0 (.ref it) (.ref s2.heap.objs.size) (aK X s2 H2 scope N fp).env)
     (compPost (model X.prog X.w) X.A X.xe none (EP X pins σ Q) (.ref s2.heap.objs.size) (s2.heap.objs.size + 1))
     { s2 with heap:=pushCells ((s2.heap.push { cls:=.type "list",data:=.seq ([]:List Value).toArray }).push { cls:=.type "dict",data:=.dict #[] }) scope.names }:=by
   refine jS (λn s'=>∃ i σ' H',Inv (aK X s2 H2 scope N fp) [] σ' H' s'/\tn i s'.heap/\(∀ b ∈ fp,H' b=none)/\Z i n σ' H') ?_ m0 ⟨0,_,_,I4,st4,fr4,z0⟩
   rintro n s3 ⟨i,σ3,H3,I3,st3,fr3,w3⟩
   rcases turn i n σ3 H3 w3 with ⟨stop,qn⟩ | ⟨go,step⟩
   · refine thn (T.done (aK X s2 H2 scope N fp) rfl rfl rfl hc i [] s3 σ3 H3 _ I3 (stat fr3) st3 stop) λr s5 ⟨hr,I5⟩=>?_
     subst hr
     obtain ⟨m,hn,_⟩:=id I5.loc
     refine ⟨m,hn,λh' sb=>⟨.ref s2.heap.objs.size,H3,?_,rfl,qn⟩⟩
     have lt:∀ b o,s2.heap.get? b=some o->b ≠ s2.heap.objs.size + 1:=λb o e=>Nat.ne_of_lt (Nat.lt_succ_of_lt (Heap.lt_size e))
     have u:=I5.base
     have u':Un (frs X.stack) fp H2 H3 s2.heap h':=⟨λb o e n1 n2 n3=>(sb.2 b (lt b o e)).trans (u.keep b o e n1 n2 n3),λb o e n1 n2 n3=>let ⟨sl,z⟩:=u.slot b o e n1 n2 n3; ⟨sl,(sb.2 b (lt b o e)).trans z⟩,
       u.free,λb o e n1=>let ⟨o',z⟩:=u.there b o e n1; ⟨o',(sb.2 b (lt b o e)).trans z⟩,u.tups,u.frzs,u.tbls⟩
     have fC:H3 (s2.heap.objs.size + 1)=none:=I5.free
     refine I2.kW (s':={ s5 with heap:=h' }) I5.os u' (λb o e=>(I5.hok b o e).ft (λd v hd z=>(sb.2 d ?_).trans z) (λ_ z=>z) λ_ _ z=>z) I5.bare λb hb=>⟨(f2 b hb).2.2.2.1,(f2 b hb).2.1,(f2 b hb).2.2.2.2.1,(f2 b hb).2.2.2.2.2⟩
     rcases hd with hd | hd
     · rw [hd]; exact aD e fC
     · exact aD hd fC
   · refine thn (T.item (aK X s2 H2 scope N fp) rfl rfl rfl hc i [] s3 σ3 H3 _ I3 (stat fr3) st3 go) λr s4 ⟨u,hr,h4⟩=>?_
     subst hr
     refine thn h4 λ_ s5 ⟨x,H5,I5,r5,y5,st5,fr5⟩=>?_
     have I5':=I5.pinned (stat fr5) (T.obj _ _ st5)
     refine thn (hg _ s5 σ3 H5 x u _ I5' r5 (step x H5 y5)) λ_ s6 ⟨σ6,H6,I6,q6⟩=>?_
     have again:∀ {s7:Shared} {σ7:L2.St} {H7:Hp} {m':Nat},Inv (aK X s2 H2 scope N fp) ([]++gy fp s5.heap) σ7 H7 s7->m' < n->Z (i + 1) m' σ7 H7 ->
         ∃ m,m < n/\∃ i σ' H',Inv (aK X s2 H2 scope N fp) [] σ' H' s7/\tn i s7.heap/\(∀ b ∈ fp,H' b=none)/\Z i m σ' H':=λ{s7 σ7 H7 m'} I7 hm z7=>by
       refine ⟨m',hm,i + 1,σ7,H7,I7.dY,T.keep _ _ _ st5 λb hb o e=>(I7.pin (b,o) (List.mem_append_right _ (List.mem_append_right _ (bX hb e)))).1,λb hb=>?_,z7⟩
       obtain ⟨o,e,d⟩:=T.obj _ _ st5 b hb
       exact (I7.pin (b,o) (List.mem_append_right _ (List.mem_append_right _ (bX hb e)))).2.1
     refine thn (ht _ s6 σ6 H6 _ I6 q6) λok s7 ⟨H7,I7,q7⟩=>?_
     cases ok with
     | false=>
       rw [if_neg (by decide)] at q7
       obtain ⟨m',hm,z7⟩:=q7
       exact again I7 hm z7
     | true=>
       rw [if_pos rfl] at q7
       refine thn (he _ s7 σ6 H7 _ I7 q7) λv' s8 ⟨v,H8,I8,r8,vs,m',q8,l8,hm,z8⟩=>?_
       refine thn (iI (X:=aK X s2 H2 scope N fp) _ s8 σ6 H8 (.ref s2.heap.objs.size) [v] (.ref s2.heap.objs.size) [v'] (λ_ H9=>H9=upd H8 s2.heap.objs.size (.lst (vs++[v]))) I8 rfl (.cons r8 .nil) ⟨_,vs,v,rfl,rfl,q8,l8,rfl⟩) λ_ s9 ⟨_,H9,I9,_,e9⟩=>?_
       subst e9
       exact again I9 hm z8
 exact codeAny_compStart_list loop (T.self _ 0 _ _ _ st4 loop)
end Ev
namespace Hy
open PySem PySem.Spec PyProof.Rows L2
open Ev (D Den au)
open Classical in
noncomputable def hd (H:Hp) (M:Addr->Prop):Hp:=λb=>if M b then none else H b
theorem aB {H:Hp} {M:Addr->Prop} {b:Addr} {o:HO}:hd H M b=some o ↔ ¬ M b/\H b=some o:=by
 unfold hd
 by_cases h:M b
 · rw [if_pos h]; exact ⟨λz=>(nomatch z),λz=>absurd h z.1⟩
 · rw [if_neg h]; exact ⟨λz=>⟨h,z⟩,λz=>z.2⟩
theorem az {H H':Hp} {M M':Addr->Prop} (e:aq H H') (m:∀ b,M' b->M b):aq (hd H M) (hd H' M'):=λb _ h=>aB.mpr ⟨λz=>(aB.mp h).1 (m b z),e b _ (aB.mp h).2⟩
theorem aI {H:Hp} {M:Addr->Prop}:aq (hd H M) H:=λ_ _ h=>(aB.mp h).2
inductive Nd where
 | d (x:D) | l (xs:List Nd) | t (xs:List Nd)
structure Ex where
 p:PySem.W.Frag->Hp->HO->Addr->Prop
 mono:∀ {K:PySem.W.Frag} {G G':Hp} {o:HO} {a:Addr},aq G G'->p K G o a->p K G' o a
 ext:∀ {K:PySem.W.Frag} {G:Hp} {o:HO} {a:Addr},p K G o a->(∃ φ,o=.ext φ)\/(∃ ob φ,o=.frz ob (.ext φ))\/∃ kvs,o=.dK kvs\/∃ ob,o=.frz ob (.dK kvs)
inductive Sl where
 | un | d (x:D) | o (xs:List D) | n (t:Nd) | x (E:Ex)
mutual
inductive de (K:PySem.W.Frag) (G H:Hp):V->List Addr->Nd->Prop where
 | d {u:V} {x:D} (h:Den K G u x):de K G H u [] (.d x)
 | l {a:Addr} {vs:List V} {bs:List Addr} {xs:List Nd} (h:H a=some (.lst vs)) (r:a6 K G H vs bs xs):de K G H (.ref a) (a :: bs) (.l xs)
 | t {a:Addr} {vs:List V} {bs:List Addr} {xs:List Nd} (h:H a=some (.tup vs)) (r:a6 K G H vs bs xs):de K G H (.ref a) (a :: bs) (.t xs)
inductive a6 (K:PySem.W.Frag) (G H:Hp):List V->List Addr->List Nd->Prop where
 | nil:a6 K G H [] [] []
 | cons {v:V} {vs:List V} {b1 b2:List Addr} {s:Nd} {ss:List Nd} (h:de K G H v b1 s) (r:a6 K G H vs b2 ss):a6 K G H (v :: vs) (b1++b2) (s :: ss)
end
noncomputable def cW (K:PySem.W.Frag) (G H:Hp) (v:Option V) (bs:List Addr):Sl->Prop
 | .un=>bs=[]
 | .d x=>bs=[]/\∃ u,v=some u/\Den K G u x
 | .o xs=>∃ a vs,bs=[a]/\v=some (.ref a)/\H a=some (.lst vs)/\au K G vs xs
 | .n t=>bs.Nodup/\∃ u,v=some u/\de K G H u bs t
 | .x E=>∃ a o,bs=[a]/\v=some (.ref a)/\H a=some o/\E.p K G o a
section
variable {K:PySem.W.Frag} {G G' H H':Hp}
mutual
theorem de.frame (g:aq G G'):∀ {u:V} {bs:List Addr} {t:Nd},(∀ b ∈ bs,H' b=H b)->de K G H u bs t->de K G' H' u bs t
 | _,_,_,_,.d h=>.d (h.mono g)
 | _,_,_,e,.l h r=>.l (by rw [e _ (List.mem_cons_self ..)]; exact h) (a6.frame g (λb hb=>e b (List.mem_cons_of_mem _ hb)) r)
 | _,_,_,e,.t h r=>.t (by rw [e _ (List.mem_cons_self ..)]; exact h) (a6.frame g (λb hb=>e b (List.mem_cons_of_mem _ hb)) r)
theorem a6.frame (g:aq G G'):∀ {vs:List V} {bs:List Addr} {xs:List Nd},(∀ b ∈ bs,H' b=H b)->a6 K G H vs bs xs->a6 K G' H' vs bs xs
 | _,_,_,_,.nil=>.nil
 | _,_,_,e,.cons h r=>.cons (de.frame g (λb hb=>e b (List.mem_append_left _ hb)) h) (a6.frame g (λb hb=>e b (List.mem_append_right _ hb)) r)
end
mutual
theorem de.some_of:∀ {u:V} {bs:List Addr} {t:Nd},de K G H u bs t->∀ b ∈ bs,∃ o,H b=some o
 | _,_,_,.d _,_,z=>nomatch z
 | _,_,_,.l h r,b,z=>(List.mem_cons.mp z).elim (λe=>e ▸ ⟨_,h⟩) λz=>a6.some_of r b z
 | _,_,_,.t h r,b,z=>(List.mem_cons.mp z).elim (λe=>e ▸ ⟨_,h⟩) λz=>a6.some_of r b z
theorem a6.some_of:∀ {vs:List V} {bs:List Addr} {xs:List Nd},a6 K G H vs bs xs->∀ b ∈ bs,∃ o,H b=some o
 | _,_,_,.nil,_,z=>nomatch z
 | _,_,_,.cons h r,b,z=>(List.mem_append.mp z).elim (λz=>de.some_of h b z) λz=>a6.some_of r b z
end
theorem de.mono (g:aq G G') (e:aq H H') {u:V} {bs:List Addr} {t:Nd} (h:de K G H u bs t):de K G' H' u bs t:=h.frame g λb hb=>by
 obtain ⟨o,q⟩:=h.some_of b hb
 rw [q,e b o q]
theorem cW.mono (g:aq G G') (e:aq H H') {v:Option V} {bs:List Addr}:∀ {s:Sl},cW K G H v bs s->cW K G' H' v bs s
 | .un,h=>h
 | .d _,⟨h,u,e1,h2⟩=>⟨h,u,e1,h2.mono g⟩
 | .o _,⟨a,vs,h1,h2,h3,h4⟩=>⟨a,vs,h1,h2,e _ _ h3,h4.mono g⟩
 | .n _,⟨h0,u,h1,h2⟩=>⟨h0,u,h1,h2.mono g e⟩
 | .x E,⟨a,o,h1,h2,h3,h4⟩=>⟨a,o,h1,h2,e _ _ h3,E.mono g h4⟩
end
noncomputable def own (A:Addr->Prop) (B:Nat->List Addr) (b:Addr):Prop:=A b\/∃ i,b ∈ B i
noncomputable def vw (C:Bool) (A:Addr->Prop) (B:Nat->List Addr):Addr->Prop:=match C with
 | true=>own A B
 | false=>A
structure Sta (K:PySem.W.Frag) (A:Addr->Prop) (H₀:Hp) (τ:List Sl) (B:Nat->List Addr) (σ:L2.St) (H:Hp):Prop where
 same:aq H₀ H
 len:σ.length=τ.length
 sl:∀ i s,τ[i]?=some s->cW K (hd H (own A B)) H (σ[i]?).join (B i) s
 fr:∀ i b,b ∈ B i->H₀ b=none
 uq:∀ i j b,b ∈ B i->b ∈ B j->i=j
 ad:∀ b,A b->∃ o,H₀ b=some o
 bd:∀ i b,b ∈ B i->∃ o,H b=some o
noncomputable def upB (B:Nat->List Addr) (i:Nat) (bs:List Addr):Nat->List Addr:=λj=>if j=i then bs else B j
section
variable {K:PySem.W.Frag} {A:Addr->Prop} {H₀ H H':Hp} {τ:List Sl} {B:Nat->List Addr} {σ:L2.St}
theorem Sta.dm (S:Sta K A H₀ τ B σ H) (b:Addr) (h:own A B b):∃ o,H b=some o:=h.elim (λz=>let ⟨o,q⟩:=S.ad b z; ⟨o,S.same _ _ q⟩) λ⟨i,z⟩=>S.bd i b z
theorem Sta.mono (S:Sta K A H₀ τ B σ H) (e:aq H H'):Sta K A H₀ τ B σ H' where
 same:=S.same.trans e
 len:=S.len
 sl:=λi s h=>(S.sl i s h).mono (az e λ_ z=>z) e
 fr:=S.fr
 uq:=S.uq
 ad:=S.ad
 bd:=λi b h=>let ⟨o,q⟩:=S.bd i b h; ⟨o,e _ _ q⟩
theorem bM {i j:Nat} {bs:List Addr} {b:Addr} (h:b ∈ upB B i bs j):(j=i/\b ∈ bs)\/(j ≠ i/\b ∈ B j):=by
 unfold upB at h
 by_cases e:j=i
 · rw [if_pos e] at h; exact .inl ⟨e,h⟩
 · rw [if_neg e] at h; exact .inr ⟨e,h⟩
theorem Sta.set (S:Sta K A H₀ τ B σ H) (e:aq H H') {i:Nat} {v:V} {s:Sl} {bs:List Addr} (hf:∀ b ∈ bs,H b=none/\∃ o,H' b=some o) (h:cW K (hd H' λb=>own A B b\/b ∈ bs) H' (some v) bs s) :
   Sta K A H₀ (τ.set i s) (upB B i bs) (σ.set i (some v)) H':=by
 have sub:∀ b,own A (upB B i bs) b->own A B b\/b ∈ bs:=λb z=>z.elim (λz=>.inl (.inl z)) λ⟨j,z⟩=>(bM z).elim (λz=>.inr z.2) λz=>.inl (.inr ⟨j,z.2⟩)
 have some_of:∀ b j,b ∈ B j->∃ o,H b=some o:=λb j z=>S.dm b (.inr ⟨j,z⟩)
 refine ⟨S.same.trans e,by rw [List.length_set,List.length_set,S.len],λj t hj=>?_,λj b hb=>?_,λj k b h1 h2=>?_,S.ad,λj b hb=>?_⟩
 · by_cases ej:j=i
   · subst ej
     have hl:j < τ.length:=by
       have:=(List.getElem?_eq_some_iff.mp hj).1
       rwa [List.length_set] at this
     rw [List.getElem?_set_self hl] at hj
     cases hj
     rw [List.getElem?_set_self (by rw [S.len]; exact hl)]
     unfold upB
     rw [if_pos rfl]
     exact h.mono (az (aq.refl _) sub) (aq.refl _)
   · rw [List.getElem?_set_ne (λz=>ej z.symm)] at hj
     rw [List.getElem?_set_ne (λz=>ej z.symm)]
     unfold upB
     rw [if_neg ej]
     have q:=S.sl j t hj
     refine q.mono (λb o z=>?_) e
     obtain ⟨z1,z2⟩:=aB.mp z
     refine aB.mpr ⟨λy=>?_,e _ _ z2⟩
     rcases sub b y with y | y
     · exact z1 y
     · rw [(hf b y).1] at z2; cases z2
 · rcases bM hb with ⟨_,z⟩ | ⟨_,z⟩
   · exact S.same.free (hf b z).1
   · exact S.fr j b z
 · rcases bM h1 with ⟨e1,z1⟩ | ⟨e1,z1⟩ <;> rcases bM h2 with ⟨e2,z2⟩ | ⟨e2,z2⟩
   · exact e1.trans e2.symm
   · obtain ⟨o,q⟩:=some_of b k z2; rw [(hf b z1).1] at q; cases q
   · obtain ⟨o,q⟩:=some_of b j z1; rw [(hf b z2).1] at q; cases q
   · exact S.uq j k b z1 z2
 · rcases bM hb with ⟨_,z⟩ | ⟨_,z⟩
   · exact (hf b z).2
   · obtain ⟨o,q⟩:=S.bd j b z; exact ⟨o,e _ _ q⟩
theorem Sta.less (S:Sta K A H₀ τ B σ H) {i:Nat} {s:Sl} {bs:List Addr} (hb:∀ b ∈ bs,b ∈ B i) (h:∀ G:Hp,aq (hd H (own A B)) G->(∀ b o,b ∈ B i->b ∉ bs->H b=some o->G b=some o)->cW K G H (σ[i]?).join bs s):Sta K A H₀ (τ.set i s) (upB B i bs) σ H:=by
 have sub:∀ b,own A (upB B i bs) b->own A B b:=λb z=>z.elim .inl λ⟨j,z⟩=>(bM z).elim (λz=>.inr ⟨i,hb b z.2⟩) λz=>.inr ⟨j,z.2⟩
 refine ⟨S.same,by rw [List.length_set,S.len],λj t hj=>?_,λj b h=>?_,λj k b h1 h2=>?_,S.ad,λj b h=>(bM h).elim (λz=>S.bd i b (hb b z.2)) λz=>S.bd j b z.2⟩
 · by_cases ej:j=i
   · subst ej
     have hl:j < τ.length:=by
       have:=(List.getElem?_eq_some_iff.mp hj).1
       rwa [List.length_set] at this
     rw [List.getElem?_set_self hl] at hj
     cases hj
     unfold upB
     rw [if_pos rfl]
     refine h _ (az (aq.refl _) sub) λb o z1 z2 z3=>aB.mpr ⟨λy=>?_,z3⟩
     rcases y with y | ⟨m,y⟩
     · obtain ⟨_,q⟩:=S.ad b y
       rw [S.fr j b z1] at q; cases q
     · rcases bM y with ⟨e,y⟩ | ⟨e,y⟩
       · exact z2 y
       · exact e (S.uq m j b y z1)
   · rw [List.getElem?_set_ne (λz=>ej z.symm)] at hj
     unfold upB
     rw [if_neg ej]
     exact (S.sl j t hj).mono (az (aq.refl _) sub) (aq.refl _)
 · rcases bM h with ⟨e,z⟩ | ⟨_,z⟩
   · exact S.fr i b (hb b z)
   · exact S.fr j b z
 · rcases bM h1 with ⟨e1,z1⟩ | ⟨e1,z1⟩ <;> rcases bM h2 with ⟨e2,z2⟩ | ⟨e2,z2⟩
   · exact e1.trans e2.symm
   · exact absurd (S.uq k i b z2 (hb b z1)) e2
   · exact absurd (S.uq j i b z1 (hb b z2)) e1
   · exact S.uq j k b z1 z2
end
end Hy
namespace Hy
open PySem PySem.Spec PyProof.Rows L2
open Ev (D Den au aG aE ar aZ aP)
noncomputable def Fr (H H':Hp) (bs:List Addr):Prop:=∀ b ∈ bs,H b=none/\∃ o,H' b=some o
noncomputable def dE (K:PySem.W.Frag) (C:Bool) (τ:List Sl) (s:Sl):TE:=λσ H Q=>∃ A H₀ B,Sta K A H₀ τ B σ H /\
 ∀ v H' bs,aq H H'->Fr H H' bs->cW K (hd H' λb=>vw C A B b\/b ∈ bs) H' (some v) bs s->Q v H'
noncomputable def dA (K:PySem.W.Frag) (C:Bool) (τ:List Sl) (ds:List D):TA:=λσ H Q=>∃ A H₀ B,Sta K A H₀ τ B σ H /\
 ∀ vs H',aq H H'->au K (hd H' (vw C A B)) vs ds->Q vs H'
noncomputable def dT (K:PySem.W.Frag) (τ:List Sl) (c:Bool):TT:=λσ H Q=>∃ A H₀ B,Sta K A H₀ τ B σ H/\∀ H',aq H H'->Q c H'
structure Po where
 nx:List Sl->Prop
 rt:Sl->Prop
 bk:List Sl->Prop:=λ_=>False
 ct:List Sl->Prop:=λ_=>False
 xc:Hp->Prop:=λ_=>True
structure Meets (K:PySem.W.Frag) (A:Addr->Prop) (H₀:Hp) (N:Po) (D:Ends):Prop where
 nx:∀ τ B σ H,N.nx τ->Sta K A H₀ τ B σ H->D.nx σ H
 bk:∀ τ B σ H,N.bk τ->Sta K A H₀ τ B σ H->D.bk σ H
 ct:∀ τ B σ H,N.ct τ->Sta K A H₀ τ B σ H->D.ct σ H
 rt:∀ v H bs s,N.rt s->aq H₀ H->Fr H₀ H bs->cW K (hd H λb=>A b\/b ∈ bs) H (some v) bs s->D.rt v H
 xc:∀ H,aq H₀ H->N.xc H
noncomputable def dS (K:PySem.W.Frag) (τ:List Sl) (N:Po):TS:=λD σ H=>∃ A H₀ B,Sta K A H₀ τ B σ H/\Meets K A H₀ N D
theorem peW {X:Cx} {e:Expr} {t t':TE} (h:PE X e t) (f:∀ σ H Q,t' σ H Q->t σ H Q):PE X e t':=λpins s σ H Q I q=>h pins s σ H Q I (f σ H Q q)
theorem ptW {X:Cx} {e:Expr} {t t':TT} (h:PT X e t) (f:∀ σ H Q,t' σ H Q->t σ H Q):PT X e t':=λpins s σ H Q I q=>h pins s σ H Q I (f σ H Q q)
theorem pwW {X:Cx} {e:Expr} {t t':TT} (h:PW X e t) (f:∀ σ H Q,t' σ H Q->t σ H Q):PW X e t':=λwh pins s σ H Q I q=>h wh pins s σ H Q I (f σ H Q q)
theorem paW {X:Cx} {e:List Expr} {t t':TA} (h:PA X e t) (f:∀ σ H Q,t' σ H Q->t σ H Q):PA X e t':=λp pins s σ H Q I q=>h p pins s σ H Q I (f σ H Q q)
theorem psW {X:Cx} {e:Stmt} {t t':TS} (h:PS X e t) (f:∀ D σ H,t' D σ H->t D σ H):PS X e t':=λpins s σ H D I q=>h pins s σ H D I (f D σ H q)
theorem rS {X:Cx} {e:List Stmt} {t t':TS} (h:PSs X e t) (f:∀ D σ H,t' D σ H->t D σ H):PSs X e t':=λpins s σ H D I q=>h pins s σ H D I (f D σ H q)
section
variable {K:PySem.W.Frag} {C:Bool} {τ:List Sl} {A:Addr->Prop} {H₀ H H':Hp} {B:Nat->List Addr} {σ:L2.St} {x y z:D} {Q:VK}
theorem mK {b:Addr} (h:vw C A B b):own A B b:=by
 cases C with
 | true=>exact h
 | false=>exact .inl h
theorem Sta.vd (S:Sta K A H₀ τ B σ H) (b:Addr) (h:vw C A B b):∃ o,H b=some o:=S.dm b (mK h)
theorem aW (S:Sta K A H₀ τ B σ H) (k:∀ v H',aq H H'->Den K (hd H' (vw C A B)) v x->Q v H'):dE K C τ (.d x) σ H Q:=
 ⟨A,H₀,B,S,λv H' bs e _ ⟨hb,u,eu,h⟩=>by
   cases eu
   exact k v H' e (h.mono (az (aq.refl _) λ_ z=>.inl z))⟩
theorem dD (h:dE K C τ (.d x) σ H Q):∃ A H₀ B,Sta K A H₀ τ B σ H/\∀ v H',aq H H'->Den K (hd H' (vw C A B)) v x->Q v H':=by
 obtain ⟨A,H₀,B,S,k⟩:=h
 exact ⟨A,H₀,B,S,λv H' e d=>k v H' [] e (λ_ z=>nomatch z) ⟨rfl,v,rfl,d.mono (az (aq.refl _) λ_ z=>z.elim id λz=>nomatch z)⟩⟩
theorem fq {ds:List D} {Q:List V->Hp->Prop} (S:Sta K A H₀ τ B σ H) (k:∀ vs H',aq H H'->au K (hd H' (vw C A B)) vs ds->Q vs H'):dA K C τ ds σ H Q:=⟨A,H₀,B,S,k⟩
theorem iP {M:Addr->Prop} {p:Addr} {o:HO} (hM:∀ b,M b->∃ o,H b=some o) (hp:H p=none):hd (upd H p o) M p=some o:=
 aB.mpr ⟨λz=>(by obtain ⟨o,q⟩:=hM p z; rw [hp] at q; cases q),aL⟩
mutual
noncomputable def ndD:Nd->D
 | .d x=>x
 | .l xs=>.lst (oG xs)
 | .t xs=>.tup (oG xs)
noncomputable def oG:List Nd->List D
 | []=>[]
 | x :: xs=>ndD x :: oG xs
end
noncomputable def fzD:Sl->Option D
 | .un=>none
 | .d x=>some x
 | .o xs=>some (.lst xs)
 | .n t=>some (ndD t)
 | .x _=>none
mutual
theorem de.den {G G':Hp} (g:aq G G'):∀ {u:V} {bs:List Addr} {t:Nd},(∀ b ∈ bs,∀ o,H b=some o->G' b=some o)->de K G H u bs t->Den K G' u (ndD t)
 | _,_,_,_,.d h=>h.mono g
 | _,_,_,e,.l h r=>.lst (SqL.of (e _ (List.mem_cons_self ..) _ h)) (a6.den g (λb hb=>e b (List.mem_cons_of_mem _ hb)) r)
 | _,_,_,e,.t h r=>.tup (SqT.of (e _ (List.mem_cons_self ..) _ h)) (a6.den g (λb hb=>e b (List.mem_cons_of_mem _ hb)) r)
theorem a6.den {G G':Hp} (g:aq G G'):∀ {vs:List V} {bs:List Addr} {xs:List Nd},(∀ b ∈ bs,∀ o,H b=some o->G' b=some o)->a6 K G H vs bs xs->au K G' vs (oG xs)
 | _,_,_,_,.nil=>.nil
 | _,_,_,e,.cons h r=>.cons (de.den g (λb hb=>e b (List.mem_append_left _ hb)) h) (a6.den g (λb hb=>e b (List.mem_append_right _ hb)) r)
end
theorem cW.den {G G':Hp} {v:Option V} {bs:List Addr} {s:Sl} (h:cW K G H v bs s) (g:aq G G') (hv:∀ b ∈ bs,∀ o,H b=some o->G' b=some o) (e:fzD s=some x):∃ u,v=some u/\Den K G' u x:=by
 cases s with
 | un=>cases e
 | d y=>cases e; obtain ⟨_,u,e,q⟩:=h; exact ⟨u,e,q.mono g⟩
 | o xs=>
   cases e
   obtain ⟨a,vs,rfl,h2,h3,h4⟩:=h
   exact ⟨_,h2,.lst (SqL.of (hv a (List.mem_cons_self ..) _ h3)) (h4.mono g)⟩
 | n t=>
   cases e
   obtain ⟨_,u,e,q⟩:=h
   exact ⟨u,e,q.den g hv⟩
 | x E=>cases e
theorem slot_of {i:Nat} {u:V} (h:(σ[i]?).join=some u):σ[i]?=some (some u):=by
 cases e:σ[i]? with
 | none=>rw [e] at h; cases h
 | some o=>rw [e] at h; exact congrArg some h
end
section
variable {X:Cx} {C:Bool} {τ:List Sl} {x y z:D} {a b e:Expr} {es:List Expr} {pos:Pos}
theorem aa (i:Nat) {n:Str} {x:D} (h:τ[i]?=some (.d x):=by rfl) (hN:X.N[i]?=some n:=by rfl) (hv:Vis X.env.scope n:=by first | exact Or.inl rfl | exact Or.inr (Or.inl rfl) | exact Or.inr (Or.inr rfl))
   (hd:(n == ("__debug__" : Str))=false:=by decide) (hcd:(n == ("__classdict__" : Str))=false:=by decide):PE X (.Name n pos) (dE X.K C τ (.d x)):=peW (cD hN hv hd hcd) λσ H Q q=>by
 obtain ⟨A,H₀,B,S,k⟩:=dD q
 obtain ⟨_,u,e,d⟩:=S.sl i _ h
 exact ⟨u,slot_of e,k u H (aq.refl _) (d.mono (az (aq.refl _) λ_ z=>mK z))⟩
theorem xw (i:Nat) {n:Str} {s:Sl} {x:D} (h:τ[i]?=some s:=by rfl) (hx:fzD s=some x:=by rfl) (hN:X.N[i]?=some n:=by rfl) (hv:Vis X.env.scope n:=by first | exact Or.inl rfl | exact Or.inr (Or.inl rfl) | exact Or.inr (Or.inr rfl))
   (hd:(n == ("__debug__" : Str))=false:=by decide) (hcd:(n == ("__classdict__" : Str))=false:=by decide):PE X (.Name n pos) (dE X.K false τ (.d x)):=peW (cD hN hv hd hcd) λσ H Q q=>by
 obtain ⟨A,H₀,B,S,k⟩:=dD q
 obtain ⟨u,e,d⟩:=(S.sl i _ h).den (G':=Hy.hd H A) (az (aq.refl _) λ_ z=>.inl z) (λb hb o ho=>aB.mpr ⟨λz=>(by obtain ⟨_,q⟩:=S.ad b z; rw [S.fr i b hb] at q; cases q),ho⟩) hx
 exact ⟨u,slot_of e,k u H (aq.refl _) d⟩
theorem oo {v:V} (h:PE X e (tC v)) (d:∀ H,Den X.K H v x):PE X e (dE X.K C τ (.d x)):=peW h λσ H Q q=>by
 obtain ⟨A,H₀,B,S,k⟩:=dD q
 exact k v H (aq.refl _) (d _)
theorem af {i j}:PE X (.Constant (.int i) j pos) (dE X.K C τ (.d (.int i))):=oo x9 λ_=>.int
theorem i4 {b j}:PE X (.Constant (.bool b) j pos) (dE X.K C τ (.d (.bl b))):=oo Ai λ_=>.bl
theorem gj {j}:PE X (.Constant .none j pos) (dE X.K C τ (.d .non)):=oo ym λ_=>.non
theorem a8 {s j}:PE X (.Constant (.str s) j pos) (dE X.K C τ (.d (.str s))):=oo xO λ_=>.str
theorem uD {n:Str} {i:Int} (hm:∃ t,X.mg n=some (.int i t)) (hg:Gl X n:=by rfl) (hd:(n == ("__debug__" : Str))=false:=by decide):PE X (.Name n pos) (dE X.K C τ (.d (.int i))):=by
 obtain ⟨t,hm⟩:=hm
 exact oo (pZ (v:=.int i) hg hm ⟨t,rfl⟩ hd) λ_=>.int
theorem aH {s:Sl} (h:PE X e (dE X.K C τ s)) (hx:fzD s=some x:=by rfl):PE X e (dE X.K C τ (.d x)):=peW h λσ H Q q=>by
 obtain ⟨A,H₀,B,S,k⟩:=dD q
 refine ⟨A,H₀,B,S,λv H' bs e hf q=>?_⟩
 have vd:=S.vd (C:=C)
 obtain ⟨u,e1,d⟩:=q.den (G':=Hy.hd H' (vw C A B)) (az (aq.refl _) λ_ z=>.inl z) (λb hb o ho=>aB.mpr ⟨λz=>(by obtain ⟨_,q⟩:=vd b z; rw [(hf b hb).1] at q; cases q),ho⟩) hx
 cases e1
 exact k v H' e d
noncomputable def flat:D->Bool
 | .tup _=>false
 | .lst _=>false
 | .box _=>false
 | _=>true
theorem jM {K:PySem.W.Frag} {G G':Hp} {v:V} (h:Den K G v x) (f:flat x=true):Den K G' v x:=by
 cases h with
 | non=>exact .non
 | bl=>exact .bl
 | int=>exact .int
 | str=>exact .str
 | tup _ _=>cases f
 | lst _ _=>cases f
 | box _=>cases f
noncomputable def cQ (X:Cx) (f:Value->Value->Sem Value) (x y z:D):Prop:=∃ r:R2,OpR X f r /\
 ∀ (M:Addr->Prop) (v w:V) (H:Hp) (Q:VK),(∀ b,M b->∃ o,H b=some o)->Den X.K (hd H M) v x->Den X.K (hd H M) w y->(∀ u H',aq H H'->Den X.K (hd H' M) u z->Q u H')->r v w H Q
theorem two {r:R2} (hr:∀ (M:Addr->Prop) (v w:V) (H:Hp) (Q:VK),(∀ b,M b->∃ o,H b=some o)->Den X.K (hd H M) v x->Den X.K (hd H M) w y->(∀ u H',aq H H'->Den X.K (hd H' M) u z->Q u H')->r v w H Q) :
   ∀ σ H Q,dE X.K C τ (.d z) σ H Q->tOp r (dE X.K C τ (.d x)) (dE X.K C τ (.d y)) σ H Q:=by
 intro σ H Q h
 obtain ⟨A,H₀,B,S,k⟩:=dD h
 refine aW S λv H1 e1 d1=>aW (S.mono e1) λw H2 e2 d2=>hr (vw C A B) v w H2 Q ((S.mono e1).mono e2).vd (d1.mono (az e2 λ_ z=>z)) d2 λu H' e3 d3=>k u H' (e1.trans (e2.trans e3)) d3
theorem aA {op:Operator} (ha:PE X a (dE X.K C τ (.d x))) (hb:PE X b (dE X.K C τ (.d y))) (ho:cQ X (binaryOp op) x y z):PE X (.BinOp a op b pos) (dE X.K C τ (.d z)):=by
 obtain ⟨r,h1,h2⟩:=ho
 exact peW (ua h1 ha hb) (two h2)
theorem d9 {op:CmpOp} (ha:PE X a (dE X.K C τ (.d x))) (hb:PE X b (dE X.K C τ (.d y))) (ho:cQ X (compareOp op) x y z) (hm:behindInMarks op b=false:=by first | exact um _ | rfl):PE X (.Compare a [op] [b] pos) (dE X.K C τ (.d z)):=by
 obtain ⟨r,h1,h2⟩:=ho
 exact peW (va h1 ha hb hm) (two h2)
theorem tN {t:TE} {c:Bool} (h:∀ σ H Q,dE X.K false τ (.d (.bl c)) σ H Q->t σ H Q):∀ σ H Q,dT X.K τ c σ H Q->t σ H λx H'=>∃ k,x=.bl k/\Q k H':=λσ H Q ⟨A,H₀,B,S,k⟩=>
 h σ H _ (aW S λv H' e d=>by cases d; exact ⟨c,rfl,k H' e⟩)
theorem aF {op:CmpOp} {c:Bool} (ha:PE X a (dE X.K false τ (.d x))) (hb:PE X b (dE X.K false τ (.d y))) (ho:cQ X (compareOp op) x y (.bl c)) (hm:behindInMarks op b=false:=by first | exact um _ | rfl):PT X (.Compare a [op] [b] pos) (dT X.K τ c):=by
 obtain ⟨r,h1,h2⟩:=ho
 exact ptW (vS h1 ha hb hm) (tN (two h2))
theorem bo {c:Bool} (h:PE X e (dE X.K false τ (.d (.bl c)))) (he:∀ whole,isTrue e X.env whole=(do let v <- whole; standAt e.pos; holding [v] (truthy v)):=by intro _; rfl):PT X e (dT X.K τ c):=
 ptW (yd h he) (tN λ_ _ _ q=>q)
theorem oA {g:Int->Int->V} {P:Int->Int->Prop} {i j:Int} (hc:P i j) (hz:∀ K H,Den K H (g i j) z):∀ (M:Addr->Prop) (v w:V) (H:Hp) (Q:VK),(∀ b,M b->∃ o,H b=some o)->Den X.K (hd H M) v (.int i)->Den X.K (hd H M) w (.int j) ->
   (∀ u H',aq H H'->Den X.K (hd H' M) u z->Q u H')->rI P g v w H Q:=λ_ v w H Q _ d1 d2 k=>by
 cases d1
 cases d2
 exact ⟨i,j,rfl,rfl,hc,k _ H (aq.refl _) (hz _ _)⟩
theorem k6 {g:Int->Int->V} {i j:Int} (hz:∀ K H,Den K H (g i j) z):∀ (M:Addr->Prop) (v w:V) (H:Hp) (Q:VK),(∀ b,M b->∃ o,H b=some o)->Den X.K (hd H M) v (.int i)->Den X.K (hd H M) w (.int j) ->
   (∀ u H',aq H H'->Den X.K (hd H' M) u z->Q u H')->rI0 g v w H Q:=λ_ v w H Q _ d1 d2 k=>by
 cases d1
 cases d2
 exact ⟨i,j,rfl,rfl,k _ H (aq.refl _) (hz _ _)⟩
variable {i j:Int}
theorem bj:cQ X (binaryOp .Add) (.int i) (.int j) (.int (i + j)):=⟨_,xF,k6 λ_ _=>.int⟩
theorem fj:cQ X (binaryOp .Sub) (.int i) (.int j) (.int (i - j)):=⟨_,xu,k6 λ_ _=>.int⟩
theorem aG.ok' {i j:Int} (h:aG i j):IntMulOk i j:=by
 have b:∀ {k:Int} {n:Nat},k.natAbs.log2 < n->Builtin.Int.intBits k<=n:=λ{k n} q=>by
   unfold Builtin.Int.intBits
   split
   · exact Nat.zero_le _
   · exact q
 rcases h with h | h | ⟨h1,h2⟩
 · exact .of_left (b h)
 · exact .of_right (b h)
 · exact .of_bits (Nat.le_trans (b h1) (by decide)) (Nat.le_trans (b h2) (by decide))
theorem bC (h:aG i j):cQ X (binaryOp .Mult) (.int i) (.int j) (.int (i * j)):=⟨rI aG λi j=>.int (i * j),opI λ_ _ _ _ _ _ _ hc q=>mul_int q (aG.ok' hc),oA h λ_ _=>.int⟩
theorem bW (h:aE j):cQ X (binaryOp .FloorDiv) (.int i) (.int j) (.int (i.fdiv j)):=⟨rI (λ_ j=>aE j) λi j=>.int (i.fdiv j),opI λ_ _ _ _ _ _ _ hc q=>floordiv_int hc.1 q (.inl (PyProof.noPylong_of_log2 hc.2)),oA h λ_ _=>.int⟩
theorem cc (h:j ≠ 0):cQ X (binaryOp .Mod) (.int i) (.int j) (.int (i.fmod j)):=⟨_,vU,oA h λ_ _=>.int⟩
theorem gh (h:AJ i j):cQ X (binaryOp .Pow) (.int i) (.int j) (.int (i ^ j.toNat)):=⟨_,yI,oA h λ_ _=>.int⟩
theorem Ax (h:0<=j):cQ X (binaryOp .RShift) (.int i) (.int j) (.int (i / 2 ^ j.toNat)):=⟨_,xD,oA h λ_ _=>.int⟩
theorem pv:cQ X (compareOp .Lt) (.int i) (.int j) (.bl (decide (i < j))):=⟨_,zr,k6 λ_ _=>.bl⟩
theorem v8:cQ X (compareOp .LtE) (.int i) (.int j) (.bl (decide (i<=j))):=⟨_,zM,k6 λ_ _=>.bl⟩
theorem mW:cQ X (compareOp .Gt) (.int i) (.int j) (.bl (decide (j < i))):=⟨_,Az,k6 λ_ _=>.bl⟩
theorem yg:cQ X (compareOp .GtE) (.int i) (.int j) (.bl (decide (j<=i))):=⟨_,zf,k6 λ_ _=>.bl⟩
theorem bJ:cQ X (compareOp .Eq) (.int i) (.int j) (.bl (decide (i=j))):=⟨_,zv,λ_ v w H Q _ d1 d2 k=>by
 cases d1
 cases d2
 exact ⟨rfl,by rw [show decide (V.int i=V.int j)=decide (i=j) by simp]; exact k _ H (aq.refl _) .bl⟩⟩
theorem gD:cQ X (compareOp .NotEq) (.int i) (.int j) (.bl (!decide (i=j))):=⟨_,wH,λ_ v w H Q _ d1 d2 k=>by
 cases d1
 cases d2
 exact ⟨rfl,by rw [show decide (V.int i=V.int j)=decide (i=j) by simp]; exact k _ H (aq.refl _) .bl⟩⟩
theorem fS (h:PE X a (dE X.K C τ (.d (.int i)))):PE X (.UnaryOp .USub a pos) (dE X.K C τ (.d (.int (-i)))):=peW (zt yK h) λσ H Q q=>by
 obtain ⟨A,H₀,B,S,k⟩:=dD q
 refine aW S λv H1 e1 d1=>?_
 cases d1
 exact ⟨i,rfl,k _ H1 e1 .int⟩
theorem sW {e:Expr}:PE X e λ_ _ _=>False:=λ_ _ _ _ _ _ h=>h.elim
theorem pw_no {e:Expr}:PW X e λ_ _ _=>False:=λ_ _ _ _ _ _ _ h=>h.elim
variable {p q:Bool} {c:Expr} {rest:List Expr}
theorem ir {op} {s:Sl} (h:PE X a (dE X.K C τ s)):PE X (.BoolOp op [a] pos) (dE X.K C τ s):=x6 h
theorem fb (ha:PE X a (dE X.K C τ (.d (.bl p)))) (hb:p=true->PE X (.BoolOp .And (b :: rest) pos) (dE X.K C τ (.d (.bl q)))):PE X (.BoolOp .And (a :: b :: rest) pos) (dE X.K C τ (.d (.bl (p && q)))):=by
 cases p with
 | false=>
   refine peW (uc ha sW) λσ H Q z=>?_
   obtain ⟨A,H₀,B,S,k⟩:=dD z
   exact aW S λv H' e d=>by cases d; exact ⟨_,rfl,k _ H' e .bl⟩
 | true=>
   refine peW (uc ha (hb rfl)) λσ H Q z=>?_
   obtain ⟨A,H₀,B,S,k⟩:=dD z
   exact aW S λv H' e d=>by cases d; exact ⟨_,rfl,aW (S.mono e) λv H2 e2 d2=>k v H2 (e.trans e2) d2⟩
theorem wL (ha:PE X a (dE X.K C τ (.d (.bl p)))):PE X (.UnaryOp .Not a pos) (dE X.K C τ (.d (.bl (!p)))):=peW (yz ha) λσ H Q z=>by
 obtain ⟨A,H₀,B,S,k⟩:=dD z
 exact aW S λv H' e d=>by cases d; exact ⟨_,rfl,k _ H' e .bl⟩
theorem jH (ha:PT X a (dT X.K τ p)):PW X (.BoolOp .And [a] pos) (dT X.K τ p):=pw_and1 ha
theorem hU (ha:PT X a (dT X.K τ p)):PW X (.BoolOp .Or [a] pos) (dT X.K τ p):=pw_or1 ha
theorem lb (ha:PT X a (dT X.K τ p)) (hb:p=true->PW X (.BoolOp .And (b :: rest) pos) (dT X.K τ q)):PW X (.BoolOp .And (a :: b :: rest) pos) (dT X.K τ (p && q)):=by
 cases p with
 | false=>exact pwW (pw_and ha pw_no) λσ H Q ⟨A,H₀,B,S,k⟩=>⟨A,H₀,B,S,λH' e=>qY (k H' e)⟩
 | true=>exact pwW (pw_and ha (hb rfl)) λσ H Q ⟨A,H₀,B,S,k⟩=>⟨A,H₀,B,S,λH' e=>rE (⟨A,H₀,B,S.mono e,λH2 e2=>k H2 (e.trans e2)⟩)⟩
theorem fO (ha:PT X a (dT X.K τ p)) (hb:p=false->PW X (.BoolOp .Or (b :: rest) pos) (dT X.K τ q)):PW X (.BoolOp .Or (a :: b :: rest) pos) (dT X.K τ (p || q)):=by
 cases p with
 | true=>exact pwW (pw_or ha pw_no) λσ H Q ⟨A,H₀,B,S,k⟩=>⟨A,H₀,B,S,λH' e=>rE (k H' e)⟩
 | false=>exact pwW (pw_or ha (hb rfl)) λσ H Q ⟨A,H₀,B,S,k⟩=>⟨A,H₀,B,S,λH' e=>qY (⟨A,H₀,B,S.mono e,λH2 e2=>k H2 (e.trans e2)⟩)⟩
theorem bB (ha:PT X a (dT X.K τ p)):PT X (.UnaryOp .Not a pos) (dT X.K τ (!p)):=ptW (w8 ha) λσ H Q ⟨A,H₀,B,S,k⟩=>⟨A,H₀,B,S,λH' e=>k H' e⟩
theorem oE {s:Sl} (hc:PT X c (dT X.K τ p)) (ha:p=true->PE X a (dE X.K C τ s)) (hb:p=false->PE X b (dE X.K C τ s)):PE X (.IfExp c a b pos) (dE X.K C τ s):=by
 have fin:∀ {σ H H' Q} {A:Addr->Prop} {H₀ B},Sta X.K A H₀ τ B σ H->(∀ v H' bs,aq H H'->Fr H H' bs->cW X.K (hd H' λb=>vw C A B b\/b ∈ bs) H' (some v) bs s->Q v H')->aq H H'->dE X.K C τ s σ H' Q:=λS k e=>
   ⟨_,_,_,S.mono e,λv H2 bs e2 hf h=>k v H2 bs (e.trans e2) (λb hb=>⟨e.free (hf b hb).1,(hf b hb).2⟩) h⟩
 cases p with
 | true=>exact peW (oB hc (ha rfl) sW) λσ H Q ⟨A,H₀,B,S,k⟩=>⟨A,H₀,B,S,λH' e=>rE (fin S k e)⟩
 | false=>exact peW (oB hc sW (hb rfl)) λσ H Q ⟨A,H₀,B,S,k⟩=>⟨A,H₀,B,S,λH' e=>qY (fin S k e)⟩
theorem mR {op op':CmpOp} (ha:PE X a (dE X.K C τ (.d x))) (hb:PE X b (dE X.K C τ (.d y))) (hc:PE X c (dE X.K C τ (.d z))) (h1:cQ X (compareOp op) x y (.bl p)) (h2:cQ X (compareOp op') y z (.bl q))
   (hm:lastMarks [op,op'] [b,c]=false:=by with_unfolding_all rfl):PE X (.Compare a [op,op'] [b,c] pos) (dE X.K C τ (.d (.bl (p && q))))/\(C=false->PT X (.Compare a [op,op'] [b,c] pos) (dT X.K τ (p && q))):=by
 obtain ⟨r,o1,k1⟩:=h1
 obtain ⟨r',o2,k2⟩:=h2
 have key:∀ σ H Q,dE X.K C τ (.d (.bl (p && q))) σ H Q->o9 r r' (dE X.K C τ (.d x)) (dE X.K C τ (.d y)) (dE X.K C τ (.d z)) σ H Q:=λσ H Q h=>by
   obtain ⟨A,H₀,B,S,k⟩:=dD h
   refine aW S λv H1 e1 d1=>aW (S.mono e1) λw H2 e2 d2=>k1 (vw C A B) v w H2 _ ((S.mono e1).mono e2).vd (d1.mono (az e2 λ_ z=>z)) d2 λu H3 e3 d3=>?_
   cases d3
   refine ⟨p,rfl,?_⟩
   cases p with
   | false=>exact qY (k _ H3 (e1.trans (e2.trans e3)) .bl)
   | true=>exact rE (aW (((S.mono e1).mono e2).mono e3) λw' H4 e4 d4=>k2 (vw C A B) w w' H4 Q ((((S.mono e1).mono e2).mono e3).mono e4).vd (d2.mono (az (e3.trans e4) λ_ z=>z)) d4 λu H5 e5 d5=>k u H5 (e1.trans (e2.trans (e3.trans (e4.trans e5)))) d5)
 exact ⟨peW (uA o1 o2 ha hb hc hm) key,λhC=>by subst hC; exact ptW (tK o1 o2 ha hb hc hm) (tN key)⟩
theorem ah:PA X [] (dA X.K C τ []):=paW dQ λσ H Q ⟨A,H₀,B,S,k⟩=>k [] H (aq.refl _) .nil
theorem ae {ds:List D} (ha:PE X e (dE X.K C τ (.d x))) (hr:PA X es (dA X.K C τ ds)) (hs:starEach (e :: es) X.env=(false,eval e X.env) :: starEach es X.env:=by rfl):PA X (e :: es) (dA X.K C τ (x :: ds)):=paW (bA ha hr hs) λσ H Q ⟨A,H₀,B,S,k⟩=>
 aW S λv H1 e1 d1=>fq (S.mono e1) λvs H2 e2 d2=>k _ H2 (e1.trans e2) (.cons (d1.mono (az e2 λ_ z=>z)) d2)
theorem cf {ds:List D} {m} (h:PA X es (dA X.K C τ ds)) (hl:Nat.ble ds.length 1000=true:=by rfl):PE X (.Tuple es m pos) (dE X.K C τ (.d (.tup ds))):=peW (uz h) λσ H Q q=>by
 obtain ⟨A,H₀,B,S,k⟩:=dD q
 refine fq S λvs H1 e1 d1=>⟨by rw [d1.length]; exact Nat.le_of_lt (iy (Nat.le_of_ble_eq_true hl)),λp hp=>k _ _ (e1.trans (ar hp _)) ?_⟩
 exact .tup (SqT.of (iP (S.mono e1).vd hp)) (d1.mono (az (ar hp _) λ_ z=>z))
theorem br {ds:List D} (h:PA X es (dA X.K C τ ds)) (hl:Nat.ble ds.length 1000=true:=by rfl):PE X (.List es pos) (dE X.K C τ (.o ds)):=peW (xI h) λσ H Q ⟨A,H₀,B,S,k⟩=>
 fq S λvs H1 e1 d1=>⟨by rw [d1.length]; exact Nat.le_of_lt (iy (Nat.le_of_ble_eq_true hl)),λp hp=>k _ _ [p] (e1.trans (ar hp _)) (λb hb=>by
   obtain rfl:=List.mem_singleton.mp hb
   exact ⟨e1.free hp,_,aL⟩) ⟨p,vs,rfl,rfl,aL,d1.mono λb o z=>by
     obtain ⟨z1,z2⟩:=aB.mp z
     refine aB.mpr ⟨λy=>?_,ar hp _ _ _ z2⟩
     rcases y with y | y
     · exact z1 y
     · rw [List.mem_singleton.mp y] at z2; rw [hp] at z2; cases z2⟩⟩
end
noncomputable def spD (K:PySem.W.Frag) (Φ:List D->Sl->Prop):Sp:=λvs H Q _=>∃ A ds s,(∀ b,A b->∃ o,H b=some o)/\au K (hd H A) vs ds/\Φ ds s /\
 ∀ v H' bs,aq H H'->Fr H H' bs->cW K (hd H' λb=>A b\/b ∈ bs) H' (some v) bs s->Q v H'
noncomputable def Cal (P:Program) (w:World) (K:PySem.W.Frag) (mg:Str->Option Value) (base:Heap) (k:Nat) (n:Str) (Φ:List D->Sl->Prop):Prop:=
 ∃ f fd ps,aJ P w K mg base CX0 k f fd ps (spD K Φ)/\mg n=some (.ref f)/\PySem.W.keepIn K (.ref f)=true/\Binds K fd ps []
theorem Cal.mono {P:Program} {w:World} {K:PySem.W.Frag} {mg:Str->Option Value} {base:Heap} {j k:Nat} {n:Str} {Φ:List D->Sl->Prop} (c:Cal P w K mg base j n Φ) (h:j<=k):Cal P w K mg base k n Φ:=
 let ⟨f,fd,ps,F,r⟩:=c; ⟨f,fd,ps,F.mono h,r⟩
noncomputable def aj:List Str:=["len","abs","max","min","int","bool","list","tuple","str","isinstance","range","enumerate","all","zip","sorted","sum","any","reversed"]
structure Bk (X:Cx) (k:Nat):Prop where
 room:dM k X.A
 calm:X.calm=true
 blt:∀ x ∈ aj,X.mg x=none
 po:PassesOwn (model X.prog X.w) X.A X.env X.xe
section
variable {X:Cx} {C:Bool} {τ:List Sl} {x y z:D} {a b e:Expr} {es:List Expr} {pos p:Pos} {k:Nat} {s:Sl} {ds:List D} {i j:Int}
theorem x_call {n:Str} {Φ:List D->Sl->Prop} (B:Bk X k) (c:Cal X.prog X.w X.K X.mg X.base k n Φ) (ha:PA X (e :: es) (dA X.K C τ ds)) (h:Φ ds s) (hg:Gl X n:=by rfl) (hdb:(n == ("__debug__" : Str))=false:=by decide)
   (he:starEach (e :: es) X.env=(false,eval e X.env) :: starEach es X.env:=by rfl) (hpl:(backTo pos (starEach es X.env)).any (·.1)=false:=by rfl):PE X (.Call (.Name n p) (e :: es) [] pos) (dE X.K C τ s):=by
 obtain ⟨f,fd,ps,F,hm,hk,hb⟩:=c
 refine peW (lL F B.room hg hm hk hb .nil wM ha hdb he hpl) λσ H Q ⟨A,H₀,B,S,q⟩=>fq S λvs H1 e1 d1=>?_
 rw [List.append_nil]
 exact ⟨vw C A B,ds,s,(S.mono e1).vd,d1,h,λv H' bs e2 hf h2=>q v H' bs (e1.trans e2) (λb hb=>⟨e1.free (hf b hb).1,(hf b hb).2⟩) h2⟩
noncomputable def gp (X:Cx) (f:Value) (ds:List D) (s:Sl):Prop:=∃ r:List V->Hp->VK->Prop,cY X f r /\
 ∀ (M:Addr->Prop) (vs:List V) (H:Hp) (Q:VK),(∀ b,M b->∃ o,H b=some o)->au X.K (hd H M) vs ds->(∀ u H' bs,aq H H'->Fr H H' bs->cW X.K (hd H' λb=>M b\/b ∈ bs) H' (some u) bs s->Q u H')->r vs H Q
theorem pk {r:List V->Hp->VK->Prop} (hr:∀ (M:Addr->Prop) (vs:List V) (H:Hp) (Q:VK),(∀ b,M b->∃ o,H b=some o)->au X.K (hd H M) vs ds->(∀ u H' bs,aq H H'->Fr H H' bs->cW X.K (hd H' λb=>M b\/b ∈ bs) H' (some u) bs s->Q u H')->r vs H Q) :
   ∀ σ H Q,dE X.K C τ s σ H Q->tCB r (dA X.K C τ ds) σ H Q:=λσ H Q ⟨A,H₀,B,S,q⟩=>
 fq S λvs H1 e1 d1=>hr (vw C A B) vs H1 Q (S.mono e1).vd d1 λv H' bs e2 hf h2=>q v H' bs (e1.trans e2) (λb hb=>⟨e1.free (hf b hb).1,(hf b hb).2⟩) h2
theorem a5 {n:Str} {id:String} (B:Bk X k) (ha:PA X (e :: es) (dA X.K C τ ds)) (c:gp X (.builtin id) ds s) (hn:n ∈ aj:=by decide) (hg:Gl X n:=by rfl) (hv:bootBuiltins n=some (.builtin id):=by decide +kernel) (h1:n ≠ "__name__":=by decide) (hdb:(n == ("__debug__" : Str))=false:=by decide)
   (he:starEach (e :: es) X.env=(false,eval e X.env) :: starEach es X.env:=by rfl) (hpl:(backTo pos (starEach es X.env)).any (·.1)=false:=by rfl):PE X (.Call (.Name n p) (e :: es) [] pos) (dE X.K C τ s):=by
 obtain ⟨r,h1,h2⟩:=c
 exact peW (fM h1 hg (B.blt _ hn) hv ha (by assumption) hdb he hpl) (pk h2)
theorem mZ {n:Str} {T:String} (B:Bk X k) (ha:PA X (e :: es) (dA X.K C τ ds)) (c:gp X (.type T) ds s) (hn:n ∈ aj:=by decide) (hg:Gl X n:=by rfl) (hv:bootBuiltins n=some (.type T):=by decide +kernel) (h1:n ≠ "__name__":=by decide) (hdb:(n == ("__debug__" : Str))=false:=by decide)
   (he:starEach (e :: es) X.env=(false,eval e X.env) :: starEach es X.env:=by rfl) (hpl:(backTo pos (starEach es X.env)).any (·.1)=false:=by rfl):PE X (.Call (.Name n p) (e :: es) [] pos) (dE X.K C τ s):=by
 obtain ⟨r,h1,h2⟩:=c
 exact peW (rK h1 hg (B.blt _ hn) hv ha (by assumption) hdb he hpl) (pk h2)
theorem gg {K:PySem.W.Frag} {H:Hp} {M:Addr->Prop} {v:V} (h:Den K (hd H M) v x):cW K (hd H λb=>M b\/b ∈ ([]:List Addr)) H (some v) [] (.d x):=⟨rfl,v,rfl,h.mono (az (aq.refl _) λ_ z=>z.elim id λz=>nomatch z)⟩
theorem cC {H H':Hp}:Fr H H' []:=λ_ z=>nomatch z
theorem cX {xs:List D}:gp X (.builtin "len") [.lst xs] (.d (.int xs.length)):=⟨_,gP,λM vs H Q _ d q=>by
 cases d with
 | cons d r=>
   cases r
   cases d with
   | lst h r=>
     refine ⟨_,_,rfl,.inl (aP aI h),?_⟩
     rw [r.length]
     exact q _ H [] (aq.refl _) cC (gg .int)⟩
theorem jl {xs:List D}:gp X (.builtin "len") [.tup xs] (.d (.int xs.length)):=⟨_,gP,λM vs H Q _ d q=>by
 cases d with
 | cons d r=>
   cases r
   cases d with
   | tup h r=>
     refine ⟨_,_,rfl,.inr (aZ aI h),?_⟩
     rw [r.length]
     exact q _ H [] (aq.refl _) cC (gg .int)⟩
noncomputable def kn (i:Int):Int:=if i < 0 then -i else i
theorem jL:gp X (.builtin "abs") [.int i] (.d (.int (kn i))):=⟨_,sJ,λM vs H Q _ d q=>by
 cases d with
 | cons d r=>
   cases r
   cases d
   exact ⟨_,rfl,q _ H [] (aq.refl _) cC (gg .int)⟩⟩
theorem wI (hc:X.calm=true):gp X (.builtin "max") [.int i,.int j] (.d (.int (if j > i then j else i))):=⟨_,rg hc,λM vs H Q _ d q=>by
 cases d with
 | cons d r=>
   cases r with
   | cons d' r=>
     cases r
     cases d
     cases d'
     exact ⟨_,_,rfl,q _ H [] (aq.refl _) cC (gg .int)⟩⟩
theorem qE (hc:X.calm=true):gp X (.builtin "min") [.int i,.int j] (.d (.int (if j < i then j else i))):=⟨_,rY hc,λM vs H Q _ d q=>by
 cases d with
 | cons d r=>
   cases r with
   | cons d' r=>
     cases r
     cases d
     cases d'
     exact ⟨_,_,rfl,q _ H [] (aq.refl _) cC (gg .int)⟩⟩
theorem qH {c:Bool}:gp X (.type "int") [.bl c] (.d (.int (if c then 1 else 0))):=⟨_,rQ,λM vs H Q _ d q=>by
 cases d with
 | cons d r=>
   cases r
   cases d
   exact .inr ⟨_,rfl,q _ H [] (aq.refl _) cC (gg .int)⟩⟩
theorem jz {K:PySem.W.Frag} {H:Hp} {M:Addr->Prop} {p:Addr} {vs:List V} {xs:List D} (hp:H p=none) (d:au K (hd H M) vs xs) :
   aq H (upd H p (.lst vs))/\Fr H (upd H p (.lst vs)) [p]/\cW K (hd (upd H p (.lst vs)) λb=>M b\/b ∈ [p]) (upd H p (.lst vs)) (some (.ref p)) [p] (.o xs):=
 ⟨ar hp _,λb hb=>by
   obtain rfl:=List.mem_singleton.mp hb
   exact ⟨hp,_,aL⟩,p,vs,rfl,rfl,aL,d.mono λb o z=>by
     obtain ⟨z1,z2⟩:=aB.mp z
     refine aB.mpr ⟨λy=>?_,ar hp _ _ _ z2⟩
     rcases y with y | y
     · exact z1 y
     · rw [List.mem_singleton.mp y] at z2; rw [hp] at z2; cases z2⟩
theorem yu {xs:List D}:gp X (.type "list") [.lst xs] (.o xs):=⟨_,gK,λM vs H Q _ d q=>by
 cases d with
 | cons d r=>
   cases r
   cases d with
   | lst h r=>
     refine ⟨_,_,rfl,.inl (aP aI h),λp hp=>?_⟩
     obtain ⟨z1,z2,z3⟩:=jz (K:=X.K) (M:=M) hp r
     exact q _ _ [p] z1 z2 z3⟩
theorem qK {xs:List D}:gp X (.type "list") [.tup xs] (.o xs):=⟨_,gK,λM vs H Q _ d q=>by
 cases d with
 | cons d r=>
   cases r
   cases d with
   | tup h r=>
     refine ⟨_,_,rfl,.inr (aZ aI h),λp hp=>?_⟩
     obtain ⟨z1,z2,z3⟩:=jz (K:=X.K) (M:=M) hp r
     exact q _ _ [p] z1 z2 z3⟩
theorem ui {K:PySem.W.Frag} {H:Hp} {vs:List V} {ds:List D} {i:Int} {d:D} (r:au K H vs ds) (h:atI ds i=some d):∃ v,atI vs i=some v/\Den K H v d:=by
 unfold atI at h ⊢
 rw [r.length]
 cases e:ixN ds.length i with
 | none=>rw [e] at h; cases h
 | some j=>rw [e] at h; exact r.get h
noncomputable def xy (X:Cx) (x y z:D):Prop:=∃ r:R2,IxR X r /\
 ∀ (M:Addr->Prop) (v w:V) (H:Hp) (Q:VK),(∀ b,M b->∃ o,H b=some o)->Den X.K (hd H M) v x->Den X.K (hd H M) w y->(∀ u H',aq H H'->Den X.K (hd H' M) u z->Q u H')->r v w H Q
theorem aQ (ha:PE X a (dE X.K C τ (.d x))) (hb:PE X b (dE X.K C τ (.d y))) (ho:xy X x y z) (hs:qP b:=by exact λ_ _=>rfl):PE X (.Subscript a b pos) (dE X.K C τ (.d z)):=by
 obtain ⟨r,h1,h2⟩:=ho
 exact peW (zB h1 ha hb hs) (two h2)
theorem aO {xs:List D} (h:atI xs i=some z):xy X (.lst xs) (.int i) z:=⟨_,vo,λM v w H Q _ d1 d2 q=>by
 cases d2
 cases d1 with
 | lst hs r=>
   obtain ⟨v,e,d⟩:=ui r h
   exact ⟨_,_,_,_,rfl,rfl,aP aI hs,e,q _ H (aq.refl _) d⟩⟩
theorem bK {xs:List D} (h:atI xs i=some z):xy X (.tup xs) (.int i) z:=⟨_,yc,λM v w H Q _ d1 d2 q=>by
 cases d2
 cases d1 with
 | tup hs r=>
   obtain ⟨v,e,d⟩:=ui r h
   exact ⟨_,_,_,_,rfl,rfl,aZ aI hs,e,q _ H (aq.refl _) d⟩⟩
noncomputable def dO (K:PySem.W.Frag) (τ:List Sl) (c:Option Int):TO:=λσ H Q=>∃ A H₀ B,Sta K A H₀ τ B σ H/\∀ H',aq H H'->Q c H'
theorem AD {e:Option Expr} {t t':TO} (h:PO X e t) (f:∀ σ H Q,t' σ H Q->t σ H Q):PO X e t':=λpins s σ H Q I q=>h pins s σ H Q I (f σ H Q q)
theorem dH:PO X none (dO X.K τ none):=AD vy λσ H Q ⟨A,H₀,B,S,k⟩=>k H (aq.refl _)
theorem cP (h:PE X e (dE X.K false τ (.d (.int i)))):PO X (some e) (dO X.K τ (some i)):=AD (vm h) λσ H Q ⟨A,H₀,B,S,k⟩=>aW S λv H1 e1 d1=>by
 cases d1
 exact ⟨_,rfl,k H1 e1⟩
noncomputable def cutD (xs:List D) (lo hi:Option Int):List D:=(xs.drop (HT.sIx xs.length 0 lo)).take (HT.sIx xs.length xs.length hi - HT.sIx xs.length 0 lo)
theorem nu {lo hi:Option Expr} {l u:Option Int} {xs:List D} {p2:Pos} (ha:PE X a (dE X.K C τ (.d (.lst xs)))) (hl:PO X lo (dO X.K τ l)) (hu:PO X hi (dO X.K τ u)):PE X (.Subscript a (.Slice lo hi none p2) pos) (dE X.K C τ (.o (cutD xs l u))):=
 peW (n8 uQ ha hl hu) λσ H Q ⟨A,H₀,B,S,k⟩=>aW S λv H1 e1 d1=>⟨A,H₀,B,S.mono e1,λH2 e2=>⟨A,H₀,B,(S.mono e1).mono e2,λH3 e3=>by
   cases d1 with
   | @lst _ ws _ h r=>
     have h:=aP (e2.trans e3) (aP aI h)
     refine ⟨_,_,rfl,h,λp hp=>?_⟩
     have r:=r.mono (az (e2.trans e3) λ_ z=>z)
     have r':au X.K (hd H3 (vw C A B)) (jJ ws l u) (cutD xs l u):=by
       unfold jJ cutD
       rw [r.length]
       exact (r.drop _).take _
     obtain ⟨z1,z2,z3⟩:=jz (K:=X.K) hp r'
     exact k _ _ [p] (e1.trans (e2.trans (e3.trans z1))) (λb hb=>⟨(e1.trans (e2.trans e3)).free (z2 b hb).1,(z2 b hb).2⟩) z3⟩⟩
inductive Ty where
 | int | bool | str | list | tuple
noncomputable def tyN:Ty->String
 | .int=>"int" | .bool=>"bool" | .str=>"str" | .list=>"list" | .tuple=>"tuple"
noncomputable def zQ:D->String
 | .non=>"NoneType" | .bl _=>"bool" | .int _=>"int" | .str _=>"str" | .tup _=>"tuple" | .lst _=>"list" | .box _=>"dict"
noncomputable def cw:Ty->D->Bool
 | .int,.int _=>true
 | .int,.bl _=>true
 | .bool,.bl _=>true
 | .str,.str _=>true
 | .list,.lst _=>true
 | .tuple,.tup _=>true
 | _,_=>false
theorem x5 (K:PySem.W.Frag) (d:D) (t:Ty):PySem.W.kitOne K (.type (zQ d)) (.type (tyN t))=some (cw t d):=by
 cases d <;> cases t <;> (show PySem.W.kitOne K (.type _) (.type _)=some _) <;> with_unfolding_all rfl
theorem yp (t:Ty):cY X (.builtin "isinstance") (λxs H Q=>∃ G x d,aq G H/\xs=[x,.ty (tyN t)]/\Den X.K G x d/\Q (.bl (cw t d)) H):=by
 intro pins s σ H xs us Q I r q
 obtain ⟨G,x,d,sg,rfl,dx,q⟩:=q
 obtain ⟨u,w,rfl,rx,rt⟩:∃ u w,us=[u,w]/\RelV x u/\RelV (.ty (tyN t)) w:=by
   cases r with
   | cons r1 r=>cases r with
     | cons r2 r=>cases r; exact ⟨_,_,rfl,r1,r2⟩
 cases (show w=Value.type (tyN t) from rt)
 have kt:=x5 X.K d t
 have fin:∀ tk,EP X pins σ Q (.bool (cw t d)) { s with toks:=tk }:=λtk=>⟨.bl _,H,I.tok _,rfl,q⟩
 cases dx with
 | non=>cases (show u=Value.none from rx); exact PySem.W.kia_one PySem.W.kitx_none I.kIn True.intro kt (λz=>nomatch z) fin
 | bl=>cases (show u=Value.bool _ from rx); exact PySem.W.kia_one PySem.W.kitx_bool I.kIn True.intro kt (λz=>nomatch z) fin
 | int=>obtain ⟨t',z⟩:=(show ∃ t,u=Value.int _ t from rx); cases z; exact PySem.W.kia_one PySem.W.kitx_int I.kIn True.intro kt (λz=>nomatch z) fin
 | str=>obtain ⟨t',z⟩:=(show ∃ t,u=Value.str _ t from rx); cases z; exact PySem.W.kia_one PySem.W.kitx_str I.kIn True.intro kt (λz=>nomatch z) fin
 | tup h r1=>
   cases (show u=Value.ref _ from rx)
   obtain ⟨its,_,⟨o,h1,h2,_⟩,_⟩:=I.tuple (aZ sg h)
   exact PySem.W.kia_one PySem.W.kitx_tuple I.kIn ⟨o,h1,h2⟩ kt (λz=>nomatch z) fin
 | lst h r1=>
   cases (show u=Value.ref _ from rx)
   obtain ⟨its,_,⟨o,n,h1,h2,_⟩,_⟩:=I.list (aP sg h)
   exact PySem.W.kia_one PySem.W.kitx_list I.kIn ⟨o,h1,h2⟩ kt (λz=>nomatch z) fin
 | @box a x h=>
   cases (show u=Value.ref _ from rx)
   obtain ⟨o',h1,h2⟩:=x.isd h
   obtain ⟨o,h3,h4⟩:=h2 _ _ _ _ (I.hok a _ (sg _ _ h1))
   exact PySem.W.kia_one PySem.W.kitx_dict I.kIn ⟨o,h3,h4⟩ kt (λz=>nomatch z) fin
theorem cx {n:Str} {q:Pos} (t:Ty) (B:Bk X k) (ha:PE X a (dE X.K false τ (.d x))) (hn:n ∈ aj:=by decide) (ht:bootBuiltins n=some (.type (tyN t)):=by decide +kernel) (hg:Gl X "isinstance":=by rfl) (hg':Gl X n:=by rfl) (h1:n ≠ "__name__":=by decide) (hdb:(n == ("__debug__" : Str))=false:=by decide)
   (he:starEach [a,.Name n q] X.env=(false,eval a X.env) :: starEach [.Name n q] X.env:=by rfl) (hpl:(backTo pos (starEach [.Name n q] X.env)).any (·.1)=false:=by rfl):PE X (.Call (.Name "isinstance" p) [a,.Name n q] [] pos) (dE X.K C τ (.d (.bl (cw t x)))):=by
 refine peW (fM (yp t) hg (B.blt _ (by decide)) (by decide +kernel) (bA ha (bA (qd (v:=.ty (tyN t)) hg' (B.blt _ hn) ht rfl h1 hdb) dQ) he) (by decide) (by decide) he hpl) λσ H Q q=>?_
 obtain ⟨A,H₀,B,S,k⟩:=dD q
 exact aW S λv H1 e1 d1=>⟨_,v,x,aI,rfl,d1,k _ H1 e1 .bl⟩
end
section
variable {K:PySem.W.Frag} {A:Addr->Prop} {H₀ H H':Hp} {τ:List Sl} {B:Nat->List Addr} {σ:L2.St}
theorem Sta.put (S:Sta K A H₀ τ B σ H) {i:Nat} {a:Addr} {xs ys:List D} {vs:List V} (hi:τ[i]?=some (.o xs)) (hB:B i=[a]) (d:au K (hd H (own A B)) vs ys):Sta K A H₀ (τ.set i (.o ys)) B σ (upd H a (.lst vs)):=by
 have ha:own A B a:=.inr ⟨i,by rw [hB]; exact List.mem_singleton.mpr rfl⟩
 have ne:∀ b,b ≠ a->upd H a (.lst vs) b=H b:=λb h=>aC h
 have sm:aq (hd H (own A B)) (hd (upd H a (.lst vs)) (own A B)):=λb o z=>by
   obtain ⟨z1,z2⟩:=aB.mp z
   exact aB.mpr ⟨z1,by rw [ne b (λe=>z1 (e ▸ ha))]; exact z2⟩
 have f0:H₀ a=none:=S.fr i a (by rw [hB]; exact List.mem_singleton.mpr rfl)
 have hs:aq H₀ (upd H a (.lst vs)):=λb o z=>by rw [ne b (λe=>by rw [e,f0] at z; cases z)]; exact S.same b o z
 refine ⟨hs,by rw [List.length_set,S.len],λj t hj=>?_,S.fr,S.uq,S.ad,λj b hb=>?_⟩
 · by_cases ej:j=i
   · subst ej
     have hl:=(List.getElem?_eq_some_iff.mp hi).1
     rw [List.getElem?_set_self hl] at hj
     cases hj
     obtain ⟨a',vs',e1,e2,_,_⟩:=S.sl j _ hi
     rw [hB] at e1
     cases e1
     exact ⟨a,vs,hB,e2,aL,d.mono sm⟩
   · rw [List.getElem?_set_ne (λz=>ej z.symm)] at hj
     have q:=S.sl j t hj
     have off:∀ b ∈ B j,b ≠ a:=λb hb e=>ej (S.uq j i a (e ▸ hb) (by rw [hB]; exact List.mem_singleton.mpr rfl))
     cases t with
     | un=>exact q
     | d x=>obtain ⟨z,u,e,d⟩:=q; exact ⟨z,u,e,d.mono sm⟩
     | o zs=>
       obtain ⟨c,ws,z1,z2,z3,z4⟩:=q
       exact ⟨c,ws,z1,z2,by rw [ne c (off c (by rw [z1]; exact List.mem_singleton.mpr rfl))]; exact z3,z4.mono sm⟩
     | n t=>
       obtain ⟨z0,u,z1,z2⟩:=q
       exact ⟨z0,u,z1,z2.frame sm λb hb=>ne b (off b hb)⟩
     | x E=>
       obtain ⟨c,o,z1,z2,z3,z4⟩:=q
       exact ⟨c,o,z1,z2,by rw [ne c (off c (by rw [z1]; exact List.mem_singleton.mpr rfl))]; exact z3,E.mono sm z4⟩
 · by_cases e:b=a
   · subst e; exact ⟨_,aL⟩
   · rw [ne b e]; exact S.bd j b hb
theorem Sta.fz (S:Sta K A H₀ τ B σ H) {i:Nat} {s:Sl} {x:D} (hi:τ[i]?=some s) (hx:fzD s=some x):Sta K A H₀ (τ.set i (.d x)) (upB B i []) σ H:=
 S.less (λ_ z=>nomatch z) λG g hv=>by
   obtain ⟨u,e,d⟩:=(S.sl i s hi).den (G':=G) g (λb hb o ho=>hv b o hb (λz=>nomatch z) ho) hx
   exact ⟨rfl,u,e,d⟩
end
section
variable {X:Cx} {C:Bool} {τ:List Sl} {x y z:D} {a b e c:Expr} {es:List Expr} {pos p:Pos} {k:Nat} {s:Sl} {ds:List D} {N:Po} {st:Stmt} {rest body els:List Stmt}
theorem aR (h:N.nx τ):PSs X [] (dS X.K τ N):=rS u7 λD σ H ⟨A,H₀,B,S,M⟩=>M.nx τ B σ H h S
theorem bh {M:List Sl->Prop} (h1:PS X st (dS X.K τ { N with nx:=M })) (h2:∀ τ',M τ'->PSs X rest (dS X.K τ' N)):PSs X (st :: rest) (dS X.K τ N):=by
 have h:PSs X rest λD σ H=>∃ τ',M τ'/\dS X.K τ' N D σ H:=λpins s σ H D I ⟨τ',m,q⟩=>h2 τ' m pins s σ H D I q
 exact rS (uv h1 h) λD σ H ⟨A,H₀,B,S,Me⟩=>⟨A,H₀,B,S,λτ' B' σ' H' m S'=>⟨τ',m,A,H₀,B',S',Me⟩,Me.bk,Me.ct,Me.rt,Me.xc⟩
theorem mV (i:Nat) {s:Sl} {x:D} (h:PSs X rest (dS X.K (τ.set i (.d x)) N)) (hi:τ[i]?=some s:=by rfl) (hx:fzD s=some x:=by rfl):PSs X rest (dS X.K τ N):=rS h λD σ H ⟨A,H₀,B,S,Me⟩=>⟨A,H₀,_,S.fz hi hx,Me⟩
theorem av (i:Nat) {n:Str} {p:Pos} (hN:X.N.Nodup) (he:PE X e (dE X.K true τ s)) (hr:PSs X rest (dS X.K (τ.set i s) N)) (hi:X.N[i]?=some n:=by rfl) (hx:Loc X.env.scope n:=by first | exact .inl rfl | exact .inr rfl) (hs:swapsWith e (some (.Name n p)) pos.line X.env=pure false:=by rfl)
   (hf:X.fn n=true\/X.env.scope.names.lookup n=some .local:=by first | exact .inl rfl | exact .inr rfl | assumption):PSs X (.Assign [.Name n p] e pos :: rest) (dS X.K τ N):=
 bh (M:=(·=τ.set i s)) (psW (sr hN hi hx he hs hf) λD σ H ⟨A,H₀,B,S,Me⟩=>⟨A,H₀,B,S,λv H' bs e hf h=>Me.nx _ _ _ _ rfl (S.set e hf h)⟩) λ_ e=>e ▸ hr
theorem b9 (he:PE X e (dE X.K true τ s)) (hr:PSs X rest (dS X.K τ N)) (hs:swapsWith e none pos.line X.env=pure false:=by rfl):PSs X (.Expr e pos :: rest) (dS X.K τ N):=
 bh (M:=(·=τ)) (psW (gY he hs) λD σ H ⟨A,H₀,B,S,Me⟩=>⟨A,H₀,B,S,λv H' bs e hf h=>Me.nx _ _ _ _ rfl (S.mono e)⟩) λ_ e=>e ▸ hr
theorem ax (he:PE X e (dE X.K false τ s)) (h:N.rt s):PSs X (.Return (some e) pos :: rest) (dS X.K τ N):=
 bh (M:=λ_=>False) (psW (lG he) λD σ H ⟨A,H₀,B,S,Me⟩=>⟨A,H₀,B,S,λv H' bs e hf q=>Me.rt v H' bs s h (S.same.trans e) (λb hb=>⟨S.same.free (hf b hb).1,(hf b hb).2⟩) q⟩) λ_ e=>e.elim
theorem j4 (i:Nat) {n:Str} (h:N.rt s) (hi:τ[i]?=some s:=by rfl) (h0:s ≠ .un:=by exact nofun) (hN:X.N[i]?=some n:=by rfl) (hv:Vis X.env.scope n:=by first | exact Or.inl rfl | exact Or.inr (Or.inl rfl) | exact Or.inr (Or.inr rfl))
   (hd:(n == ("__debug__" : Str))=false:=by decide) (hcd:(n == ("__classdict__" : Str))=false:=by decide):PSs X (.Return (some (.Name n p)) pos :: rest) (dS X.K τ N):=
 bh (M:=λ_=>False) (psW (lG (cD hN hv hd hcd)) λD σ H ⟨A,H₀,B,S,Me⟩=>by
   have q:=S.sl i s hi
   obtain ⟨u,e⟩:∃ u,(σ[i]?).join=some u:=by
     cases s with
     | un=>exact absurd rfl h0
     | d x=>obtain ⟨_,u,e,_⟩:=q; exact ⟨u,e⟩
     | o xs=>obtain ⟨_,_,_,e,_⟩:=q; exact ⟨_,e⟩
     | n t=>obtain ⟨_,u,e,_⟩:=q; exact ⟨u,e⟩
     | x E=>obtain ⟨_,_,_,e,_⟩:=q; exact ⟨_,e⟩
   rw [e] at q
   exact ⟨u,slot_of e,Me.rt u H (B i) s h S.same (λb hb=>⟨S.fr i b hb,S.bd i b hb⟩) (q.mono (az (aq.refl _) λb z=>z.elim .inl λz=>.inr ⟨i,z⟩) (aq.refl _))⟩) λ_ e=>e.elim
theorem wO {H H':Hp} {σ:L2.St} {D:Ends} {A:Addr->Prop} {H₀:Hp} {B:Nat->List Addr} (S:Sta X.K A H₀ τ B σ H) (Me:Meets X.K A H₀ N D) (e:aq H H'):dS X.K τ N D σ H':=⟨A,H₀,B,S.mono e,Me⟩
theorem AQ {t:Bool} (hc:PT X c (dT X.K τ t)) (ha:t=true->PSs X body (dS X.K τ N)) (hb:t=false->PSs X els (dS X.K τ N)):PS X (.If c body els pos) (dS X.K τ N):=by
 cases t with
 | true=>exact psW (wk hc (ha rfl) kE) λD σ H ⟨A,H₀,B,S,Me⟩=>⟨A,H₀,B,S,λH' e=>rE (wO S Me e)⟩
 | false=>exact psW (wk hc kE (hb rfl)) λD σ H ⟨A,H₀,B,S,Me⟩=>⟨A,H₀,B,S,λH' e=>qY (wO S Me e)⟩
theorem fU {t:Bool} {M:List Sl->Prop} (hc:PT X c (dT X.K τ t)) (ha:t=true->PSs X body (dS X.K τ { N with nx:=M })) (hb:t=false->PSs X els (dS X.K τ { N with nx:=M })) (hr:∀ τ',M τ'->PSs X rest (dS X.K τ' N)):PSs X (.If c body els pos :: rest) (dS X.K τ N):=
 bh (AQ hc ha hb) hr
theorem aY {t:Bool} (hc:PT X c (dT X.K τ t)) (ha:t=true->PSs X body (dS X.K τ { N with nx:=λ_=>False })) (hr:t=false->PSs X rest (dS X.K τ N)):PSs X (.If c body [] pos :: rest) (dS X.K τ N):=by
 cases t with
 | true=>exact fU (M:=λ_=>False) hc ha (λz=>nomatch z) λ_ z=>z.elim
 | false=>exact fU (M:=(·=τ)) hc (λz=>nomatch z) (λ_=>aR rfl) λ_ e=>e ▸ hr rfl
theorem dZ {t:Bool} (hc:PT X c (dT X.K τ t)) (ht:t=false) (hr:PSs X rest (dS X.K τ N)):PSs X (.If c body [] pos :: rest) (dS X.K τ N):=aY hc (λz=>by rw [ht] at z; cases z) λ_=>hr
theorem qR (i:Nat) {n:Str} {xs:List D} {ap cp:Pos} (he:PE X e (dE X.K true τ (.d x))) (hl:xs.length < 1000000) (hr:PSs X rest (dS X.K (τ.set i (.o (xs++[x]))) N)) (hi:τ[i]?=some (.o xs):=by rfl) (hN:X.N[i]?=some n:=by rfl)
   (hv:Vis X.env.scope n:=by first | exact Or.inl rfl | exact Or.inr (Or.inl rfl) | exact Or.inr (Or.inr rfl)) (hd:(n == ("__debug__" : Str))=false:=by decide) (hcd:(n == ("__classdict__" : Str))=false:=by decide)
   (hfew:((backTo cp (starEach [e] X.env)).all (λx=>!x.1) && (backToKw cp (keywordEach [] X.env)).all (λx=>x.1.isSome) && decide (([e]:List Expr).length + ([]:List Keyword).length + (if ([]:List Keyword).isEmpty then 0 else 1) < 30))=true:=by rfl)
   (hline:(ap.endLine == cp.line)=true:=by rfl) (hst:starEach [e] X.env=(false,eval e X.env) :: starEach [] X.env:=by rfl) (hpl:(backTo cp (starEach [] X.env)).any (·.1)=false:=by rfl)
   (hs:swapsWith (.Call (.Attribute (.Name n p) "append" ap) [e] [] cp) none pos.line X.env=pure false:=by rfl) (hbase:attributeBase (.Name n p) "append" X.env (eval (.Name n p) X.env)=eval (.Name n p) X.env:=by rfl) :
   PSs X (.Expr (.Call (.Attribute (.Name n p) "append" ap) [e] [] cp) pos :: rest) (dS X.K τ N):=
 bh (M:=(·=τ.set i (.o (xs++[x])))) (psW (gY (qh PySem.F.plainAttrs_list PySem.F.slot_list_append PySem.F.type_list_append iI (cD hN hv hd hcd) (bA he dQ hst) hbase hfew hline hst hpl) hs) λD σ H ⟨A,H₀,B,S,Me⟩=>by
   obtain ⟨l,vs,hb,e1,e2,d⟩:=S.sl i _ hi
   refine ⟨_,slot_of e1,.inl ⟨rfl,_,SqL.of e2⟩,aW S λv H1 e3 d1=>⟨l,vs,v,rfl,rfl,e3 _ _ e2,by rw [d.length]; exact Nat.lt_trans hl (by decide),?_⟩⟩
   exact Me.nx _ _ _ _ rfl ((S.mono e3).put hi hb ((d.mono (az e3 λ_ z=>z)).append (.cons d1 .nil)))) λ_ e=>e ▸ hr
theorem qe {K:PySem.W.Frag} {H:Hp}:∀ {vs:List V} {ds:List D} {v:V} {d:D} (j:Nat),au K H vs ds->Den K H v d->au K H (vs.set j v) (ds.set j d)
 | _,_,_,_,_,.nil,_=>.nil
 | _,_,_,_,0,.cons _ r,h=>.cons h r
 | _,_,_,_,j + 1,.cons h' r,h=>.cons h' (qe j r h)
theorem tR (i:Nat) {n:Str} {xs:List D} {m:Int} {j:Nat} {ix:Expr} {sp:Pos} (hx:PE X ix (dE X.K false τ (.d (.int m)))) (he:PE X e (dE X.K true τ (.d x))) (hj:ixN xs.length m=some j) (hr:PSs X rest (dS X.K (τ.set i (.o (xs.set j x))) N)) (hi:τ[i]?=some (.o xs):=by rfl) (hN:X.N[i]?=some n:=by rfl)
   (hv:Vis X.env.scope n:=by first | exact Or.inl rfl | exact Or.inr (Or.inl rfl) | exact Or.inr (Or.inr rfl)) (hd:(n == ("__debug__" : Str))=false:=by decide) (hcd:(n == ("__classdict__" : Str))=false:=by decide)
   (hs:swapsWithSole [.Subscript (.Name n p) ix sp] e pos.line X.env=pure false:=by rfl) (hw:swappedStores [.Subscript (.Name n p) ix sp] e X.env=pure none:=by rfl) (h1:(assignEach [.Subscript (.Name n p) ix sp] X.env).map (·.2)=[assign (.Subscript (.Name n p) ix sp) X.env]:=by rfl)
   (ha:∀ v,assign (.Subscript (.Name n p) ix sp) X.env v=(do
     let ov <- holding [v] (eval (.Name n p) X.env)
     let iv <- holding [v,ov] (eval ix X.env)
     standAt sp
     holding [v,ov,iv] (setItem ov iv v)
     release [v,ov,iv] []):=by intro _; rfl) :
   PSs X (.Assign [.Subscript (.Name n p) ix sp] e pos :: rest) (dS X.K τ N):=
 bh (M:=(·=τ.set i (.o (xs.set j x)))) (psW (sa he (w9 (cD hN hv hd hcd) hx set_list ha) hs hw h1) λD σ H ⟨A,H₀,B,S,Me⟩=>aW S λv H1 e1 d1=>by
   obtain ⟨l,vs,hb,f1,f2,d⟩:=(S.mono e1).sl i _ hi
   refine ⟨_,slot_of f1,aW (S.mono e1) λw H2 e2 d2=>?_⟩
   cases d2
   refine ⟨l,vs,m,j,rfl,rfl,e2 _ _ f2,by rw [d.length]; exact hj,?_⟩
   exact Me.nx _ _ _ _ rfl (((S.mono e1).mono e2).put hi hb (qe j (d.mono (az e2 λ_ z=>z)) (d1.mono (az e2 λ_ z=>z))))) λ_ e=>e ▸ hr
end
end Hy
namespace Hy
open PySem PySem.Spec PyProof.Rows L2
open Ev (D Den au ar aZ aP Ite Itz Ao xv qA pK aK hZ fo PTs dz fK)
noncomputable def Yl (K:PySem.W.Frag) (J:L2.It) (xs:List D) (G:Hp):Prop:=∀ H,aq G H->(∀ i,xs.length<=i->J.stop i H)/\∀ (i:Nat) (h:i < xs.length),J.go i H /\
 ∀ x H',J.yld i H x H'->aq H H'/\∀ M:Addr->Prop,(∀ b,M b->∃ o,H b=some o)->aq G (hd H M)->Den K (hd H' M) x xs[i]
noncomputable def dI (K:PySem.W.Frag) (τ:List Sl) (xs:List D):TI:=λσ H R=>∃ A H₀ B,Sta K A H₀ τ B σ H/\∀ J H',aq H H'->Yl K J xs (hd H' (own A B))->R J H'
noncomputable def dG (K:PySem.W.Frag) (τ:List Sl) (x:D) (τ':List Sl):TG:=λv σ H Q=>∃ A H₀ B,Sta K A H₀ τ B σ H/\Den K (hd H (own A B)) v x/\∀ σ' B',Sta K A H₀ τ' B' σ' H->Q σ' H
theorem piW {X:Cx} {tg e:Expr} {t t':TI} (h:PI X tg e t) (f:∀ σ H Q,t' σ H Q->t σ H Q):PI X tg e t':=λpins s σ H Q I q=>h pins s σ H Q I (f σ H Q q)
theorem pgW {X:Cx} {e:Expr} {t t':TG} (h:PG X e t) (f:∀ v σ H Q,t' v σ H Q->t v σ H Q):PG X e t':=λpins s σ H v u Q I r q=>h pins s σ H v u Q I r (f v σ H Q q)
section
variable {K:PySem.W.Frag} {G:Hp} {a:Addr} {vs:List V} {xs:List D}
theorem vf (h:SqL K G a vs) (r:au K G vs xs):Yl K (Itl K a) xs G:=by
 intro H sg
 have hl:=r.length
 refine ⟨λi hi=>⟨vs,aP sg h,by omega⟩,λi hi=>?_⟩
 obtain ⟨v,hv,dv⟩:=r.get (List.getElem?_eq_getElem hi)
 refine ⟨⟨vs,v,aP sg h,hv⟩,λx H' ⟨e1,e2⟩=>?_⟩
 subst e1
 have ex:x=v:=by have:=e2 vs (aP sg h); rw [hv] at this; exact (Option.some.inj this).symm
 subst ex
 exact ⟨aq.refl _,λM _ sv=>dv.mono sv⟩
noncomputable def iF (lo:Int) (n:Nat):List D:=(List.range n).map λk=>D.int (lo + (k:Nat))
theorem ay (lo:Int) (n:Nat):(iF lo n).length=n:=by simp [iF]
theorem gQ (lo:Int) (n i:Nat) (h:i < (iF lo n).length):(iF lo n)[i]=.int (lo + (i:Nat)):=by simp [iF]
theorem pB (lo:Int) (n:Nat):Yl K (Itr lo n) (iF lo n) G:=by
 intro H sg
 refine ⟨λi hi=>by rw [ay] at hi; exact hi,λi hi=>?_⟩
 have hi':i < n:=by rw [ay] at hi; exact hi
 refine ⟨hi',λx H' ⟨e1,e2⟩=>?_⟩
 subst e1 e2
 refine ⟨aq.refl _,λM _ sv=>?_⟩
 rw [gQ]
 exact .int
noncomputable def ja (xs:List D):List D:=(List.range xs.length).map λi=>D.tup [.int (i:Nat),xs.getD i .non]
theorem cb (xs:List D):(ja xs).length=xs.length:=by simp [ja]
theorem mQ (xs:List D) (i:Nat) (h:i < (ja xs).length):(ja xs)[i]=.tup [.int (i:Nat),xs.getD i .non]:=by simp [ja]
theorem xA (h:SqL K G a vs) (r:au K G vs xs):Yl K (Ite K a) (ja xs) G:=by
 intro H sg
 have hl:=r.length
 have el:=cb xs
 refine ⟨λi hi=>⟨vs,aP sg h,by omega⟩,λi hi=>?_⟩
 have hi':i < xs.length:=by omega
 obtain ⟨v,hv,dv⟩:=r.get (List.getElem?_eq_getElem hi')
 refine ⟨⟨vs,v,aP sg h,hv⟩,λy H' ⟨p,x,hp,e0,e1,e2⟩=>?_⟩
 subst e0 e1
 have ex:x=v:=by have:=e2 vs (aP sg h); rw [hv] at this; exact (Option.some.inj this).symm
 subst ex
 refine ⟨ar hp _,λM hM sv=>?_⟩
 rw [mQ,show xs.getD i .non=xs[i] by simp [List.getD,hi']]
 exact .tup (SqT.of (iP hM hp)) (.cons .int (.cons (dv.mono (sv.trans (az (ar hp _) λ_ z=>z))) .nil))
end
section
variable {X:Cx} {C:Bool} {τ:List Sl} {x y z:D} {a b e c tg it:Expr} {es:List Expr} {pos p q:Pos} {k:Nat} {s:Sl} {xs:List D} {N:Po} {st:Stmt} {rest body els:List Stmt}
theorem aV (h:PE X it (dE X.K true τ (.d (.lst xs)))) (hc:X.calm=true:=by first | rfl | assumption):PI X tg it (dI X.K τ xs):=piW (vQ hc h) λσ H R ⟨A,H₀,B,S,k⟩=>aW S λv H1 e1 d1=>by
 cases d1 with
 | lst h r=>exact ⟨_,rfl,⟨_,aP aI h⟩,k _ H1 e1 (vf h r)⟩
theorem eG {n:Int} (B:Bk X k) (h:PE X a (dE X.K false τ (.d (.int n)))) (h1:-(2 ^ 62)<=n) (h2:n < 2 ^ 62) (hg:Gl X "range":=by rfl) (hs:starEach [a] X.env=[(false,eval a X.env)]:=by rfl):PI X tg (.Call (.Name "range" p) [a] [] pos) (dI X.K τ (iF 0 n.toNat)):=
 piW (lB (.inl B.calm) hg (B.blt _ (by decide)) (ae h ah hs) hs) λσ H R ⟨A,H₀,B,S,k⟩=>fq S λvs H1 e1 d1=>by
   cases d1 with
   | cons d r=>
     cases r
     cases d
     exact ⟨n,rfl,h1,h2,k _ H1 e1 (pB 0 _)⟩
theorem jF {m n:Int} (B:Bk X k) (h:PE X a (dE X.K false τ (.d (.int m)))) (h':PE X b (dE X.K false τ (.d (.int n)))) (h1:-(2 ^ 62)<=m/\m < 2 ^ 62/\-(2 ^ 62)<=n/\n < 2 ^ 62) (hg:Gl X "range":=by rfl) (hs:starEach [a,b] X.env=[(false,eval a X.env),(false,eval b X.env)]:=by rfl)
   (hs2:starEach [b] X.env=[(false,eval b X.env)]:=by rfl):PI X tg (.Call (.Name "range" p) [a,b] [] pos) (dI X.K τ (iF m (n - m).toNat)):=
 piW (rd (.inl B.calm) hg (B.blt _ (by decide)) (ae h (ae h' ah hs2) (by rw [hs,hs2])) hs hs2) λσ H R ⟨A,H₀,B,S,k⟩=>fq S λvs H1 e1 d1=>by
   cases d1 with
   | cons d r=>
     cases r with
     | cons d' r=>
       cases r
       cases d
       cases d'
       exact ⟨m,n,rfl,h1,k _ H1 e1 (pB m _)⟩
theorem qv {ts:List Expr} {m:Nat} {tp:Pos} (B:Bk X k) (h:PE X a (dE X.K true τ (.d (.lst xs)))) (hg:Gl X "enumerate":=by rfl) (hs:starEach [a] X.env=[(false,eval a X.env)]:=by rfl):PI X (.Tuple ts m tp) (.Call (.Name "enumerate" p) [a] [] pos) (dI X.K τ (ja xs)):=
 piW (qA B.calm hg (B.blt _ (by decide)) (ae h ah hs) hs) λσ H R ⟨A,H₀,B,S,k⟩=>fq S λvs H1 e1 d1=>by
   cases d1 with
   | cons d r=>
     cases r
     cases d with
     | lst h r=>exact ⟨_,rfl,⟨_,aP aI h⟩,k _ H1 e1 (xA h r)⟩
theorem uW (i:Nat) {n:Str} (hN:X.N.Nodup) (hi:X.N[i]?=some n:=by rfl) (hx:Loc X.env.scope n:=by first | exact .inl rfl | exact .inr rfl) (hf:X.fn n=true\/X.env.scope.names.lookup n=some .local:=by first | exact .inl rfl | exact .inr rfl | assumption):PG X (.Name n p) (dG X.K τ x (τ.set i (.d x))):=
 pgW (gM (i:=i) hN hi hx hf) λv σ H Q ⟨A,H₀,B,S,d,k⟩=>k _ _ (S.set (aq.refl _) (bs:=[]) (λ_ z=>nomatch z) (gg d))
theorem wm (i j:Nat) {n m:Str} {p2 pt:Pos} {md:Nat} (hc:X.calm=true) (hN:X.N.Nodup) (hi:X.N[i]?=some n:=by rfl) (hj:X.N[j]?=some m:=by rfl) (hx:Loc X.env.scope n:=by first | exact .inl rfl | exact .inr rfl) (hy:Loc X.env.scope m:=by first | exact .inl rfl | exact .inr rfl)
   (hf:X.fn n=true\/X.env.scope.names.lookup n=some .local:=by first | exact .inl rfl | exact .inr rfl | assumption) (hf':X.fn m=true\/X.env.scope.names.lookup m=some .local:=by first | exact .inl rfl | exact .inr rfl | assumption) :
   PG X (.Tuple [.Name n p,.Name m p2] md pt) (dG X.K τ (.tup [x,y]) ((τ.set i (.d x)).set j (.d y))):=by
 refine pgW (uK hc (jq (gM (i:=i) hN hi hx hf) (jq (gM (i:=j) hN hj hy hf') qu))) λv σ H Q ⟨A,H₀,B,S,d,k⟩=>?_
 cases d with
 | tup h r=>
   cases r with
   | cons d1 r=>
     cases r with
     | cons d2 r=>
       cases r
       have S1:=S.set (i:=i) (aq.refl _) (bs:=[]) (λ_ z=>nomatch z) (gg d1)
       have sub:∀ b,own A (upB B i []) b->own A B b:=λb z=>z.elim .inl λ⟨j,z⟩=>(bM z).elim (λz=>nomatch z.2) λz=>.inr ⟨j,z.2⟩
       exact ⟨_,_,rfl,aZ aI h,rfl,_,_,rfl,_,_,rfl,rfl,k _ _ (S1.set (i:=j) (aq.refl _) (bs:=[]) (λ_ z=>nomatch z) (gg (d2.mono (az (aq.refl _) sub))))⟩
theorem Sta.base {K:PySem.W.Frag} {A:Addr->Prop} {H₀ H:Hp} {τ:List Sl} {B:Nat->List Addr} {σ:L2.St} (S:Sta K A H₀ τ B σ H):aq H₀ (hd H λb=>∃ i,b ∈ B i)/\Sta K A (hd H λb=>∃ i,b ∈ B i) τ B σ H:=by
 have s0:aq H₀ (hd H λb=>∃ i,b ∈ B i):=λb o h=>aB.mpr ⟨λ⟨i,z⟩=>(by rw [S.fr i b z] at h; cases h),S.same _ _ h⟩
 exact ⟨s0,aI,S.len,S.sl,λi b hb=>by
   cases e:hd H (λb=>∃ i,b ∈ B i) b with
   | none=>rfl
   | some o=>exact absurd ⟨i,hb⟩ (aB.mp e).1,S.uq,λb hb=>let ⟨o,q⟩:=S.ad b hb; ⟨o,s0 _ _ q⟩,S.bd⟩
theorem Sta.back {K:PySem.W.Frag} {A:Addr->Prop} {H₀ G H:Hp} {τ:List Sl} {B:Nat->List Addr} {σ:L2.St} (S:Sta K A G τ B σ H) (s:aq H₀ G) (ad:∀ b,A b->∃ o,H₀ b=some o):Sta K A H₀ τ B σ H:=
 ⟨s.trans S.same,S.len,S.sl,λi b hb=>s.free (S.fr i b hb),S.uq,ad,S.bd⟩
theorem wA {M:Nat->List Sl->Prop} {T:Nat->List Sl->List Sl} (B:Bk X k) (hi:PI X tg it (dI X.K τ xs)) (h0:M 0 τ) (hg:∀ i (h:i < xs.length) τ',M i τ'->PG X tg (dG X.K τ' xs[i] (T i τ')))
   (hb:∀ i,i < xs.length->∀ τ',M i τ'->PSs X body (dS X.K (T i τ') { N with nx:=M (i + 1),ct:=M (i + 1),bk:=N.nx })) (hn:∀ τ',M xs.length τ'->N.nx τ')
   (hs:∀ x,foldedSetIterable it X.env x=pure x:=by intro _; rfl):PS X (.For tg it body [] pos) (dS X.K τ N):=by
 have hg':PG X tg λv σ H Q=>∃ (i:Nat) (h:i < xs.length) (τ':List Sl),M i τ'/\dG X.K τ' xs[i] (T i τ') v σ H Q:=λpins s σ H v u Q I r ⟨i,h,τ',m,q⟩=>hg i h τ' m pins s σ H v u Q I r q
 have hb':PSs X body λD σ H=>∃ i τ',i < xs.length/\M i τ'/\dS X.K (T i τ') { N with nx:=M (i + 1),ct:=M (i + 1),bk:=N.nx } D σ H:=λpins s σ H D I ⟨i,τ',h,m,q⟩=>hb i h τ' m pins s σ H D I q
 refine psW (yR B.po hi hg' hb' hs) λD σ H ⟨A,H₀,B,S,Me⟩=>⟨A,H₀,B,S,λJ H1 e1 yl=>?_⟩
 obtain ⟨s0,S1⟩:=(S.mono e1).base
 have sub:∀ {H'},aq (hd H1 λb=>∃ i,b ∈ B i) H'->aq (hd H1 (own A B)) H':=λe=>(az (aq.refl _) λ_ z=>.inr z).trans e
 refine ⟨λi m σ' H'=>m=xs.length - i/\i<=xs.length/\∃ τ' B',M i τ'/\Sta X.K A (hd H1 λb=>∃ i,b ∈ B i) τ' B' σ' H',⟨xs.length,rfl,Nat.zero_le _,τ,B,h0,S1⟩,?_⟩
 rintro i m σ' H' ⟨rfl,hi,τ',B',hM,S'⟩
 obtain ⟨y1,y2⟩:=yl H' (sub S'.same)
 by_cases hlt:i < xs.length
 · obtain ⟨g,y⟩:=y2 i hlt
   refine .inr ⟨g,λσ2 H2=>∃ τ2 B2,M (i + 1) τ2/\Sta X.K A (hd H1 λb=>∃ i,b ∈ B i) τ2 B2 σ2 H2,λσ2 H2 q=>⟨xs.length - (i + 1),by omega,rfl,hlt,q⟩,λx H2 hy=>?_⟩
   obtain ⟨e2,dx⟩:=y x H2 hy
   have S2:=S'.mono e2
   refine ⟨i,hlt,τ',hM,A,_,B',S2,dx (own A B') S'.dm ?_,λσ3 B3 S3=>⟨i,τ',hlt,hM,A,_,B3,S3,?_⟩⟩
   · intro b o z
     obtain ⟨z1,z2⟩:=aB.mp z
     have z3:hd H1 (λb=>∃ i,b ∈ B i) b=some o:=aB.mpr ⟨λy=>z1 (.inr y),z2⟩
     refine aB.mpr ⟨λy=>?_,S'.same _ _ z3⟩
     rcases y with y | ⟨l,y⟩
     · exact z1 (.inl y)
     · rw [S'.fr l b y] at z3; cases z3
   · exact ⟨λτ3 B3 σ3 H3 m S3=>⟨τ3,B3,m,S3⟩,λτ3 B3 σ3 H3 m S3=>Me.nx τ3 B3 σ3 H3 m (S3.back s0 S.ad),λτ3 B3 σ3 H3 m S3=>⟨τ3,B3,m,S3⟩,
       λv H3 bs s3 hr e3 hf q=>Me.rt v H3 bs s3 hr (s0.trans e3) (λb hb=>⟨s0.free (hf b hb).1,(hf b hb).2⟩) q,λH3 e3=>Me.xc H3 (s0.trans e3)⟩
 · have e:i=xs.length:=by omega
   subst e
   exact .inl ⟨y1 _ (Nat.le_refl _),Me.nx τ' B' σ' H' (hn τ' hM) (S'.back s0 S.ad)⟩
theorem cM (j:Nat) {n:Str} (M:Nat->List Sl->Prop) {g:Nat->D} (B:Bk X k) (hN:X.N.Nodup) (hi:PI X (.Name n p) it (dI X.K τ xs)) (hx:∀ i (h:i < xs.length),xs[i]=g i) (h0:M 0 τ)
   (hb:∀ i,i < xs.length->∀ τ',M i τ'->PSs X body (dS X.K (τ'.set j (.d (g i))) { N with nx:=M (i + 1),ct:=M (i + 1),bk:=λ_=>False }))
   (hr:∀ τ',M xs.length τ'->PSs X rest (dS X.K τ' N)) (hs:∀ x,foldedSetIterable it X.env x=pure x:=by intro _; rfl) (hi':X.N[j]?=some n:=by rfl) (hl:Loc X.env.scope n:=by first | exact .inl rfl | exact .inr rfl)
   (hf:X.fn n=true\/X.env.scope.names.lookup n=some .local:=by first | exact .inl rfl | exact .inr rfl | assumption):PSs X (.For (.Name n p) it body [] pos :: rest) (dS X.K τ N):=
 bh (M:=M xs.length) (wA (M:=M) (T:=λi τ'=>τ'.set j (.d (g i))) B hi h0 (λi h τ' m=>by rw [hx i h]; exact uW j hN hi' hl hf)
   (λi h τ' m=>rS (hb i h τ' m) λD σ H ⟨A,H₀,B,S,Me⟩=>⟨A,H₀,B,S,Me.nx,λ_ _ _ _ z=>z.elim,Me.ct,Me.rt,Me.xc⟩) (λ_ m=>m) hs) hr
theorem pG (j l:Nat) {n m:Str} {p2 pt:Pos} {md:Nat} (M:Nat->List Sl->Prop) {g g':Nat->D} (B:Bk X k) (hN:X.N.Nodup) (hi:PI X (.Tuple [.Name n p,.Name m p2] md pt) it (dI X.K τ xs)) (hx:∀ i (h:i < xs.length),xs[i]=.tup [g i,g' i]) (h0:M 0 τ)
   (hb:∀ i,i < xs.length->∀ τ',M i τ'->PSs X body (dS X.K ((τ'.set j (.d (g i))).set l (.d (g' i))) { N with nx:=M (i + 1),ct:=M (i + 1),bk:=λ_=>False }))
   (hr:∀ τ',M xs.length τ'->PSs X rest (dS X.K τ' N)) (hs:∀ x,foldedSetIterable it X.env x=pure x:=by intro _; rfl) (hi':X.N[j]?=some n:=by rfl) (hj':X.N[l]?=some m:=by rfl) (hl:Loc X.env.scope n:=by first | exact .inl rfl | exact .inr rfl) (hl':Loc X.env.scope m:=by first | exact .inl rfl | exact .inr rfl)
   (hf:X.fn n=true\/X.env.scope.names.lookup n=some .local:=by first | exact .inl rfl | exact .inr rfl | assumption) (hf':X.fn m=true\/X.env.scope.names.lookup m=some .local:=by first | exact .inl rfl | exact .inr rfl | assumption):PSs X (.For (.Tuple [.Name n p,.Name m p2] md pt) it body [] pos :: rest) (dS X.K τ N):=
 bh (M:=M xs.length) (wA (M:=M) (T:=λi τ'=>(τ'.set j (.d (g i))).set l (.d (g' i))) B hi h0 (λi h τ' m=>by rw [hx i h]; exact wm j l B.calm hN hi' hj' hl hl' hf hf')
   (λi h τ' m=>rS (hb i h τ' m) λD σ H ⟨A,H₀,B,S,Me⟩=>⟨A,H₀,B,S,Me.nx,λ_ _ _ _ z=>z.elim,Me.ct,Me.rt,Me.xc⟩) (λ_ m=>m) hs) hr
theorem dr {n:Nat} (i:Nat) (h:i < (iF 0 n).length):(iF 0 n)[i]=.int (i:Nat):=by rw [gQ,Int.zero_add]
theorem wY {bs:List Int} (i:Nat) (h:i < (bs.map D.int).length):(bs.map D.int)[i]=.int (bs.getD i 0):=by
 have:i < bs.length:=by simpa using h
 simp [this]
theorem p8 {xs:List D} (i:Nat) (h:i < xs.length):xs[i]=xs.getD i .non:=by simp [h]
theorem tV {bs:List Int} (i:Nat) (h:i < (ja (bs.map D.int)).length):(ja (bs.map D.int))[i]=.tup [.int (i:Nat),.int (bs.getD i 0)]:=by
 have:i < bs.length:=by rw [cb] at h; simpa using h
 rw [mQ]
 simp [this]
end
end Hy
namespace Ev
open PySem PySem.Spec PyProof.Rows L2
theorem nq {X:Cx} {gT:TG} {y:Str} {py spos:Pos} {elt tg iter:Expr} {ifs:List Expr} {scope:Scope} {N:List Str} {caps:List (Option Nat)} {pos:Pos} {wi:TI} {In:TG->TT->TE->Prop} (hT:PG X (.Name y py) gT) (c:fo X scope N caps) (hi:PI X tg iter wi)
   (hs:∀ x,foldedSetIterable iter X.env x=pure x)
   (hin:∀ g tt te,In g tt te->∀ s H fp,PG (aK X s H scope N fp) tg g/\PTs (aK X s H scope N fp) ifs tt/\PE (aK X s H scope N fp) elt te)
   (hsw:swapsWith (.ListComp elt [⟨tg,iter,ifs,0⟩] scope pos) (some (.Name y py)) spos.line X.env=pure true) :
   PS X (.Assign [.Name y py] (.ListComp elt [⟨tg,iter,ifs,0⟩] scope pos) spos) (yP (fK In caps wi) gT):=by
 intro pins s σ H D I h
 rw [exec_Assign_Name_used _ _ _ _ hsw]
 refine wpAny_bind (wpAny_standAt (wpAny_bind ?_))
 show wpAny _ _ (do let _ <- comprehension (.ListComp elt [⟨tg,iter,ifs,0⟩] scope pos) scope X.env _ (newList []) false _ (some (assign (.Name y py) X.env))) _ _ s
 refine wpAny_bind ?_
 have hcl:=qw (gq I c)
 refine wpAny_comprehension_free (use:=some (assign (.Name y py) X.env)) (Q:=λ_ s'=>wpAny (model X.prog X.w) X.A (pure ()) (λ_ s''=>wpAny (model X.prog X.w) X.A (pure Flow.next) (SP X pins D) X.xe s'') X.xe s') (g:=⟨tg,iter,ifs,0⟩) (gs:=[]) rfl hs hcl c.kind c.loc ?_
 show wpAny _ _ (eval iter X.env) _ _ s
 refine thn (hi pins s σ H _ I h) λv s1 h1=>thn h1 λitv s2 h2=>?_
 obtain ⟨kd,it,fp,tn,J,H2,e,I2,hck,T,st2,f2,g,tt,te,hI,q⟩:=h2
 have hc:=qB (scope:=scope) (N:=N) (fp:=fp) hck I2
 subst e
 obtain ⟨Z,⟨m0,z0⟩,turn⟩:=q s2.heap.objs.size (I2.hok.fresh (Nat.le_refl _))
 have ho:∀ b ∈ fp,∃ o,s2.heap.get? b=some o:=λb hb=>let ⟨o,e,_⟩:=T.obj _ _ st2 b hb; ⟨o,e⟩
 have I4:=oO (scope:=scope) (N:=N) (caps:=caps) I2 f2 ho c
 obtain ⟨hg,ht,he⟩:=hin g tt te hI s2 H2 fp
 refine wpAny_newObj_type (kY ?_) (by show 0<=sizeLine; decide)
 have hC:(s2.heap.push { cls:=.type "list",dict:=none,data:=.seq ([]:List Value).toArray }).objs.size=s2.heap.objs.size + 1:=Heap.size_push ..
 dsimp only
 rw [hC]
 have kp:∀ b o,s2.heap.get? b=some o->(pushCells ((s2.heap.push { cls:=.type "list",data:=.seq ([]:List Value).toArray }).push { cls:=.type "dict",data:=.dict #[] }) scope.names).get? b=some o:=λb o e=>
   pushCells_keeps _ _ b o (Heap.get?_push_of_some _ (Heap.get?_push_of_some _ e))
 have st4:tn 0 (pushCells ((s2.heap.push { cls:=.type "list",data:=.seq ([]:List Value).toArray }).push { cls:=.type "dict",data:=.dict #[] }) scope.names):=T.keep _ _ _ st2 λb _ o e=>kp b o e
 have stat:∀ {H':Hp},(∀ b ∈ fp,H' b=none)->∀ b ∈ fp,kq (aK X s2 H2 scope N fp) [] H' b:=λhn b hb=>
   ⟨hn b hb,(I4.ok.exf b hb).1,I4.ok.exfs b hb,.inl hb,(I4.ok.exf b hb).2,λp hp=>absurd (show p ∈ ([]:List (Addr × Obj)) from hp) (by simp)⟩
 have fr4:∀ b ∈ fp,(upd H2 s2.heap.objs.size (.lst [])) b=none:=λb hb=>by
   obtain ⟨o,e⟩:=ho b hb
   rw [aC (Nat.ne_of_lt (Heap.lt_size e))]; exact (f2 b hb).1
 have loop:codeAny (model X.prog X.w) X.A (.compLoop (.ListComp elt [⟨tg,iter,ifs,0⟩] scope pos) 0 (.ref it) (.ref s2.heap.objs.size) (aK X s2 H2 scope N fp).env)
     (compPost (model X.prog X.w) X.A X.xe (some (assign (.Name y py) X.env)) (λ_ s'=>wpAny (model X.prog X.w) X.A (pure ()) (λ_ s''=>wpAny (model X.prog X.w) X.A (pure Flow.next) (SP X pins D) X.xe s'') X.xe s') (.ref s2.heap.objs.size) (s2.heap.objs.size + 1))
     { s2 with heap:=pushCells ((s2.heap.push { cls:=.type "list",data:=.seq ([]:List Value).toArray }).push { cls:=.type "dict",data:=.dict #[] }) scope.names }:=by
   refine jS (λn s'=>∃ i σ' H',Inv (aK X s2 H2 scope N fp) [] σ' H' s'/\tn i s'.heap/\(∀ b ∈ fp,H' b=none)/\Z i n σ' H') ?_ m0 ⟨0,_,_,I4,st4,fr4,z0⟩
   rintro n s3 ⟨i,σ3,H3,I3,st3,fr3,w3⟩
   rcases turn i n σ3 H3 w3 with ⟨stop,qn⟩ | ⟨go,step⟩
   · refine thn (T.done (aK X s2 H2 scope N fp) rfl rfl rfl hc i [] s3 σ3 H3 _ I3 (stat fr3) st3 stop) λr s5 ⟨hr,I5⟩=>?_
     subst hr
     obtain ⟨m,hn,_⟩:=id I5.loc
     have I6:Inv X pins σ H3 s5:=by
       have lt:∀ b o,s2.heap.get? b=some o->b ≠ s2.heap.objs.size + 1:=λb o e=>Nat.ne_of_lt (Nat.lt_succ_of_lt (Heap.lt_size e))
       have u:=I5.base
       have u':Un (frs X.stack) fp H2 H3 s2.heap s5.heap:=⟨λb o e n1 n2 n3=>u.keep b o e n1 n2 n3,λb o e n1 n2 n3=>u.slot b o e n1 n2 n3,u.free,λb o e n1=>u.there b o e n1,u.tups,u.frzs,u.tbls⟩
       exact I2.kW (s':=s5) I5.os u' I5.hok I5.bare λb hb=>⟨(f2 b hb).2.2.2.1,(f2 b hb).2.1,(f2 b hb).2.2.2.2.1,(f2 b hb).2.2.2.2.2⟩
     have fC:H3 (s2.heap.objs.size + 1)=none:=I5.free
     have fk:kq X pins H3 (s2.heap.objs.size + 1):=I2.oU (Nat.le_succ _) fC
     obtain ⟨oC,es,ep,hoC,hdC,rC⟩:=id hn
     have hpin:=I6.pinned (fp:=[s2.heap.objs.size + 1]) (λb hb=>by rw [List.mem_singleton.mp hb]; exact fk) (λb hb=>by rw [List.mem_singleton.mp hb]; exact ⟨oC,hoC,λv z=>by rw [hdC] at z; cases z⟩)
     have hmem:(s2.heap.objs.size + 1,oC) ∈ gy [s2.heap.objs.size + 1] s5.heap:=bX (List.mem_singleton_self _) hoC
     refine thn (hT _ s5 σ H3 (.ref s2.heap.objs.size) (.ref s2.heap.objs.size) _ hpin rfl qn) λ_ s6 ⟨σ6,H6,I7,q7⟩=>?_
     obtain ⟨p1,p2,p3,p4,p5⟩:=I7.pin _ (List.mem_append_right _ (List.mem_append_right _ hmem))
     refine ⟨m,⟨oC,es,ep,p1,hdC,rC⟩,λh' sb=>wpAny_pure (wpAny_pure ?_)⟩
     refine ⟨σ6,H6,?_,q7⟩
     exact (I7.dY).turned (t':=s6.toks) (it:=s2.heap.objs.size + 1) (λb o hb e=>(sb.2 b hb).trans e) p2 p3 fk.2.2.2.1 fk.2.2.2.2.1 fk.2.2.2.2.2
   · refine thn (T.item (aK X s2 H2 scope N fp) rfl rfl rfl hc i [] s3 σ3 H3 _ I3 (stat fr3) st3 go) λr s4 ⟨u,hr,h4⟩=>?_
     subst hr
     refine thn h4 λ_ s5 ⟨x,H5,I5,r5,y5,st5,fr5⟩=>?_
     have I5':=I5.pinned (stat fr5) (T.obj _ _ st5)
     refine thn (hg _ s5 σ3 H5 x u _ I5' r5 (step x H5 y5)) λ_ s6 ⟨σ6,H6,I6,q6⟩=>?_
     have again:∀ {s7:Shared} {σ7:L2.St} {H7:Hp} {m':Nat},Inv (aK X s2 H2 scope N fp) ([]++gy fp s5.heap) σ7 H7 s7->m' < n->Z (i + 1) m' σ7 H7 ->
         ∃ m,m < n/\∃ i σ' H',Inv (aK X s2 H2 scope N fp) [] σ' H' s7/\tn i s7.heap/\(∀ b ∈ fp,H' b=none)/\Z i m σ' H':=λ{s7 σ7 H7 m'} I7 hm z7=>by
       refine ⟨m',hm,i + 1,σ7,H7,I7.dY,T.keep _ _ _ st5 λb hb o e=>(I7.pin (b,o) (List.mem_append_right _ (List.mem_append_right _ (bX hb e)))).1,λb hb=>?_,z7⟩
       obtain ⟨o,e,d⟩:=T.obj _ _ st5 b hb
       exact (I7.pin (b,o) (List.mem_append_right _ (List.mem_append_right _ (bX hb e)))).2.1
     refine thn (ht _ s6 σ6 H6 _ I6 q6) λok s7 ⟨H7,I7,q7⟩=>?_
     cases ok with
     | false=>
       rw [if_neg (by decide)] at q7
       obtain ⟨m',hm,z7⟩:=q7
       exact again I7 hm z7
     | true=>
       rw [if_pos rfl] at q7
       refine thn (he _ s7 σ6 H7 _ I7 q7) λv' s8 ⟨v,H8,I8,r8,vs,m',q8,l8,hm,z8⟩=>?_
       refine thn (iI (X:=aK X s2 H2 scope N fp) _ s8 σ6 H8 (.ref s2.heap.objs.size) [v] (.ref s2.heap.objs.size) [v'] (λ_ H9=>H9=upd H8 s2.heap.objs.size (.lst (vs++[v]))) I8 rfl (.cons r8 .nil) ⟨_,vs,v,rfl,rfl,q8,l8,rfl⟩) λ_ s9 ⟨_,H9,I9,_,e9⟩=>?_
       subst e9
       exact again I9 hm z8
 exact codeAny_compStart_list loop (T.self _ 0 _ _ _ st4 loop)
end Ev
namespace Hy
open PySem PySem.Spec PyProof.Rows L2
open Ev (D Den au ar aZ aP aK hZ fo PTs dz fK nq)
noncomputable def slot:List Str->Str->Option Nat
 | [],_=>none
 | y :: r,x=>if x=y then some 0 else (slot r x).map (· + 1)
theorem slot_get:∀ {N:List Str} {x:Str} {i:Nat},slot N x=some i->N[i]?=some x
 | [],_,_,h=>by cases h
 | y :: r,x,i,h=>by
   unfold slot at h
   split at h
   · cases h; rename_i e; rw [e]; rfl
   · cases e:slot r x with
     | none=>rw [e] at h; cases h
     | some j=>rw [e] at h; cases h; simpa using slot_get e
noncomputable def sH (scope sc:Scope):Scope:={ scope with names:=scope.names.map λ(n,k)=>if (k == .free && sc.kind == .function && sc.names.lookup n == some .cell) then (n,.cell) else (n,k) }
noncomputable def bNm (scope:Scope):List Str:=(scope.names.filter λp=>(p.2 == .local || p.2 == .cell || p.2 == .free) && p.1 != (".0" : Str)).map (·.1)
noncomputable def bCp (No:List Str) (scope:Scope):List (Option Nat):=(bNm scope).map λx=>if (x,NameKind.free) ∈ scope.names then slot No x else none
noncomputable def bOk (sc scope:Scope):Bool:=
 scope.kind == .function && scope.names.all (λp=>p.2 != .local || scope.names.lookup p.1 == some .local) && scope.names.all (λp=>p.2 != .free || sc.names.lookup p.1 == some .cell)
   && scope.names.all (λp=>p.2 != .free || (!decide ((p.1,NameKind.cell) ∈ scope.names) && !decide ((p.1,NameKind.local) ∈ scope.names))) && decide (bNm scope++[("#" : Str)]).Nodup
   && (sH scope sc).names.all (λp=>p.1 != ("#" : Str))
theorem sR {a b:Bool} (h:(a && b)=true):a=true/\b=true:=by rw [Bool.and_eq_true] at h; exact h
theorem ug {x:Str} {q:NameKind}:∀ {names:List (Str × NameKind)},names.lookup x=some q->(x,q) ∈ names
 | (y,k) :: r,h=>by
   rw [List.lookup_cons] at h
   split at h
   · rename_i e; cases h; rw [eq_of_beq e]; exact List.mem_cons_self ..
   · exact List.mem_cons_of_mem _ (ug h)
theorem hJ {X:Cx} {scope:Scope} (h:bOk X.env.scope scope=true):fo X scope (bNm scope++[("#" : Str)]) (bCp X.N scope)/\(bNm scope++[("#" : Str)]).Nodup:=by
 unfold bOk at h
 obtain ⟨h,h6⟩:=sR h
 obtain ⟨h,h5⟩:=sR h
 obtain ⟨h,h4⟩:=sR h
 obtain ⟨h,h3⟩:=sR h
 obtain ⟨h1,h2⟩:=sR h
 rw [List.all_eq_true] at h2 h3 h4 h6
 refine ⟨⟨eq_of_beq h1,λx hx hk=>?_,λx hx hk=>?_,λx hx hm=>?_,λx hx hm=>?_,?_,λj i hj=>?_,?_⟩,of_decide_eq_true h5⟩
 · have:=h2 x hx; rw [hk] at this; simpa using this
 · have:=h3 x hx; rw [hk] at this; show X.env.scope.names.lookup x.1=_; simpa using this
 · have:=h4 _ hx; simp [hm] at this
 · have:=h4 _ hx; simp [hm] at this
 · unfold bCp; rw [List.length_append,List.length_map]; rfl
 · unfold bCp at hj
   rw [List.getElem?_map] at hj
   cases e:(bNm scope)[j]? with
   | none=>rw [e] at hj; cases hj
   | some x=>
     rw [e] at hj
     simp only [Option.map_some,Option.some.injEq] at hj
     split at hj
     · exact ⟨x,by rw [List.getElem?_append_left (List.getElem?_eq_some_iff.mp e).1]; exact e,slot_get hj,by assumption⟩
     · cases hj
 · refine ⟨("#" : Str),?_,λhv=>?_⟩
   · unfold bCp; rw [List.length_map,List.getElem?_append_right (Nat.le_refl _),Nat.sub_self]; rfl
   · have key:∀ q,(sH scope X.env.scope).names.lookup ("#" : Str) ≠ some q:=λq hq=>by
       have:=h6 _ (ug hq)
       simp at this
     rcases hv with hv | hv | hv <;> exact key _ hv
noncomputable abbrev cpX (X:Cx) (s:Shared) (H:Hp) (scope:Scope) (fp:List Addr):Cx:=aK X s H scope (bNm scope++[("#" : Str)]) fp
theorem Bk.comp {X:Cx} {k:Nat} (B:Bk X k) (s:Shared) (H:Hp) (scope:Scope) (fp:List Addr):Bk (cpX X s H scope fp) k:=⟨B.room,B.calm,B.blt,PassesOwn.never⟩
noncomputable def bU (τ:List Sl) (caps:List (Option Nat)):List Sl:=caps.map λo=>match o with
 | some i=>match τ[i]? with
   | some (.d x)=>.d x
   | _=>.un
 | none=>.un
theorem qz {X:Cx}:PTs X [] λ_ H Q=>Q true H:=λpins s σ H Q I q=>by
 show wpAny _ _ (pure true) _ _ _
 exact wpAny_pure ⟨H,I,q⟩
section
variable {X:Cx} {C:Bool} {τ:List Sl} {x y z:D} {a b e c tg it elt:Expr} {es ifs:List Expr} {pos p q:Pos} {k:Nat} {xs:List D} {scope:Scope}
structure Cmp (X:Cx) (elt tg it:Expr) (ifs:List Expr) (scope:Scope) (τ:List Sl) (ys:List D):Prop where
 ex:∃ (In:TG->TT->TE->Prop) (caps:List (Option Nat)) (N:List Str) (wi:TI),fo X scope N caps/\PI X tg it wi/\(∀ g tt te,In g tt te->∀ s H fp,PG (aK X s H scope N fp) tg g/\PTs (aK X s H scope N fp) ifs tt/\PE (aK X s H scope N fp) elt te) /\
   ∀ C σ H Q,dE X.K C τ (.o ys) σ H Q->fK In caps wi σ H Q
 hs:∀ x,foldedSetIterable it X.env x=pure x
theorem bH {ys:List D} (h:Cmp X elt tg it ifs scope τ ys):PE X (.ListComp elt [⟨tg,it,ifs,0⟩] scope pos) (dE X.K C τ (.o ys)):=by
 obtain ⟨In,caps,N,wi,h1,h2,h3,h4⟩:=h.ex
 exact peW (dz h1 h2 h.hs h3) (h4 C)
theorem pQ (i:Nat) {n:Str} {p spos:Pos} {rest:List Stmt} {N:Po} {ys:List D} {s:Sl} (hN:X.N.Nodup) (h:Cmp X elt tg it ifs scope τ ys) (hz:s=.o ys\/s=.d (.lst ys)) (hr:PSs X rest (dS X.K (τ.set i s) N)) (hi:X.N[i]?=some n:=by rfl) (hx:Loc X.env.scope n:=by first | exact .inl rfl | exact .inr rfl)
   (hsw:swapsWith (.ListComp elt [⟨tg,it,ifs,0⟩] scope pos) (some (.Name n p)) spos.line X.env=pure true:=by rfl) (hf:X.fn n=true\/X.env.scope.names.lookup n=some .local:=by first | exact .inl rfl | exact .inr rfl | assumption) :
   PSs X (.Assign [.Name n p] (.ListComp elt [⟨tg,it,ifs,0⟩] scope pos) spos :: rest) (dS X.K τ N):=by
 obtain ⟨In,caps,N',wi,h1,h2,h3,h4⟩:=h.ex
 have h5:∀ σ H Q,dE X.K true τ s σ H Q->fK In caps wi σ H Q:=by
   rcases hz with rfl | rfl
   · exact h4 true
   · intro σ H Q q
     obtain ⟨A,H₀,B,S,k⟩:=dD q
     refine h4 true σ H Q ⟨A,H₀,B,S,λv H' bs e hf q=>?_⟩
     obtain ⟨u,e1,d⟩:=q.den (G':=Hy.hd H' (vw true A B)) (az (aq.refl _) λ_ z=>.inl z) (λb hb o ho=>aB.mpr ⟨λz=>(by obtain ⟨_,q⟩:=S.vd (C:=true) b z; rw [(hf b hb).1] at q; cases q),ho⟩) rfl
     cases e1
     exact k v H' e d
 exact bh (M:=(·=τ.set i s)) (psW (nq (gM (i:=i) hN hi hx hf) h1 h2 h.hs h3 hsw) λD σ H ⟨A,H₀,B,S,Me⟩=>h5 _ _ _ ⟨A,H₀,B,S,λv H' bs e hf h=>Me.nx _ _ _ _ rfl (S.set e hf h)⟩) λ_ e=>e ▸ hr
theorem l9 {T:Nat->List Sl} {t:Nat->Bool} {f:Nat->D} (hc:bOk X.env.scope scope=true) (hi:PI X tg it (dI X.K τ xs)) (hT:∀ i,(T i).length=(bU τ (bCp X.N scope)++[Sl.un]).length/\∀ (l:Nat) (x:D),(bU τ (bCp X.N scope)++[Sl.un])[l]?=some (.d x)->(T i)[l]?=some (.d x))
   (hg:∀ i (h:i < xs.length) s H fp,PG (cpX X s H scope fp) tg (dG X.K (bU τ (bCp X.N scope)++[Sl.un]) xs[i] (T i)))
   (ht:∀ i,i < xs.length->∀ s H fp,PTs (cpX X s H scope fp) ifs (dT X.K (T i) (t i)))
   (he:∀ i,i < xs.length->t i=true->∀ s H fp,PE (cpX X s H scope fp) elt (dE X.K true (T i) (.d (f i)))) (hl:xs.length < 1000000) (hs:∀ x,foldedSetIterable it X.env x=pure x:=by intro _; rfl) :
   Cmp X elt tg it ifs scope τ (((List.range xs.length).filter t).map f):=by
 obtain ⟨cap,_⟩:=hJ hc
 generalize hτ:bU τ (bCp X.N scope)++[Sl.un]=τb at *
 refine ⟨⟨λg tt te=>g=(λv σ H Q=>∃ (i:Nat) (h:i < xs.length),dG X.K τb xs[i] (T i) v σ H Q)/\tt=(λσ H Q=>∃ i,i < xs.length/\dT X.K (T i) (t i) σ H Q)/\te=(λσ H Q=>∃ i,i < xs.length/\t i=true/\dE X.K true (T i) (.d (f i)) σ H Q),_,_,_,cap,hi,?_,?_⟩,hs⟩
 · rintro g tt te ⟨rfl,rfl,rfl⟩ s H fp
   exact ⟨λpins s' σ H' v u Q I r ⟨i,h,q⟩=>hg i h s H fp pins s' σ H' v u Q I r q,λpins s' σ H' Q I ⟨i,h,q⟩=>ht i h s H fp pins s' σ H' Q I q,λpins s' σ H' Q I ⟨i,h,h',q⟩=>he i h h' s H fp pins s' σ H' Q I q⟩
 rintro C σ H Q ⟨A,H₀,B,S,kk⟩
 refine ⟨A,H₀,B,S,λJ H1 e1 yl=>⟨_,_,_,⟨rfl,rfl,rfl⟩,λD hD=>?_⟩⟩
 have S1:=S.mono e1
 have nD:¬ own A B D:=λz=>by obtain ⟨o,q⟩:=S1.dm D z; rw [hD] at q; cases q
 have noN:∀ (l:Nat) (t:Nd),τb[l]?=some (.n t)->0 ≠ 0:=λl t h=>by
   exfalso
   rw [<- hτ] at h
   have:=List.mem_of_getElem? h
   rcases List.mem_append.mp this with z | z
   · unfold bU at z
     obtain ⟨o,_,ho⟩:=List.mem_map.mp z
     split at ho
     · split at ho <;> cases ho
     · cases ho
   · cases List.mem_singleton.mp z
 have slots:∀ {σ':L2.St} {H':Hp},aq H1 H'->(∃ o,H' D=some o)->σ'.length=τb.length->(∀ (l:Nat) (s:Sl),τb[l]?=some s->cW X.K (hd H' λb=>own A B b\/b=D) H' (σ'[l]?).join [] s)->Sta X.K (λb=>own A B b\/b=D) H' τb (λ_=>[]) σ' H':=λ{σ' H'} e1 e2 e3 e4=>
   ⟨aq.refl _,e3,λl s h=>(e4 l s h).mono (az (aq.refl _) λ_ z=>z.elim id λ⟨_,z⟩=>(nomatch z)) (aq.refl _),λ_ _ z=>(nomatch z),λ_ _ _ z=>(nomatch z),λb z=>z.elim (λz=>let ⟨o,q⟩:=S1.dm b z; ⟨o,e1 _ _ q⟩) λz=>z ▸ e2,λ_ _ z=>(nomatch z)⟩
 refine ⟨λi m σ' H'=>m=xs.length - i/\i<=xs.length/\aq H1 H'/\(∃ vs,H' D=some (.lst vs)/\vs.length<=i/\au X.K (hd H' λb=>own A B b\/b=D) vs (((List.range i).filter t).map f)) /\
   σ'.length=τb.length/\∀ (l:Nat) (s:Sl),τb[l]?=some s->cW X.K (hd H' λb=>own A B b\/b=D) H' (σ'[l]?).join [] s,⟨xs.length,rfl,Nat.zero_le _,ar hD _,⟨[],aL,Nat.le_refl _,.nil⟩,?_,λl s h=>?_⟩,?_⟩
 · rw [<- hτ]; unfold hZ bU; rw [List.length_append,List.length_append,List.length_map,List.length_map]; rfl
 · have hv:aq (hd H (own A B)) (hd (upd H1 D (.lst [])) λb=>own A B b\/b=D):=λb o z=>by
     obtain ⟨z1,z2⟩:=aB.mp z
     have z2:=e1 _ _ z2
     have ne:b ≠ D:=λz=>by rw [z,hD] at z2; cases z2
     exact aB.mpr ⟨λy=>y.elim z1 ne,by rw [aC ne]; exact z2⟩
   cases s with
   | un=>rfl
   | d x=>
     rw [<- hτ] at h
     have hlt:l < (bCp X.N scope).length:=by
       rcases Nat.lt_or_ge l (bCp X.N scope).length with h' | h'
       · exact h'
       · exfalso
         rw [List.getElem?_append_right (by unfold bU; rw [List.length_map]; exact h')] at h
         cases e:l - (bU τ (bCp X.N scope)).length with
         | zero=>rw [e] at h; cases h
         | succ n=>rw [e] at h; cases h
     rw [List.getElem?_append_left (by unfold bU; rw [List.length_map]; exact hlt)] at h
     rw [List.getElem?_append_left (by unfold hZ; rw [List.length_map]; exact hlt)]
     unfold bU at h
     unfold hZ
     rw [List.getElem?_map] at h ⊢
     cases e:(bCp X.N scope)[l]? with
     | none=>rw [e] at h; cases h
     | some o=>
       rw [e] at h
       cases o with
       | none=>cases h
       | some i=>
         simp only [Option.map_some,Option.some.injEq] at h
         split at h
         · rename_i x' hx'
           cases h
           obtain ⟨_,u,eu,d⟩:=S.sl i _ hx'
           exact ⟨rfl,u,by simpa using eu,d.mono hv⟩
         · cases h
   | o xs'=>
     exfalso
     rw [<- hτ] at h
     have:=List.mem_of_getElem? h
     rcases List.mem_append.mp this with z | z
     · unfold bU at z
       obtain ⟨o,_,ho⟩:=List.mem_map.mp z
       split at ho
       · split at ho <;> cases ho
       · cases ho
     · cases List.mem_singleton.mp z
   | n t'=>
     exfalso
     rw [<- hτ] at h
     have:=List.mem_of_getElem? h
     rcases List.mem_append.mp this with z | z
     · unfold bU at z
       obtain ⟨o,_,ho⟩:=List.mem_map.mp z
       split at ho
       · split at ho <;> cases ho
       · cases ho
     · cases List.mem_singleton.mp z
   | x E'=>
     exfalso
     rw [<- hτ] at h
     have:=List.mem_of_getElem? h
     rcases List.mem_append.mp this with z | z
     · unfold bU at z
       obtain ⟨o,_,ho⟩:=List.mem_map.mp z
       split at ho
       · split at ho <;> cases ho
       · cases ho
     · cases List.mem_singleton.mp z
 rintro i m σ' H' ⟨rfl,hi,e2,⟨vs,hv1,hv2,hv3⟩,hlen,hsl⟩
 obtain ⟨y1,y2⟩:=yl H' (aI.trans e2)
 by_cases hlt:i < xs.length
 · obtain ⟨g,y⟩:=y2 i hlt
   refine .inr ⟨g,λx H2 hy=>?_⟩
   obtain ⟨e3,dx⟩:=y x H2 hy
   have S2:Sta X.K (λb=>own A B b\/b=D) H' τb (λ_=>[]) σ' H':=slots e2 ⟨_,hv1⟩ hlen hsl
   have o0:∀ b,own (λb=>own A B b\/b=D) (λ_=>([]:List Addr)) b->own A B b\/b=D:=λb z=>z.elim id λ⟨_,z⟩=>(nomatch z)
   have dx':=dx _ S2.dm (λb o z=>by
     obtain ⟨z1,z2⟩:=aB.mp z
     exact aB.mpr ⟨λy=>(o0 b y).elim z1 λy=>(by rw [y,hD] at z2; cases z2),e2 _ _ z2⟩)
   refine ⟨i,hlt,_,_,_,S2.mono e3,dx',λσ2 B2 S3=>?_⟩
   have hB2:∀ j b,b ∈ B2 j->b ≠ D:=λj b hb z=>by
     have:=S3.fr j b hb
     rw [z,hv1] at this
     cases this
   have back:∀ {H5:Hp},aq H2 H5->σ2.length=τb.length/\∀ (l:Nat) (s:Sl),τb[l]?=some s->cW X.K (hd H5 λb=>own A B b\/b=D) H5 (σ2[l]?).join [] s:=λ{H5} e5=>by
     refine ⟨S3.len.trans (hT i).1,λl s h=>?_⟩
     cases s with
     | un=>rfl
     | d x=>
       obtain ⟨_,u,eu,d⟩:=S3.sl l _ ((hT i).2 l x h)
       exact ⟨rfl,u,eu,d.mono (az e5 λ_ z=>.inl z)⟩
     | o xs'=>exact absurd (hsl l _ h) (λ⟨_,_,z,_⟩=>(nomatch z))
     | n t'=>exact absurd rfl (noN l t' h)
     | x E'=>exact absurd (hsl l _ h) (λ⟨_,_,z,_⟩=>(nomatch z))
   refine ⟨i,hlt,_,_,_,S3,λH4 e4=>?_⟩
   cases ht:t i with
   | false=>
     rw [if_neg Bool.false_ne_true]
     obtain ⟨b1,b2⟩:=back e4
     refine ⟨xs.length - (i + 1),by omega,rfl,hlt,e2.trans (e3.trans e4),⟨vs,e4 _ _ (e3 _ _ hv1),by omega,?_⟩,b1,b2⟩
     rw [List.range_succ,List.filter_append,List.map_append,List.filter_cons,ht]
     simpa using hv3.mono (az (e3.trans e4) λ_ z=>z)
   | true=>
     rw [if_pos rfl]
     refine ⟨i,hlt,ht,aW (S3.mono e4) λv H5 e5 d5=>?_⟩
     have e6:=e3.trans (e4.trans e5)
     have hv5:=e6 _ _ hv1
     refine ⟨vs,xs.length - (i + 1),hv5,Nat.lt_trans (Nat.lt_of_le_of_lt hv2 (Nat.lt_trans hlt hl)) (by decide),by omega,rfl,hlt,?_,?_⟩
     · intro b o z
       have ne:b ≠ D:=λy=>by rw [y,hD] at z; cases z
       rw [aC ne]
       exact e6 _ _ (e2 _ _ z)
     have sm:aq (hd H5 λb=>own A B b\/b=D) (hd (upd H5 D (.lst (vs++[v]))) λb=>own A B b\/b=D):=λb o z=>by
       obtain ⟨z1,z2⟩:=aB.mp z
       exact aB.mpr ⟨z1,by rw [aC λy=>z1 (.inr y)]; exact z2⟩
     obtain ⟨b1,b2⟩:=back (e4.trans e5)
     refine ⟨⟨vs++[v],aL,by rw [List.length_append]; exact Nat.succ_le_succ hv2,?_⟩,b1,λl s h=>?_⟩
     · rw [List.range_succ,List.filter_append,List.map_append,List.filter_cons,ht,if_pos rfl]
       refine au.append (hv3.mono ((az e6 λ_ z=>z).trans sm)) (.cons (d5.mono ((az (aq.refl _) λ_ z=>.inl z).trans sm)) .nil)
     · cases s with
       | un=>rfl
       | d x=>obtain ⟨z1,u,eu,d⟩:=b2 l _ h; exact ⟨z1,u,eu,d.mono sm⟩
       | o xs'=>exact absurd (hsl l _ h) (λ⟨_,_,z,_⟩=>(nomatch z))
       | n t'=>exact absurd rfl (noN l t' h)
       | x E'=>exact absurd (hsl l _ h) (λ⟨_,_,z,_⟩=>(nomatch z))
 · have e:i=xs.length:=by omega
   subst e
   refine .inl ⟨y1 _ (Nat.le_refl _),kk _ _ [D] (e1.trans e2) (λb hb=>?_) ⟨D,vs,rfl,rfl,hv1,hv3.mono (az (aq.refl _) λb z=>z.elim (λz=>.inl (mK z)) λz=>.inr (List.mem_singleton.mp z))⟩⟩
   obtain rfl:=List.mem_singleton.mp hb
   exact ⟨e1.free hD,_,hv1⟩
theorem cmp (j:Nat) {n:Str} {g f:Nat->D} (B:Bk X k) (hi:PI X (.Name n p) it (dI X.K τ xs)) (hx:∀ i (h:i < xs.length),xs[i]=g i) (hl:xs.length < 1000000)
   (he:∀ i,i < xs.length->∀ s H fp,PE (cpX X s H scope fp) elt (dE X.K true ((bU τ (bCp X.N scope)++[Sl.un]).set j (.d (g i))) (.d (f i))))
   (hc:bOk X.env.scope scope=true:=by kernel_rfl) (hu:(bU τ (bCp X.N scope)++[Sl.un])[j]?=some .un:=by rfl) (hN:(bNm scope++[("#" : Str)])[j]?=some n:=by rfl) (hv:∀ s H fp,Loc (cpX X s H scope fp).env.scope n:=by intro _ _ _; first | exact .inl rfl | exact .inr rfl)
   (hf:∀ s H fp,(cpX X s H scope fp).fn n=true\/(cpX X s H scope fp).env.scope.names.lookup n=some .local:=by intro _ _ _; first | exact .inr rfl | exact .inl rfl) (hs:∀ x,foldedSetIterable it X.env x=pure x:=by intro _; rfl) :
   Cmp X elt (.Name n p) it [] scope τ ((List.range xs.length).map f):=by
 have h:=l9 (T:=λi=>(bU τ (bCp X.N scope)++[Sl.un]).set j (.d (g i))) (t:=λ_=>true) (f:=f) (elt:=elt) (ifs:=[]) hc hi (λi=>⟨List.length_set,λl x h=>?_⟩) (λi h s H fp=>?_) (λi h s H fp=>?_) (λi h _ s H fp=>he i h s H fp) hl hs
 · rwa [List.filter_eq_self.mpr λ_ _=>rfl] at h
 · rw [List.getElem?_set_ne (λz=>by rw [<- z,hu] at h; cases h)]
   exact h
 · rw [hx i h]
   exact uW j (hJ hc).2 hN (hv s H fp) (hf s H fp)
 · exact λpins s' σ H' Q I ⟨A,H₀,B,S,q⟩=>qz pins s' σ H' Q I (q H' (aq.refl _))
end
section
variable {P:Program} {w:World} {K:PySem.W.Frag} {mg:Str->Option Value} {base:Heap}
noncomputable def nO (N:List Str) (ds:List D):List Sl:=ds.map .d++List.replicate (N.length - ds.length) .un
noncomputable abbrev Xc (P:Program) (w:World) (K:PySem.W.Frag) (mg:Str->Option Value) (base:Heap) (N:List Str) (qual:Str) (st:Stmt) (f:Addr) (cdv:Value) (A:Around) (outer:List Env) (s:Shared) (H:Hp) (E:XK):Cx:=(jx CX0 P w K mg base N qual (ak st) f cdv A outer s H E).nox
theorem fnD {x qual:Str} {st:Stmt} {f:Addr} {fd:FuncData} {N ps:List Str} {k:Nat} {Φ:List D->Sl->Prop} (F:Fun K x qual st f fd) (S:ao N ps (ak st)) (hb:∀ x ∈ aj,mg x=none) (len:∀ ds r,Φ ds r->ds.length=ps.length)
   (body:∀ ds r,Φ ds r->∀ cdv A outer s H E,Bk (Xc P w K mg base N qual st f cdv A outer s H E) k->PSs (Xc P w K mg base N qual st f cdv A outer s H E) (a7 st) (dS K (nO N ds) { nx:=λ_=>r=.d .non,rt:=λr'=>r'=r })) :
   aJ P w K mg base CX0 (k + 1) f fd ps (spD K Φ):=by
 refine F.ok S (λvs H Q E ⟨A,ds,r,_,d,h,_⟩=>d.length.trans (len ds r h)) λcdv A outer s H vs Q E hr ⟨A',ds,r,ha,d,h,q⟩=>⟨_,body ds r h cdv A outer s H E ⟨hr,rfl,hb,PassesOwn.never⟩,A',H,λ_=>[],⟨aq.refl _,?_,λi s hi=>?_,λ_ _ z=>(nomatch z),λ_ _ _ z=>(nomatch z),ha,λ_ _ z=>(nomatch z)⟩,λτ B σ H' h S=>?_,λ_ _ _ _ h=>h.elim,λ_ _ _ _ h=>h.elim,λv H' bs s h e hf z=>?_,λ_ _=>trivial⟩
 · unfold L2.start nO
   simp [d.length]
 · have hl:=d.length
   unfold nO at hi
   unfold L2.start
   by_cases hlt:i < ds.length
   · rw [List.getElem?_append_left (by simpa using hlt),List.getElem?_map,List.getElem?_eq_getElem hlt] at hi
     cases hi
     obtain ⟨v,e,dv⟩:=d.get (List.getElem?_eq_getElem hlt)
     refine ⟨rfl,v,?_,dv.mono (az (aq.refl _) λ_ z=>z.elim id λ⟨_,z⟩=>(nomatch z))⟩
     rw [List.getElem?_append_left (by simpa [hl] using hlt),List.getElem?_map,e]
     rfl
   · rw [List.getElem?_append_right (by simpa using hlt),List.getElem?_replicate] at hi
     split at hi
     · cases hi; rfl
     · cases hi
 · obtain rfl:=(h:r=_)
   exact q .non H' [] S.same cC (gg .non)
 · obtain rfl:=(h:s=r)
   exact q v H' bs e hf z
theorem uS {K:PySem.W.Frag} {Φ:List D->Sl->Prop} (hΦ:∀ ns:List Int,ns.length<=63->Φ [.lst (ns.map .int)] (.d (.bl true))) (H:Hp) (a:Addr) (ns:List Int) (hl:ns.length<=63) (hS:SqL K H a (ns.map V.int)):spD K Φ [.ref a] H (λv _=>v=.bl true) λ_ _ _=>False:=by
 have hh:hd H (λ_=>False)=H:=by funext b; unfold hd; rw [if_neg id]
 refine ⟨λ_=>False,_,_,λ_ z=>z.elim,.cons (.lst (vs:=ns.map V.int) (by rw [hh]; exact hS) ?_) .nil,hΦ ns hl,λv H' bs _ _ h=>?_⟩
 · clear hl hS
   induction ns with
   | nil=>exact .nil
   | cons n ns ih=>exact .cons .int ih
 · obtain ⟨_,u,e,d⟩:=h
   cases e
   cases d
   rfl
end
end Hy
namespace K41
open PySem PySem.Spec PyProof.Rows L2 Hy
noncomputable def top (i:Nat):Stmt:=PySem.Challenge.pw_signsmooth_k41_signs_refused.main.body.getD i (.Pass ⟨0,0,0,0⟩)
theorem rO:ao ["_law_script","_law_k"] ["_law_script","_law_k"] (ak (top 67)):=⟨rfl,rfl,rfl,by decide +kernel,rfl,by decide +kernel,by decide +kernel⟩
theorem iq:ao ["_law_cell_here","_law_bases","_law_row_here","_law_base","_law_k","_law_mixed"] ["_law_cell_here","_law_bases"] (ak (top 68)):=⟨rfl,rfl,rfl,by decide +kernel,rfl,by decide +kernel,by decide +kernel⟩
theorem la:ao ["_law_cell_here","_law_parts"] ["_law_cell_here"] (ak (top 74)):=⟨rfl,rfl,rfl,by decide +kernel,rfl,by decide +kernel,by decide +kernel⟩
theorem nZ:ao ["_law_parts","_law_kinds"] ["_law_parts"] (ak (top 77)):=⟨rfl,rfl,rfl,by decide +kernel,rfl,by decide +kernel,by decide +kernel⟩
theorem i3:ao ["_law_row_here","_law_parts","_law_at","_law_way"] ["_law_row_here","_law_parts"] (ak (top 81)):=⟨rfl,rfl,rfl,by decide +kernel,rfl,by decide +kernel,by decide +kernel⟩
theorem gU:ao ["_law_one","_law_other","_law_rest_here"] ["_law_one","_law_other"] (ak (top 70)):=⟨rfl,rfl,rfl,by decide +kernel,rfl,by decide +kernel,by decide +kernel⟩
theorem kK:ao ["_law_top","_law_bottom","_law_common"] ["_law_top","_law_bottom"] (ak (top 71)):=⟨rfl,rfl,rfl,by decide +kernel,rfl,by decide +kernel,by decide +kernel⟩
theorem iZ:ao ["_law_kind","_law_part","_law_top"] ["_law_kind","_law_part"] (ak (top 72)):=⟨rfl,rfl,rfl,by decide +kernel,rfl,by decide +kernel,by decide +kernel⟩
theorem jP:ao ["_law_cell_here","_law_many","_law_wide","_law_kind","_law_base","_law_parts"] ["_law_cell_here","_law_many","_law_wide","_law_kind"] (ak (top 73)):=⟨rfl,rfl,rfl,by decide +kernel,rfl,by decide +kernel,by decide +kernel⟩
theorem nA:ao ["_law_cell_here","_law_many","_law_parts","_law_row_here","_law_k"] ["_law_cell_here","_law_many"] (ak (top 78)):=⟨rfl,rfl,rfl,by decide +kernel,rfl,by decide +kernel,by decide +kernel⟩
theorem qW:ao ["_law_cell_here","_law_used"] ["_law_cell_here","_law_used"] (ak (top 69)):=⟨rfl,rfl,rfl,by decide +kernel,rfl,by decide +kernel,by decide +kernel⟩
theorem d8:ao ["thing"] ["thing"] (ak (top 29)):=⟨rfl,rfl,rfl,by decide +kernel,rfl,by decide +kernel,by decide +kernel⟩
theorem oK:ao ["thing"] ["thing"] (ak (top 22)):=⟨rfl,rfl,rfl,by decide +kernel,rfl,by decide +kernel,by decide +kernel⟩
theorem dh:ao ["one","other","greater","lesser","rest"] ["one","other"] (ak (top 24)):=⟨rfl,rfl,rfl,by decide +kernel,rfl,by decide +kernel,by decide +kernel⟩
theorem jm:ao ["thing"] ["thing"] (ak (top 23)):=⟨rfl,rfl,rfl,by decide +kernel,rfl,by decide +kernel,by decide +kernel⟩
theorem k9:ao ["thing"] ["thing"] (ak (top 30)):=⟨rfl,rfl,rfl,by decide +kernel,rfl,by decide +kernel,by decide +kernel⟩
theorem iV:ao ["thing"] ["thing"] (ak (top 55)):=⟨rfl,rfl,rfl,by decide +kernel,rfl,by decide +kernel,by decide +kernel⟩
theorem o3:ao ["number"] ["number"] (ak (top 56)):=⟨rfl,rfl,rfl,by decide +kernel,rfl,by decide +kernel,by decide +kernel⟩
theorem nX:ao ["row"] ["row"] (ak (top 57)):=⟨rfl,rfl,rfl,by decide +kernel,rfl,by decide +kernel,by decide +kernel⟩
theorem cB:ao ["row","signs"] ["row"] (ak (top 58)):=⟨rfl,rfl,rfl,by decide +kernel,rfl,by decide +kernel,by decide +kernel⟩
theorem kU:ao ["_law_e","_law_named","_law_words","_law_some"] ["_law_e"] (ak (top 76)):=⟨rfl,rfl,rfl,by decide +kernel,rfl,by decide +kernel,by decide +kernel⟩
theorem cO:ao ["row","changes","last","k","sign","taken"] ["row"] (ak (top 59)):=⟨rfl,rfl,rfl,by decide +kernel,rfl,by decide +kernel,by decide +kernel⟩
theorem dN:ao ["row","sign"] ["row"] (ak (top 60)):=⟨rfl,rfl,rfl,by decide +kernel,rfl,by decide +kernel,by decide +kernel⟩
theorem iU:ao ["thing"] ["thing"] (ak (top 31)):=⟨rfl,rfl,rfl,by decide +kernel,rfl,by decide +kernel,by decide +kernel⟩
theorem gk:ao ["thing"] ["thing"] (ak (top 32)):=⟨rfl,rfl,rfl,by decide +kernel,rfl,by decide +kernel,by decide +kernel⟩
theorem l4:ao ["table","j"] ["table","j"] (ak (top 37)):=⟨rfl,rfl,rfl,by decide +kernel,rfl,by decide +kernel,by decide +kernel⟩
theorem j6:ao ["table"] ["table"] (ak (top 36)):=⟨rfl,rfl,rfl,by decide +kernel,rfl,by decide +kernel,by decide +kernel⟩
theorem mx:ao ["row","scale"] ["row","scale"] (ak (top 40)):=⟨rfl,rfl,rfl,by decide +kernel,rfl,by decide +kernel,by decide +kernel⟩
theorem ko:ao ["table","scales"] ["table","scales"] (ak (top 41)):=⟨rfl,rfl,rfl,by decide +kernel,rfl,by decide +kernel,by decide +kernel⟩
theorem iW:ao ["row","scale","number"] ["row"] (ak (top 39)):=⟨rfl,rfl,rfl,by decide +kernel,rfl,by decide +kernel,by decide +kernel⟩
theorem dg:ao ["top","bottom","divisor"] ["top","bottom"] (ak (top 25)):=⟨rfl,rfl,rfl,by decide +kernel,rfl,by decide +kernel,by decide +kernel⟩
theorem oF:ao ["top","bottom"] ["top","bottom"] (ak (top 26)):=⟨rfl,rfl,rfl,by decide +kernel,rfl,by decide +kernel,by decide +kernel⟩
theorem gH:ao ["numbers","others"] ["numbers","others"] (ak (top 47)):=⟨rfl,rfl,rfl,by decide +kernel,rfl,by decide +kernel,by decide +kernel⟩
theorem fD:ao ["row","whole_columns","scales","row_scale","numbers"] ["row","whole_columns","scales"] (ak (top 46)):=⟨rfl,rfl,rfl,by decide +kernel,rfl,by decide +kernel,by decide +kernel⟩
theorem gA:ao ["one","other","columns","scales","whole_columns"] ["one","other"] (ak (top 45)):=⟨rfl,rfl,rfl,by decide +kernel,rfl,by decide +kernel,by decide +kernel⟩
theorem lj:ao ["table","row"] ["table","row"] (ak (top 61)):=⟨rfl,rfl,rfl,by decide +kernel,rfl,by decide +kernel,by decide +kernel⟩
theorem bN:ao ["table","row","after","more"] ["table","row"] (ak (top 62)):=⟨rfl,rfl,rfl,by decide +kernel,rfl,by decide +kernel,by decide +kernel⟩
theorem gi:ao ["many","size","found","turn","longer","choice","least"] ["many","size"] (ak (top 33)):=⟨rfl,rfl,rfl,by decide +kernel,rfl,by decide +kernel,by decide +kernel⟩
theorem dn:ao ["known","row","columns","total","k","part"] ["known","row","columns"] (ak (top 51)):=⟨rfl,rfl,rfl,by decide +kernel,rfl,by decide +kernel,by decide +kernel⟩
theorem fg:ao ["known","row","column_choices","found","columns"] ["known","row","column_choices"] (ak (top 50)):=⟨rfl,rfl,rfl,by decide +kernel,rfl,by decide +kernel,by decide +kernel⟩
theorem cT:ao ["rows","found","known","size","fresh","column_choices","some","columns"] ["rows"] (ak (top 49)):=⟨rfl,rfl,rfl,by decide +kernel,rfl,by decide +kernel,by decide +kernel⟩
theorem fQ:ao ["table","bound","found","choices"] ["table","bound"] (ak (top 48)):=⟨rfl,rfl,rfl,by decide +kernel,rfl,by decide +kernel,by decide +kernel⟩
theorem fG:ao ["table"] ["table"] (ak (top 53)):=⟨rfl,rfl,rfl,by decide +kernel,rfl,by decide +kernel,by decide +kernel⟩
theorem rD:ao ["things","places"] ["things","places"] (ak (top 34)):=⟨rfl,rfl,rfl,by decide +kernel,rfl,by decide +kernel,by decide +kernel⟩
theorem rR:ao ["table","rows","columns"] ["table","rows","columns"] (ak (top 35)):=⟨rfl,rfl,rfl,by decide +kernel,rfl,by decide +kernel,by decide +kernel⟩
theorem fE:ao ["grid","k","i"] ["grid","k"] (ak (top 43)):=⟨rfl,rfl,rfl,by decide +kernel,rfl,by decide +kernel,by decide +kernel⟩
theorem jU:ao ["row","pivot_row","k","last","pivot","factor"] ["row","pivot_row","k","last"] (ak (top 44)):=⟨rfl,rfl,rfl,by decide +kernel,rfl,by decide +kernel,by decide +kernel⟩
theorem cI:ao ["rows","grid","many","sign","last","k","at","i"] ["rows"] (ak (top 42)):=⟨rfl,rfl,rfl,by decide +kernel,rfl,by decide +kernel,by decide +kernel⟩
theorem ee:ao ["rows","k"] ["rows","k"] (ak (top 65)):=⟨rfl,rfl,rfl,by decide +kernel,rfl,by decide +kernel,by decide +kernel⟩
theorem fm:ao ["table","rows","columns","part","whole_part","tops","k","place"] ["table","rows","columns"] (ak (top 64)):=⟨rfl,rfl,rfl,by decide +kernel,rfl,by decide +kernel,by decide +kernel⟩
theorem cA:ao ["table","below","tops","most_bits","bits","row"] ["table"] (ak (top 63)):=⟨rfl,rfl,rfl,by decide +kernel,rfl,by decide +kernel,by decide +kernel⟩
theorem iX:ao ["_law_what","_law_table_here","_law_row_here","_law_found","_law_e","_law_kinds"] ["_law_what","_law_table_here","_law_row_here"] (ak (top 82)):=⟨rfl,rfl,rfl,by decide +kernel,rfl,by decide +kernel,by decide +kernel⟩
theorem oX:ao ["_law_thing"] ["_law_thing"] (ak (top 75)):=⟨rfl,rfl,rfl,by decide +kernel,rfl,by decide +kernel,by decide +kernel⟩
theorem j8:ao ["_law_thing"] ["_law_thing"] (ak (top 79)):=⟨rfl,rfl,rfl,by decide +kernel,rfl,by decide +kernel,by decide +kernel⟩
theorem nV:ao ["_law_thing"] ["_law_thing"] (ak (top 80)):=⟨rfl,rfl,rfl,by decide +kernel,rfl,by decide +kernel,by decide +kernel⟩
theorem mY:ao ["_law_what","_law_table_here","_law_row_here","_law_none"] ["_law_what","_law_table_here","_law_row_here","_law_none"] (ak (top 83)):=⟨rfl,rfl,rfl,by decide +kernel,rfl,by decide +kernel,by decide +kernel⟩
theorem tW:ao ["_law_script","_law_k","_law_cell_here","_law_many","_law_wide","_law_parts","_law_row_here","_law_none","_law_table_here","_law_what"] ["_law_script"] (ak (top 84)):=⟨rfl,rfl,rfl,by decide +kernel,rfl,by decide +kernel,by decide +kernel⟩
end K41
namespace L2
open PySem PySem.Spec PyProof.Rows
section
variable {κ:Type} [DecidableEq κ]
end
section
variable {P:Program} {w:World} {H:Hp} {h:Heap} {a:Addr}
end
section
variable {X:Cx} {pins:List (Addr × Obj)} {σ:St} {H:Hp} {s:Shared} {a:Addr} {y v:V} {u r:Value} {o:Option V} {A:Around} {E:Value->Shared->Prop}
theorem Inv.big (I:Inv X pins σ H s):sysModules < s.heap.objs.size:=by
 have h:mainGlobals < s.heap.objs.size:=(I.mod.glob.keeps I.bk).lt
 exact Nat.lt_trans (by decide) h
theorem lZ {h':Heap} {t':Nat} {ob:HO} (I:Inv X pins σ H s) (mu:Mut (H a)) (hs:Heap.SameBut a s.heap h') (he:∃ q,h'.get? a=some q) (new:bZ X.prog X.w (upd H a ob) h' a ob) :
   Inv X pins σ (upd H a ob) { s with heap:=h',toks:=t' }:=
 I.write (x:=a) (e:=a) mu (.inl rfl) (λb q hb z=>(hs.2 b hb).trans z) he new
end
section
variable {X:Cx} {pins:List (Addr × Obj)} {σ:St} {H:Hp} {s:Shared} {a:Addr} {kvs:List (Key × V)} {k:Key} {u:Value} {A:Around} {E:Value->Shared->Prop}
end
noncomputable def n9 (i:Expr):Prop:=∀ ov iv,subscripted i false ov iv=operate [ov,iv] (getItem ov iv)
theorem qf {prog:Program} {w:World} {A:Around} {E:Value->Shared->Prop} {s:Shared} {env:Env} {value slice:Expr} {pos:Pos} {T id:String} {Q:Value->Shared->Prop}
   (hl:typeLookup (.type T) "__getitem__" = pure (some (.builtin id))) (hs:n9 slice)
   (h:wpAny (model prog w) A (eval value env) (λo s₁=>wpAny (model prog w) A (eval slice env) (λi s₂=>s₂.TypeIs o T/\wpAny (model prog w) A (getItem o i) Q E s₂) E s₁) E s) :
   wpAny (model prog w) A (eval (.Subscript value slice pos) env) Q E s:=by
 refine Subscript_ (wpAny_mono h (λo s₁ h₁=>wpAny_mono h₁ (λi s₂ h₂=>?_) λ_ _ x=>x) λ_ _ x=>x)
 obtain ⟨hT,h₂⟩:=h₂
 unfold subscriptTail
 refine wpAny_bind ?_
 rw [getitemInPython_of_ne hT.not_modules]
 refine wpAny_bind (wpAny_specialOf hT hl ?_)
 have fin:wpAny (model prog w) A (subscripted slice false o i) (λr s₃=>wpAny (model prog w) A (letTemporaryGo value o r >>= λ_=>pure r) Q E s₃) E s₂:=by
   rw [hs o i]
   exact wpAny_operating (wpAny_mono h₂ (λr s₃ h₃=>wpAny_bind (wpAny_letTemporaryGo (wpAny_pure h₃))) λ_ _ x=>x)
 first
   | exact wpAny_pure (wpAny_bind fin)
   | exact wpAny_bind (wpAny_pure (wpAny_bind fin))
   | exact wpAny_bind fin
section
variable {X:Cx} {o i e value:Expr} {pos pos' tpos:Pos} {td ty tv:TE}
end
section
variable {X:Cx} {pos:Pos}
end
section
variable {X:Cx} {pins:List (Addr × Obj)} {σ:St} {H:Hp} {s:Shared} {a:Addr} {y d:V} {u r:Value} {o:Option V} {A:Around} {E:Value->Shared->Prop}
end
section
variable {X:Cx} {o e f:Expr} {apos cpos:Pos} {td ty tx:TE}
end
end L2
namespace Ev
open PySem PySem.Spec PyProof.Rows L2
open PySem.Builtin.Range (rangeFitsLong rangeSize)
section
variable {prog:Program} {w:World} {A:Around} {E:Value->Shared->Prop} {s:Shared}
end
section
variable {X:Cx} {tg:Expr}
end
end Ev
namespace Ev
open PySem PySem.Spec PyProof.Rows L2
section
variable {X:Cx} {tg:Expr}
end
end Ev
namespace Hy
open PySem PySem.Spec PyProof.Rows L2
open Ev (D Den au aG aE ar aZ aP)
section
variable {X:Cx} {C:Bool} {τ:List Sl} {x y z:D} {a b e:Expr} {es:List Expr} {pos p:Pos} {k:Nat} {s:Sl} {ds:List D} {i j:Int}
theorem gZ {K:PySem.W.Frag} {H:Hp}:∀ {vs:List V} {ns:List Int},au K H vs (ns.map .int)->vs=ns.map V.int
 | _,[],h=>by cases h; rfl
 | _,n :: ns,h=>by
   cases h with
   | cons d r=>cases d; rw [gZ r]; rfl
theorem jZ:∀ {ns:List Int} {us:List Value},Vals (ns.map V.int) us->∃ xs:List (Int × Tok),us=xs.map (λp=>Value.int p.1 p.2)/\xs.map (·.1)=ns
 | [],_,h=>by cases h; exact ⟨[],rfl,rfl⟩
 | n :: ns,_,h=>by
   cases h with
   | cons rv rs=>
     obtain ⟨xs,rfl,rfl⟩:=jZ rs
     obtain ⟨t,rfl⟩:=(show ∃ t,_=Value.int n t from rv)
     exact ⟨(n,t) :: xs,rfl,rfl⟩
theorem tM (hc:X.calm=true):cY X (.builtin "sum") (λxs H Q=>∃ (p:Addr) (ns:List Int),xs=[.ref p]/\SqL X.K H p (ns.map V.int)/\Q (.int ns.sum) H):=by
 intro pins s σ H xs us Q I r q
 obtain ⟨p,ns,rfl,h,q⟩:=q
 obtain ⟨u,rfl,ru⟩:∃ u,us=[u]/\RelV (.ref p) u:=by
   cases r with
   | cons r1 r=>cases r; exact ⟨_,rfl,r1⟩
 cases (show u=Value.ref _ from ru)
 obtain ⟨its,rv,pl,hz⟩:=I.list h
 obtain ⟨xs,rfl,hx⟩:=jZ rv
 refine sum_intListG (xs:=xs.toArray) (I.ok.hd hc) (by have:=pl.isList; simpa [intItems] using this) λh' tk t' k=>?_
 refine ⟨.int ns.sum,H,I.kept k,⟨t',?_⟩,q⟩
 rw [List.size_toArray,preSum_eq,List.take_of_length_le (by simp),hx]
theorem zT (hc:X.calm=true) (ns:List Int) {xs:List D} (hx:xs=ns.map .int):gp X (.builtin "sum") [.lst xs] (.d (.int ns.sum)):=⟨_,tM hc,λM vs H Q _ d q=>by
 subst hx
 cases d with
 | cons d r=>
   cases r
   cases d with
   | lst h r=>
     cases gZ r
     exact ⟨_,_,rfl,aP aI h,q _ H [] (aq.refl _) cC (gg .int)⟩⟩
theorem vV:OpR X (binaryOp .Add) (λx y H Q=>∃ l b xs zs,x=.ref l/\y=.ref b/\SqL X.K H l xs/\SqL X.K H b zs/\xs.length + zs.length<=sizeLine/\∀ p,H p=none->Q (.ref p) (upd H p (.lst (xs++zs)))):=by
 intro pins s σ H x y v u Q I rx ry h
 obtain ⟨l,b,xs,zs,rfl,rfl,hH,hB,hz,q⟩:=h
 cases rx
 cases ry
 obtain ⟨its,r,pl,_⟩:=I.list hH
 obtain ⟨its2,r2,pl2,_⟩:=I.list hB
 have hl:=r.length
 have hl2:=r2.length
 obtain ⟨⟨cls,dd,data,sl⟩,ho,hc,n,hd⟩:=pl.isList
 obtain ⟨⟨cls2,dd2,data2,sl2⟩,ho2,hc2,n2,hd2⟩:=pl2.isList
 simp only at hc hd hc2 hd2
 subst hc hd hc2 hd2
 have e:its.toArray++its2.toArray=(its++its2).toArray:=by simp
 refine concat_meets ⟨_,ho,rfl⟩ ⟨_,ho2,rfl⟩ noFill_list_add seq_list_add PySem.F.slot_list_add PySem.F.entry_list_add (PySem.F.args_list_add_2 _ _) (list_addW l b its.toArray its2.toArray n n2 dd dd2 sl sl2 (by rw [List.size_toArray,List.size_toArray]; omega)) ⟨ho,ho2,?_⟩
 rw [e]
 exact ⟨.ref _,_,I.zu (t':=s.toks) (r.append r2) (by rw [List.length_append]; omega),rfl,q _ I.fresh⟩
theorem eo {xs ys:List D} (ha:PE X a (dE X.K C τ (.d (.lst xs)))) (hb:PE X b (dE X.K C τ (.d (.lst ys)))) (hl:xs.length + ys.length < 1000000):PE X (.BinOp a .Add b pos) (dE X.K C τ (.o (xs++ys))):=peW (ua vV ha hb) λσ H Q ⟨A,H₀,B,S,k⟩=>
 aW S λv H1 e1 d1=>aW (S.mono e1) λw H2 e2 d2=>by
   cases d1 with
   | lst h1 r1=>cases d2 with
     | lst h2 r2=>
       refine ⟨_,_,_,_,rfl,rfl,aP (aI.trans e2) h1,aP aI h2,by rw [r1.length,r2.length]; exact Nat.le_of_lt (Nat.lt_trans hl (by decide)),λp hp=>?_⟩
       obtain ⟨z1,z2,z3⟩:=jz (K:=X.K) hp ((r1.mono (az e2 λ_ z=>z)).append r2)
       exact k _ _ [p] (e1.trans (e2.trans z1)) (λb hb=>⟨(e1.trans e2).free (z2 b hb).1,(z2 b hb).2⟩) z3
theorem mkL (h:i.natAbs < 2 ^ 60):aG i j:=.inl (by
 rcases Nat.eq_zero_or_pos i.natAbs with z | z
 · rw [z]; decide
 · exact Nat.lt_trans ((Nat.log2_lt (by omega)).mpr h) (by decide))
theorem mkR (h:j.natAbs < 2 ^ 60):aG i j:=.inr (.inl (by
 rcases Nat.eq_zero_or_pos j.natAbs with z | z
 · rw [z]; decide
 · exact Nat.lt_trans ((Nat.log2_lt (by omega)).mpr h) (by decide)))
theorem mkD (h0:j ≠ 0) (h:j.natAbs < 2 ^ 62):aE j:=⟨h0,Nat.lt_trans ((Nat.log2_lt (by omega)).mpr h) (by decide)⟩
end
theorem aT {α:Type} {xs:List α} {i:Nat} {x:α} (h:xs[i]?=some x):atI xs (i:Int)=some x:=by
 unfold atI ixN
 have:=(List.getElem?_eq_some_iff.mp h).1
 rw [if_pos (by omega),if_pos (by omega)]
 simpa using h
theorem pM {ns:List Int} {i:Int} (h0:0<=i) (h:i.toNat < ns.length):atI (ns.map D.int) i=some (.int (ns.getD i.toNat 0)):=by
 obtain ⟨n,rfl⟩:=Int.eq_ofNat_of_zero_le h0
 exact aT (by
   have h:n < ns.length:=h
   simp [h])
theorem jQ {xs:List D} (n:Nat):cutD xs none (some (n:Int))=xs.take n:=by
 unfold cutD
 rw [HT.fW,HT.jk,List.drop_zero,Nat.sub_zero]
 rcases Nat.le_total n xs.length with h | h
 · rw [Nat.min_eq_left h]
 · rw [Nat.min_eq_right h,List.take_of_length_le (Nat.le_refl _),List.take_of_length_le h]
theorem vT {xs:List D} (m n:Nat):cutD xs (some (m:Int)) (some (n:Int))=(xs.take n).drop m:=by
 unfold cutD
 rw [HT.fW,HT.fW]
 rw [<- List.drop_take]
 rcases Nat.le_total n xs.length with h | h
 · rw [Nat.min_eq_left h]
   rcases Nat.le_total m xs.length with h' | h'
   · rw [Nat.min_eq_left h']
   · rw [Nat.min_eq_right h',List.drop_eq_nil_of_le (by simp; omega),List.drop_eq_nil_of_le (by simp; omega)]
 · rw [Nat.min_eq_right h,List.take_of_length_le (Nat.le_refl _),List.take_of_length_le h]
   rcases Nat.le_total m xs.length with h' | h'
   · rw [Nat.min_eq_left h']
   · rw [Nat.min_eq_right h',List.drop_eq_nil_of_le (Nat.le_refl _),List.drop_eq_nil_of_le h']
theorem getD_none {α:Type} {xs:List α} {i:Nat} {d:α} (h:xs.length<=i):xs.getD i d=d:=by simp [List.getD,h]
theorem ex1 {α:Type} {p:α->Prop} {a:α} (h:p a):∃ a,p a:=⟨a,h⟩
theorem ex3 {α:Type} {p:α->α->α->Prop} {a b c:α} (h:p a b c):∃ a b c,p a b c:=⟨a,b,c,h⟩
end Hy
namespace L2
open PySem PySem.Spec PyProof.Rows PySem.SeqAt
section
variable {P:Program} {w:World} {A:Around} {E:Value->Shared->Prop} {s:Shared}
noncomputable def HK (P:Program) (w:World) (A:Around) (h:Heap) (v:Value) (x:Int) (d:Nat):Prop:=
 ∀ (s:Shared) (E:Value->Shared->Prop) (Q:Int->Shared->Prop),s.heap=h->Q x { s with toks:=s.toks + d }->wpAny (model P w) A (pyHash v) Q E s
theorem rP {a:Addr} {u v:Value} {x y:Int} {m n:Nat} {Q:Int->Shared->Prop} (hu:A.units < cLine) (hk:IsTup s.heap a #[u,v]) (h1:∀ B,B.units<=A.units + 1->HK P w B s.heap u x m) (h2:∀ B,B.units<=A.units + 1->HK P w B s.heap v y n)
   (h:Q (reduceHash (Builtin.Tuple.tupleHashOf [x,y])) { s with toks:=s.toks + (m + n + 1) }):wpAny (model P w) A (pyHash (.ref a)) Q E s:=by
 obtain ⟨o,ho,hc,k,hd⟩:=hk
 have hT:s.TypeIs (.ref a) "tuple":=⟨o,ho,hc⟩
 unfold pyHash
 refine wpAny_bind (wpAny_cRoomFor_or (.inr hu) ?_)
 refine wpAny_bind (wpAny_specialOf hT F.slot_tuple_hash.lookup ?_)
 show wpAny _ _ (if (some (Value.builtin "tuple.__hash__") == some Value.none)=true then _ else _) Q E s
 rw [if_neg (by rw [beq_builtin_none]; exact Bool.false_ne_true)]
 refine wpAny_bind (wpAny_specialOf hT F.slot_tuple_hash.lookup ?_)
 show wpAny _ _ (callSpecialIfBoundUnlessNone? (.ref a) "__hash__" _ >>= _) Q E s
 refine wpAny_bind (wpAny_callSpecialIfBoundUnlessNone?_slot hT F.slot_tuple_hash (wpAny_call_entry F.slot_tuple_hash hT F.entry_tuple_hash ?_ (F.args_tuple_hash_1 _)))
 show wpAny _ _ (Builtin.Tuple.tupleItemsOf (.ref a) >>= _) _ _ s
 refine wpAny_bind (wpAny_tupleItemsOf ho hd ?_)
 refine wpAny_bind ?_
 rw [<- Array.forIn_toList]
 refine wpAny_forIn_list _
   (λrest (b:Array Int) s'=>(rest=[u,v]/\b=#[]/\s'=s)\/(rest=[v]/\b=#[x]/\s'={ s with toks:=s.toks + m })\/(rest=[]/\b=#[x,y]/\s'={ s with toks:=s.toks + (m + n) }))
   _ ?_ ?_ _ _ (.inl ⟨rfl,rfl,rfl⟩)
 · rintro z rest b s' (⟨e,rfl,rfl⟩ | ⟨e,rfl,rfl⟩ | ⟨e,_⟩)
   · cases e
     refine wpAny_bind (h1 _ ?_ _ _ _ rfl ?_)
     · exact Nat.le_refl _
     · exact wpAny_pure (.inr (.inl ⟨rfl,rfl,rfl⟩))
   · cases e
     refine wpAny_bind (h2 _ ?_ _ _ _ rfl ?_)
     · exact Nat.le_refl _
     · exact wpAny_pure (.inr (.inr ⟨rfl,rfl,by simp [Nat.add_assoc]⟩))
   · cases e
 · rintro b s' (⟨e,_⟩ | ⟨e,_⟩ | ⟨_,rfl,rfl⟩)
   · cases e
   · cases e
   show wpAny _ _ (retInt (Builtin.Tuple.tupleHashOf [x,y])) _ _ _
   refine wpAny_ret_mkInt ?_
   show wpAny _ _ (if (decide (-(2:Int) ^ 63<=Builtin.Tuple.tupleHashOf [x,y]) && decide (Builtin.Tuple.tupleHashOf [x,y] < 2 ^ 63))=true then _ else _) Q E _
   unfold reduceHash at h
   by_cases hr:(decide (-(2:Int) ^ 63<=Builtin.Tuple.tupleHashOf [x,y]) && decide (Builtin.Tuple.tupleHashOf [x,y] < 2 ^ 63))=true
   · rw [if_pos hr]
     rw [if_pos hr] at h
     exact wpAny_pure (by simpa [Nat.add_assoc] using h)
   · rw [if_neg hr]
     rw [if_neg hr] at h
     exact wpAny_bind (wpAny_rule (wpAny_pure (by simpa [Nat.add_assoc] using h)))
theorem pT {a:Addr} {u v:Value} {n:Nat} {Q:Bool->Shared->Prop} (hk:IsTup s.heap a #[u,v]) (h1:∀ A E Q,Q true s->wpAny (model P w) A (eqIsQuiet n u) Q E s) (h2:∀ A E Q,Q true s->wpAny (model P w) A (eqIsQuiet n v) Q E s) (h:Q true s) :
   wpAny (model P w) A (eqIsQuiet (n + 1) (.ref a)) Q E s:=by
 obtain ⟨o,ho,hc,k,hd⟩:=hk
 have hT:s.TypeIs (.ref a) "tuple":=⟨o,ho,hc⟩
 unfold eqIsQuiet
 refine wpAny_bind (wpAny_specialOf hT F.slot_tuple_eq.lookup ?_)
 show wpAny _ _ (isInstance (.ref a) (.type "tuple") >>= _) _ _ s
 refine wpAny_bind (wpAny_isInstance hT isSubtype_tuple_tuple ?_)
 simp only [Bool.not_true,Bool.false_eq_true,if_false]
 refine wpAny_bind (wpAny_seqItems ho hd ?_)
 refine wpAny_bind ?_
 show wpAny _ _ (forIn #[u,v] _ _) _ _ s
 rw [<- Array.forIn_toList]
 refine wpAny_forIn_list _ (λrest r s'=>r.1=none/\s'=s/\∀ z ∈ rest,z=u\/z=v) _ ?_ ?_ _ _ ⟨rfl,rfl,λz hz=>by simpa using hz⟩
 · rintro z rest r s' ⟨hr,rfl,hall⟩
   have hz:∀ A E Q,Q true s'->wpAny (model P w) A (eqIsQuiet n z) Q E s':=by
     rcases hall z List.mem_cons_self with rfl | rfl
     · exact h1
     · exact h2
   refine wpAny_bind (hz _ _ _ ?_)
   simp only [Bool.not_true,Bool.false_eq_true,if_false]
   exact wpAny_pure ⟨rfl,rfl,λx hx=>hall x (List.mem_cons_of_mem _ hx)⟩
 · rintro ⟨r1,r2⟩ s' ⟨hr,rfl,_⟩
   simp only at hr
   subst hr
   exact wpAny_pure h
theorem vH {a b:Addr} {u v u' v':Value} {p q:Bool} (hu:A.units < cLine) (ha:IsTup s.heap a #[u,v]) (hb:IsTup s.heap b #[u',v']) (h1:EqAt A.in1 s u u' p) (h2:EqAt A.in1 s v v' q) (hs:a=b->(p && q)=true):EqAt A s (.ref a) (.ref b) (p && q):=by
 by_cases z:a=b
 · subst z
   rw [hs rfl]
   exact .same _
 · have:=EqAt.of_refs z (RcAt.tuples (e:=λj=>if j=0 then p else q) ha hb hu λj j1 j2=>by
     match j,j1 with
     | 0,_=>exact h1
     | 1,_=>exact h2)
   have e:((List.range (min (#[u,v]:Array Value).size (#[u',v']:Array Value).size)).all (λj=>if j=0 then p else q) && (#[u,v]:Array Value).size == (#[u',v']:Array Value).size)=(p && q):=by
     show (p && (q && true) && true)=(p && q)
     cases p <;> cases q <;> rfl
   rw [e] at this
   exact this
end
theorem je {h:Heap} {a:Addr} {x y:Array Value} (p:IsTup h a x) (q:IsTup h a y):x=y:=by
 obtain ⟨o,ho,_,n,hd⟩:=p
 obtain ⟨o',ho',_,n',hd'⟩:=q
 rw [ho] at ho'; cases ho'
 rw [hd] at hd'; cases hd'; rfl
theorem qN {h h':Heap} {a d:Addr} {x:Array Value} {o:Obj} {es ep} (p:IsTup h a x) (ho:h.get? d=some o) (hd:o.data=.dict es ep) (hs:Heap.SameBut d h h'):IsTup h' a x:=by
 obtain ⟨o',ho',hc,n,hd'⟩:=p
 have hne:a ≠ d:=by
   rintro rfl
   rw [ho] at ho'; cases ho'
   rw [hd] at hd'; exact nomatch hd'
 exact ⟨o',(hs.2 a hne).trans ho',hc,n,hd'⟩
structure IK (P:Program) (w:World) (K:Type) [DecidableEq K] where
 is:Heap->K->Value->Prop
 hash:K->Int
 draws:K->Nat
 dep:Nat
 inj:∀ {h:Heap} {v:Value} {x y:K},is h x v->is h y v->x=y
 keeps:∀ {h h':Heap} {k:K} {v:Value} {d:Addr} {o:Obj} {es ep},is h k v->h.get? d=some o->o.data=.dict es ep->Heap.SameBut d h h'->is h' k v
 hk:∀ {A:Around} {h:Heap} {k:K} {v:Value},is h k v->A.units + dep < cLine->HK P w A h v (hash k) (draws k)
 eq:∀ {A:Around} {s:Shared} {x y:K} {u v:Value},is s.heap x u->is s.heap y v->A.units + dep < cLine->EqAt A s u v (decide (x=y))
 quiet:∀ {s:Shared} {k:K} {v:Value} {n:Nat},dep < n->is s.heap k v->∀ A E Q,Q true s->wpAny (model P w) A (eqIsQuiet n v) Q E s
section
variable {P:Program} {w:World}
noncomputable def Am:IK P w Int where
 is:=λ_ k v=>∃ t,v=.int k t
 hash:=hashInt
 draws:=λ_=>1
 dep:=0
 inj:=λ⟨_,e⟩ ⟨_,g⟩=>by rw [e] at g; cases g; rfl
 keeps:=λh _ _ _=>h
 hk:=λ⟨_,e⟩ _ s E Q _ hq=>by rw [e]; exact wpAny_pyHash_int hq
 eq:=λ{A s x y u v} ⟨_,e⟩ ⟨_,g⟩ _=>by
   rw [e,g]
   have:decide (x=y)=(x == y):=by by_cases h:x=y <;> simp [h]
   rw [this]
   exact .int_int _ _ _ _
 quiet:=λ{s k v n} hn ⟨_,e⟩ A E Q q=>by
   obtain ⟨m,rfl⟩:∃ m,n=m + 1:=⟨n - 1,by omega⟩
   rw [e]
   exact wpAny_pure q
variable {K K':Type} [DecidableEq K] [DecidableEq K']
noncomputable def xo (a:IK P w K) (b:IK P w K'):IK P w (K × K') where
 is:=λh k v=>∃ p u u',v=.ref p/\IsTup h p #[u,u']/\a.is h k.1 u/\b.is h k.2 u'
 hash:=λk=>reduceHash (Builtin.Tuple.tupleHashOf [a.hash k.1,b.hash k.2])
 draws:=λk=>a.draws k.1 + b.draws k.2 + 1
 dep:=max a.dep b.dep + 1
 inj:=λ{h v x y} ⟨p,u,u',e,t,h1,h2⟩ ⟨p',v1,v2,e',t',g1,g2⟩=>by
   rw [e] at e'
   cases e'
   have q:=je t t'
   simp only [Array.mk.injEq,List.cons.injEq,and_true] at q
   obtain ⟨rfl,rfl⟩:=q
   exact Prod.ext (a.inj h1 g1) (b.inj h2 g2)
 keeps:=λ⟨p,u,u',e,t,h1,h2⟩ ho hd hs=>⟨p,u,u',e,qN t ho hd hs,a.keeps h1 ho hd hs,b.keeps h2 ho hd hs⟩
 hk:=λ{A h k v} ⟨p,u,u',e,t,h1,h2⟩ hu s E Q eh hq=>by
   rw [e]
   subst eh
   exact rP (by omega) t (λB hB=>a.hk h1 (by omega)) (λB hB=>b.hk h2 (by omega)) hq
 eq:=λ{A s x y u v} hx hy hu=>by
   obtain ⟨p,u1,u2,e,t,h1,h2⟩:=id hx
   obtain ⟨p',v1,v2,e',t',g1,g2⟩:=id hy
   have ed:decide (x=y)=(decide (x.1=y.1) && decide (x.2=y.2)):=by
     obtain ⟨x1,x2⟩:=x
     obtain ⟨y1,y2⟩:=y
     rw [Bool.eq_iff_iff]
     simp
   rw [e,e',ed]
   refine vH (by omega) t t' (a.eq h1 g1 (show A.units + 1 + a.dep < cLine by omega)) (b.eq h2 g2 (show A.units + 1 + b.dep < cLine by omega)) λz=>?_
   subst z
   have q:=je t t'
   simp only [Array.mk.injEq,List.cons.injEq,and_true] at q
   obtain ⟨rfl,rfl⟩:=q
   rw [a.inj h1 g1,b.inj h2 g2]
   simp
 quiet:=λ{s k v n} hn ⟨p,u,u',e,t,h1,h2⟩ A E Q q=>by
   obtain ⟨m,rfl⟩:∃ m,n=m + 1:=⟨n - 1,by omega⟩
   rw [e]
   exact pT t (a.quiet (by omega) h1) (b.quiet (by omega) h2) q
noncomputable def kindOf (a:IK P w K) (hd:a.dep<=7):HeapKind P w K where
 is:=λh k p=>a.is h k (.ref p)
 hash:=a.hash
 draws:=a.draws
 room:=λA=>A.units + 8 < cLine
 inj:=a.inj
 keeps:=a.keeps
 pyHash:=λ{A E s k p Q} hu hk h=>a.hk hk (by omega) s E Q rfl h
 eqBool:=λ{A E s x y p p' Q} hu hx hy h=>a.eq hx hy (by omega) _ _ _ _ h
 quiet:=λ{A E s k p Q} hk h=>a.quiet (by omega) hk A E Q h
end
inductive dR {K:Type} (R:K->Value->Prop):List K->List Value->Prop where
 | nil:dR R [] []
 | cons {x:K} {v:Value} {xs:List K} {vs:List Value} (h:R x v) (r:dR R xs vs):dR R (x :: xs) (v :: vs)
section
variable {K:Type}
theorem dR.mono {R S:K->Value->Prop} (f:∀ x v,R x v->S x v):∀ {xs:List K} {vs:List Value},dR R xs vs->dR S xs vs
 | _,_,.nil=>.nil
 | _,_,.cons h r=>.cons (f _ _ h) (r.mono f)
theorem dR.inj {R:K->Value->Prop} (f:∀ x y v,R x v->R y v->x=y):∀ {xs ys:List K} {vs:List Value},dR R xs vs->dR R ys vs->xs=ys
 | _,_,_,.nil,.nil=>rfl
 | _,_,_,.cons h r,.cons g q=>by rw [f _ _ _ h g,r.inj f q]
theorem dR.length {R:K->Value->Prop}:∀ {xs:List K} {vs:List Value},dR R xs vs->xs.length=vs.length
 | _,_,.nil=>rfl
 | _,_,.cons _ r=>congrArg (· + 1) r.length
theorem dR.at {R:K->Value->Prop}:∀ {xs:List K} {vs:List Value},dR R xs vs->∀ (j:Nat) (h1:j < xs.length) (h2:j < vs.length),R xs[j] vs[j]
 | _,_,.nil,_,h1,_=>absurd h1 (Nat.not_lt_zero _)
 | _,_,.cons h _,0,_,_=>h
 | _,_,.cons _ r,j + 1,h1,h2=>r.at j (Nat.lt_of_succ_lt_succ h1) (Nat.lt_of_succ_lt_succ h2)
theorem dR.mem {R:K->Value->Prop}:∀ {xs:List K} {vs:List Value},dR R xs vs->∀ v ∈ vs,∃ x,R x v
 | _,_,.nil,_,h=>nomatch h
 | _,_,.cons h r,v,hv=>(List.mem_cons.mp hv).elim (λz=>⟨_,z ▸ h⟩) (r.mem v)
theorem all_eq [DecidableEq K] {xs ys:List K}:((List.range (min xs.length ys.length)).all (λj=>decide (xs[j]?=ys[j]?)) && xs.length == ys.length)=decide (xs=ys):=by
 rw [Bool.eq_iff_iff]
 simp only [Bool.and_eq_true,List.all_eq_true,List.mem_range,decide_eq_true_eq,beq_iff_eq]
 constructor
 · rintro ⟨h1,h2⟩
   refine List.ext_getElem? λj=>?_
   by_cases hj:j < xs.length
   · exact h1 j (by omega)
   · rw [List.getElem?_eq_none (by omega),List.getElem?_eq_none (by omega)]
 · rintro rfl
   exact ⟨λ_ _=>rfl,rfl⟩
end
section
variable {P:Program} {w:World} {K:Type} [DecidableEq K]
theorem rk {a:IK P w K} {A:Around} {E:Value->Shared->Prop} {s:Shared} {p:Addr} {its:List Value} {xs:List K} {Q:Int->Shared->Prop} (hu:A.units + (a.dep + 1) < cLine) (hk:IsTup s.heap p its.toArray) (hs:dR (a.is s.heap) xs its)
   (h:Q (reduceHash (Builtin.Tuple.tupleHashOf (xs.map a.hash))) { s with toks:=s.toks + ((xs.map a.draws).sum + 1) }):wpAny (model P w) A (pyHash (.ref p)) Q E s:=by
 obtain ⟨o,ho,hc,k,hd⟩:=hk
 have hT:s.TypeIs (.ref p) "tuple":=⟨o,ho,hc⟩
 unfold pyHash
 refine wpAny_bind (wpAny_cRoomFor_or (.inr (by omega)) ?_)
 refine wpAny_bind (wpAny_specialOf hT F.slot_tuple_hash.lookup ?_)
 show wpAny _ _ (if (some (Value.builtin "tuple.__hash__") == some Value.none)=true then _ else _) Q E s
 rw [if_neg (by rw [beq_builtin_none]; exact Bool.false_ne_true)]
 refine wpAny_bind (wpAny_specialOf hT F.slot_tuple_hash.lookup ?_)
 show wpAny _ _ (callSpecialIfBoundUnlessNone? (.ref p) "__hash__" _ >>= _) Q E s
 refine wpAny_bind (wpAny_callSpecialIfBoundUnlessNone?_slot hT F.slot_tuple_hash (wpAny_call_entry F.slot_tuple_hash hT F.entry_tuple_hash ?_ (F.args_tuple_hash_1 _)))
 show wpAny _ _ (Builtin.Tuple.tupleItemsOf (.ref p) >>= _) _ _ s
 refine wpAny_bind (wpAny_tupleItemsOf ho hd ?_)
 refine wpAny_bind ?_
 rw [<- Array.forIn_toList]
 refine wpAny_forIn_list _
   (λrest (b:Array Int) s'=>∃ (ks:List K) (n:Nat),dR (a.is s.heap) ks rest/\b.toList++ks.map a.hash=xs.map a.hash/\n + (ks.map a.draws).sum=(xs.map a.draws).sum/\s'={ s with toks:=s.toks + n })
   _ ?_ ?_ _ _ ⟨xs,0,hs,rfl,by omega,rfl⟩
 · rintro z rest b s' ⟨ks,n,hr,e1,e2,rfl⟩
   cases hr with
   | @cons x _ ks' _ hx hr=>
     refine wpAny_bind (a.hk hx (show A.units + 1 + a.dep < cLine by omega) _ _ _ rfl ?_)
     refine wpAny_pure ⟨ks',n + a.draws x,hr,?_,?_,by simp [Nat.add_assoc]⟩
     · simpa using e1
     · rw [List.map_cons,List.sum_cons] at e2
       omega
 · rintro b s' ⟨ks,n,hr,e1,e2,rfl⟩
   cases hr
   rw [List.map_nil,List.append_nil] at e1
   rw [List.map_nil,List.sum_nil,Nat.add_zero] at e2
   subst e2
   show wpAny _ _ (retInt (Builtin.Tuple.tupleHashOf b.toList)) _ _ _
   rw [e1]
   refine wpAny_ret_mkInt ?_
   show wpAny _ _ (if (decide (-(2:Int) ^ 63<=Builtin.Tuple.tupleHashOf (xs.map a.hash)) && decide (Builtin.Tuple.tupleHashOf (xs.map a.hash) < 2 ^ 63))=true then _ else _) Q E _
   unfold reduceHash at h
   by_cases hr:(decide (-(2:Int) ^ 63<=Builtin.Tuple.tupleHashOf (xs.map a.hash)) && decide (Builtin.Tuple.tupleHashOf (xs.map a.hash) < 2 ^ 63))=true
   · rw [if_pos hr]
     rw [if_pos hr] at h
     exact wpAny_pure (by simpa [Nat.add_assoc] using h)
   · rw [if_neg hr]
     rw [if_neg hr] at h
     exact wpAny_bind (wpAny_rule (wpAny_pure (by simpa [Nat.add_assoc] using h)))
theorem oY {A:Around} {E:Value->Shared->Prop} {s:Shared} {p:Addr} {its:List Value} {n:Nat} {Q:Bool->Shared->Prop} (hk:IsTup s.heap p its.toArray) (h1:∀ z ∈ its,∀ A E Q,Q true s->wpAny (model P w) A (eqIsQuiet n z) Q E s) (h:Q true s) :
   wpAny (model P w) A (eqIsQuiet (n + 1) (.ref p)) Q E s:=by
 obtain ⟨o,ho,hc,k,hd⟩:=hk
 have hT:s.TypeIs (.ref p) "tuple":=⟨o,ho,hc⟩
 unfold eqIsQuiet
 refine wpAny_bind (wpAny_specialOf hT F.slot_tuple_eq.lookup ?_)
 show wpAny _ _ (isInstance (.ref p) (.type "tuple") >>= _) _ _ s
 refine wpAny_bind (wpAny_isInstance hT isSubtype_tuple_tuple ?_)
 simp only [Bool.not_true,Bool.false_eq_true,if_false]
 refine wpAny_bind (wpAny_seqItems ho hd ?_)
 refine wpAny_bind ?_
 show wpAny _ _ (forIn its.toArray _ _) _ _ s
 rw [<- Array.forIn_toList]
 refine wpAny_forIn_list _ (λrest r s'=>r.1=none/\s'=s/\∀ z ∈ rest,z ∈ its) _ ?_ ?_ _ _ ⟨rfl,rfl,λz hz=>by simpa using hz⟩
 · rintro z rest r s' ⟨hr,rfl,hall⟩
   refine wpAny_bind (h1 z (hall z List.mem_cons_self) _ _ _ ?_)
   simp only [Bool.not_true,Bool.false_eq_true,if_false]
   exact wpAny_pure ⟨rfl,rfl,λx hx=>hall x (List.mem_cons_of_mem _ hx)⟩
 · rintro ⟨r1,r2⟩ s' ⟨hr,rfl,_⟩
   simp only at hr
   subst hr
   exact wpAny_pure h
noncomputable def yo (a:IK P w K):IK P w (List K) where
 is:=λh ks v=>∃ p its,v=.ref p/\IsTup h p its.toArray/\dR (a.is h) ks its
 hash:=λks=>reduceHash (Builtin.Tuple.tupleHashOf (ks.map a.hash))
 draws:=λks=>(ks.map a.draws).sum + 1
 dep:=a.dep + 1
 inj:=λ{h v x y} ⟨p,its,e,t,r⟩ ⟨p',its',e',t',r'⟩=>by
   rw [e] at e'
   cases e'
   have q:its=its':=congrArg Array.toList (je t t')
   subst q
   exact dR.inj (R:=a.is h) (λ_ _ _ z1 z2=>a.inj z1 z2) r r'
 keeps:=λ⟨p,its,e,t,r⟩ ho hd hs=>⟨p,its,e,qN t ho hd hs,r.mono λ_ _ z=>a.keeps z ho hd hs⟩
 hk:=λ{A h k v} ⟨p,its,e,t,r⟩ hu s E Q eh hq=>by
   rw [e]
   subst eh
   exact rk hu t r hq
 eq:=λ{A s x y u v} hx hy hu=>by
   obtain ⟨p,its,e,t,r⟩:=id hx
   obtain ⟨p',its',e',t',r'⟩:=id hy
   rw [e,e']
   by_cases z:p=p'
   · subst z
     have q:its=its':=congrArg Array.toList (je t t')
     subst q
     rw [decide_eq_true (dR.inj (R:=a.is s.heap) (λ_ _ _ z1 z2=>a.inj z1 z2) r r')]
     exact .same _
   · have:=EqAt.of_refs z (RcAt.tuples (e:=λj=>decide (x[j]?=y[j]?)) t t' (show A.units < cLine by omega) λj j1 j2=>by
       have l1:j < x.length:=by rw [r.length]; simpa using j1
       have l2:j < y.length:=by rw [r'.length]; simpa using j2
       rw [List.getElem?_eq_getElem l1,List.getElem?_eq_getElem l2]
       have:=a.eq (A:=A.in1) (r.at j l1 (by simpa using j1)) (r'.at j l2 (by simpa using j2)) (show A.units + 1 + a.dep < cLine by omega)
       simpa using this)
     have el:(its.toArray.size,its'.toArray.size)=(x.length,y.length):=by rw [r.length,r'.length]; simp
     have e1:its.toArray.size=x.length:=congrArg Prod.fst el
     have e2:its'.toArray.size=y.length:=congrArg Prod.snd el
     rw [e1,e2,all_eq] at this
     exact this
 quiet:=λ{s k v n} hn ⟨p,its,e,t,r⟩ A E Q q=>by
   obtain ⟨m,rfl⟩:∃ m,n=m + 1:=⟨n - 1,by omega⟩
   rw [e]
   refine oY t (λz hz=>?_) q
   obtain ⟨x,hx⟩:=r.mem z hz
   exact a.quiet (by omega) hx
end
end L2
namespace Ev
open PySem PySem.Spec PyProof.Rows L2
structure KD (K:Type) [DecidableEq K] where
 ik:∀ (P:Program) (w:World),IK P w K
 dep:Nat
 dep_ok:∀ P w,(ik P w).dep=dep
 toD:K->D
 den:∀ {X:Cx} {pins:List (Addr × Obj)} {σ:L2.St} {H:Hp} {s:Shared} {v:V} {u:Value} {k:K},Inv X pins σ H s->Den X.K H v (toD k)->RelV v u->(ik X.prog X.w).is s.heap k u
noncomputable def zK:KD Int where
 ik:=λ_ _=>Am
 dep:=0
 dep_ok:=λ_ _=>rfl
 toD:=.int
 den:=λ_ d r=>by cases d; exact r
section
variable {K K':Type} [DecidableEq K] [DecidableEq K']
noncomputable def zd (a:KD K) (b:KD K'):KD (K × K') where
 ik:=λP w=>xo (a.ik P w) (b.ik P w)
 dep:=max a.dep b.dep + 1
 dep_ok:=λP w=>by show max (a.ik P w).dep (b.ik P w).dep + 1=_; rw [a.dep_ok,b.dep_ok]
 toD:=λk=>.tup [a.toD k.1,b.toD k.2]
 den:=λ{X pins σ H s v u k} I d r=>by
   cases d with
   | tup h q=>
     cases (show u=Value.ref _ from r)
     obtain ⟨its,rv,t,_⟩:=I.tuple h
     cases q with
     | cons d1 q=>cases q with
       | cons d2 q=>cases q with
         | nil=>cases rv with
           | cons r1 rv=>cases rv with
             | cons r2 rv=>cases rv with
               | nil=>exact ⟨_,_,_,rfl,t,a.den I d1 r1,b.den I d2 r2⟩
theorem nK (a:KD K) {X:Cx} {pins:List (Addr × Obj)} {σ:L2.St} {H:Hp} {s:Shared} (I:Inv X pins σ H s):∀ {ks:List K} {vs:List V} {us:List Value},au X.K H vs (ks.map a.toD)->Vals vs us->dR ((a.ik X.prog X.w).is s.heap) ks us
 | [],_,_,.nil,.nil=>.nil
 | _ :: _,_,_,.cons d r,.cons q t=>.cons (a.den I d q) (nK a I r t)
noncomputable def yG (a:KD K):KD (List K) where
 ik:=λP w=>yo (a.ik P w)
 dep:=a.dep + 1
 dep_ok:=λP w=>by show (a.ik P w).dep + 1=_; rw [a.dep_ok]
 toD:=λks=>.tup (ks.map a.toD)
 den:=λ{X pins σ H s v u k} I d r=>by
   generalize e:D.tup (k.map a.toD)=x at d
   cases d with
   | tup h q=>
     cases e
     cases (show u=Value.ref _ from r)
     obtain ⟨its,rv,t,_⟩:=I.tuple h
     exact ⟨_,its,rfl,t,nK a I q rv⟩
   | _=>cases e
noncomputable abbrev NEs (K:Type):=List (K × Addr × Value)
noncomputable def kd (a:KD K) (hd:a.dep<=7) (P:Program) (w:World):HeapKind P w K:=kindOf (a.ik P w) (by rw [a.dep_ok]; exact hd)
variable {a:KD K} {hd:a.dep<=7}
noncomputable def dNk (a:KD K) (hd:a.dep<=7) (P:Program) (w:World) (p:Addr) (xs:NEs K):HO:=.ext λh=>(p == sysModules)=false/\∃ o es ep,h.get? p=some o/\o.ExactDict/\o.data=.dict es ep/\es.toList=xs.map (entryOfKey (kd a hd P w))/\(xs.map (·.1)).Nodup
structure gO (a:KD K) (hd:a.dep<=7) (P:Program) (w:World) (F:PySem.W.Frag) (H:Hp) (d:Addr) (xs:NEs K):Prop where
 at_:H d=some (dNk a hd P w d xs)
 key:∀ x ∈ xs,Den F H (.ref x.2.1) (a.toD x.1)
variable {X:Cx} {pins:List (Addr × Obj)} {σ:L2.St} {H:Hp} {s:Shared} {d b:Addr} {xs:NEs K} {k:K} {A:Around} {E:Value->Shared->Prop}
theorem key_is (I:Inv X pins σ H s) (q:Den X.K H (.ref b) (a.toD k)):(kd a hd X.prog X.w).is s.heap k b:=a.den I q rfl
theorem uj (I:Inv X pins σ H s) (D:gO a hd X.prog X.w X.K H d xs):(d == sysModules)=false/\s.heap.DictOfH (kd a hd X.prog X.w) d xs:=by
 obtain ⟨⟨h0,o,es,ep,h1,h2,h3,h4,h5⟩,_⟩:=(show bZ X.prog X.w H s.heap d (dNk a hd X.prog X.w d xs) from I.hok d _ D.at_)
 exact ⟨h0,o,es,ep,h1,h2,h3,h4,λx hx=>key_is I (D.key x hx),h5⟩
noncomputable def z5 (a:KD K) (hd:a.dep<=7) (P:Program) (w:World) (F:PySem.W.Frag) (td ty:TE):TE:=λσ H Q=>td σ H λx H1=>ty σ H1 λy H2=>∃ d b k xs p v,x=.ref d/\y=.ref b/\gO a hd P w F H2 d xs/\Den F H2 (.ref b) (a.toD k)/\atKey xs k=some p/\RelV v p.2/\Q v H2
noncomputable def AG (a:KD K) (hd:a.dep<=7) (P:Program) (w:World) (F:PySem.W.Frag) (td ty tv:TE):TS:=λD σ H=>tv σ H λv H1=>td σ H1 λx H2=>ty σ H2 λy H3=>∃ d b k xs,x=.ref d/\y=.ref b/\gO a hd P w F H3 d xs/\Den F H3 (.ref b) (a.toD k)/\xs.length<=sizeLine/\∀ u,RelV v u->D.nx σ (upd H3 d (dNk a hd P w d (storedH xs k b u)))
noncomputable def Af (a:KD K) (hd:a.dep<=7) (P:Program) (w:World):TE:=λ_ H Q=>∀ p,H p=none->Q (.ref p) (upd H p (dNk a hd P w p []))
variable {o i e value:Expr} {pos pos':Pos} {td ty tv:TE}
theorem il (hu:X.A.units + 16 < cLine) (ho:PE X o td) (hi:PE X i ty) (hs:n9 i):PE X (.Subscript o i pos) (z5 a hd X.prog X.w X.K td ty):=by
 intro pins s σ H Q I h
 refine qf PySem.F.slot_dict_getitem.lookup hs (thn (ho pins s σ H _ I h) λu s1 ⟨x,H1,I1,rx,q1⟩=>thn (hi pins s1 σ H1 _ I1 q1) λiv s2 ⟨y,H2,I2,ry,d,b,k,xs,p,v,ex,ey,D,g,hp,rv,q2⟩=>?_)
 subst ex ey
 obtain rfl:u=Value.ref d:=rx
 obtain rfl:iv=Value.ref b:=ry
 obtain ⟨_,dd⟩:=uj I2 D
 exact ⟨dd.typeIs,wpAny_getItem_heap (show X.A.units + 1 + 8 < cLine by omega) (key_is I2 g) dd hp ⟨v,H2,I2.tok _,rv,q2⟩⟩
theorem mM (hu:X.A.units + 16 < cLine) (ho:PE X o td) (hi:PE X i ty) (hv:PE X value tv) (hs:swapsWith value (some (.Subscript o i pos')) pos.line X.env=pure false) :
   PS X (.Assign [.Subscript o i pos'] value pos) (AG a hd X.prog X.w X.K td ty tv):=by
 intro pins s σ H D I h
 refine wpAny_Assign_Subscript (thn (hv pins s σ H _ I h) λr s1 ⟨v,H1,I1,rv,q1⟩=>thn (ho pins s1 σ H1 _ I1 q1) λu s2 ⟨x,H2,I2,rx,q2⟩=>thn (hi pins s2 σ H2 _ I2 q2) λiv s3 ⟨y,H3,I3,ry,d,b,k,xs,ex,ey,D',g,hl,q3⟩=>?_) hs
 subst ex ey
 obtain rfl:u=Value.ref d:=rx
 obtain rfl:iv=Value.ref b:=ry
 obtain ⟨hd',dd⟩:=uj I3 D'
 refine wpAny_setItem_heap (hsz:=hl) (show X.A.units + 1 + 8 < cLine by omega) (key_is I3 g) dd λh' dd' hs=>⟨σ,_,?_,q3 r rv⟩
 obtain ⟨q,es,ep,hq,h2,h3,h4,_,h5⟩:=dd'
 refine lZ I3 (by rw [D'.at_]; exact True.intro) hs ⟨q,hq⟩ ⟨⟨hd',q,es,ep,hq,h2,h3,h4,h5⟩,⟨q,hq⟩,λa1 a2 ⟨z0,o,es,ep,z1,z2⟩ hk=>⟨z0,o,es,ep,hk o z1,z2⟩⟩
theorem lO:PE X (.Dict [] [] pos) (Af a hd X.prog X.w):=λpins s σ H Q I h=>
 wpAny_Dict_empty ⟨.ref s.heap.objs.size,_,I.laid (a:=s.heap.objs.size) (o:=dNk a hd X.prog X.w s.heap.objs.size []) (t':=s.toks) (λ_ _ q=>Heap.get?_push_of_some _ q) (Nat.le_refl _)
   ⟨⟨beq_eq_false_iff_ne.mpr (Ne.symm (Nat.ne_of_lt I.big)),_,#[],0,Heap.get?_push_size _ rfl,⟨rfl,rfl,rfl⟩,rfl,rfl,List.nodup_nil⟩,⟨_,Heap.get?_push_size _ rfl⟩,λa1 a2 ⟨z0,o,es,ep,z1,z2⟩ hk=>⟨z0,o,es,ep,hk o z1,z2⟩⟩,rfl,h _ (I.hok.fresh (Nat.le_refl _))⟩
end
end Ev
namespace Hy
open PySem PySem.Spec PyProof.Rows L2
open Ev (D Den au KD NEs dNk gO)
section
variable {K:Type} [DecidableEq K]
inductive EnK (a:KD K) (F:PySem.W.Frag) (G:Hp):NEs K->List (K × D)->Prop where
 | nil:EnK a F G [] []
 | cons {k:K} {b:Addr} {u:Value} {v:V} {x:D} {xs:NEs K} {m:List (K × D)} (hk:Den F G (.ref b) (a.toD k)) (hr:RelV v u) (hv:Den F G v x) (r:EnK a F G xs m):EnK a F G ((k,b,u) :: xs) ((k,x) :: m)
variable {a:KD K} {F:PySem.W.Frag} {G G':Hp}
theorem EnK.mono (e:aq G G'):∀ {xs:NEs K} {m:List (K × D)},EnK a F G xs m->EnK a F G' xs m
 | _,_,.nil=>.nil
 | _,_,.cons h1 h2 h3 r=>.cons (h1.mono e) h2 (h3.mono e) (r.mono e)
theorem EnK.length:∀ {xs:NEs K} {m:List (K × D)},EnK a F G xs m->xs.length=m.length
 | _,_,.nil=>rfl
 | _,_,.cons _ _ _ r=>congrArg (· + 1) r.length
theorem EnK.key:∀ {xs:NEs K} {m:List (K × D)},EnK a F G xs m->∀ x ∈ xs,Den F G (.ref x.2.1) (a.toD x.1)
 | _,_,.nil,_,h=>nomatch h
 | _,_,.cons h _ _ r,x,hx=>(List.mem_cons.mp hx).elim (λz=>z ▸ h) (r.key x)
noncomputable def getM (m:List (K × D)) (k:K):Option D:=(m.find? λx=>decide (x.1=k)).map (·.2)
noncomputable def fu (m:List (K × D)) (k:K) (x:D):List (K × D):=if (getM m k).isSome then m.map λy=>if y.1=k then (y.1,x) else y else m++[(k,x)]
theorem EnK.at:∀ {xs:NEs K} {m:List (K × D)},EnK a F G xs m->∀ k,match getM m k with
   | none=>atKey xs k=none
   | some x=>∃ p v,atKey xs k=some p/\RelV v p.2/\Den F G v x
 | _,_,.nil,_=>rfl
 | _,_,.cons (k:=k') (x:=y) (m:=m) (xs:=xs) h1 h2 h3 r,k=>by
   have ih:=r.at k
   unfold getM atKey at *
   by_cases e:k'=k
   · simp only [List.find?_cons,e,decide_true,Option.map_some]
     exact ⟨_,_,rfl,h2,h3⟩
   · simp only [List.find?_cons,e,decide_false]
     exact ih
theorem EnK.isSome {xs:NEs K} {m:List (K × D)} (h:EnK a F G xs m) (k:K):(atKey xs k).isSome=(getM m k).isSome:=by
 have:=h.at k
 cases e:getM m k with
 | none=>rw [e] at this; simp only at this; rw [this]; rfl
 | some x=>rw [e] at this; obtain ⟨p,v,h1,_⟩:=this; rw [h1]; rfl
theorem EnK.snoc {k:K} {b:Addr} {u:Value} {v:V} {x:D} (h1:Den F G (.ref b) (a.toD k)) (h2:RelV v u) (h3:Den F G v x):∀ {xs:NEs K} {m:List (K × D)},EnK a F G xs m->EnK a F G (xs++[(k,b,u)]) (m++[(k,x)])
 | _,_,.nil=>.cons h1 h2 h3 .nil
 | _,_,.cons g1 g2 g3 r=>.cons g1 g2 g3 (r.snoc h1 h2 h3)
theorem EnK.over {k:K} {u:Value} {v:V} {x:D} (h2:RelV v u) (h3:Den F G v x):∀ {xs:NEs K} {m:List (K × D)},EnK a F G xs m->EnK a F G (xs.map (putAt k u)) (m.map λy=>if y.1=k then (y.1,x) else y)
 | _,_,.nil=>.nil
 | _,_,.cons (k:=k') g1 g2 g3 r=>by
   rw [List.map_cons,List.map_cons]
   unfold putAt
   by_cases e:k'=k
   · simp only [e,if_true]
     rw [e] at g1
     exact .cons g1 h2 h3 (r.over h2 h3)
   · simp only [e,if_false]
     exact .cons g1 g2 g3 (r.over h2 h3)
theorem EnK.put {k:K} {b:Addr} {u:Value} {v:V} {x:D} {xs:NEs K} {m:List (K × D)} (h:EnK a F G xs m) (h1:Den F G (.ref b) (a.toD k)) (h2:RelV v u) (h3:Den F G v x):EnK a F G (storedH xs k b u) (fu m k x):=by
 unfold storedH fu
 rw [h.isSome k]
 split
 · exact h.over h2 h3
 · exact h.snoc h1 h2 h3
noncomputable def exK (a:KD K) (hd:a.dep<=7) (P:Program) (w:World) (m:List (K × D)):Ex where
 p:=λF G o p=>∃ xs,o=dNk a hd P w p xs/\EnK a F G xs m
 mono:=λe ⟨xs,h1,h2⟩=>⟨xs,h1,h2.mono e⟩
 ext:=λ⟨xs,h1,_⟩=>.inl ⟨_,h1⟩
end
end Hy
namespace Hy
open PySem PySem.Spec PyProof.Rows L2
open Ev (D Den au KD NEs dNk gO ar il lO mM)
section
variable {K:Type} [DecidableEq K] {a:KD K} {hd:a.dep<=7} {X:Cx} {C:Bool} {τ:List Sl} {x:D} {b e ix:Expr} {pos p q:Pos} {k:Nat} {N:Po} {rest:List Stmt} {m:List (K × D)} {key:K}
theorem pg:PE X (.Dict [] [] pos) (dE X.K C τ (.x (exK a hd X.prog X.w []))):=peW lO λσ H Q ⟨A,H₀,B,S,k⟩=>λp hp=>k (.ref p) _ [p] (ar hp _) (λb hb=>by rw [List.mem_singleton.mp hb]; exact ⟨hp,_,aL⟩) ⟨p,_,rfl,rfl,aL,[],rfl,.nil⟩
theorem Sta.dct {F:PySem.W.Frag} {P:Program} {w:World} {A:Addr->Prop} {H₀ H:Hp} {B:Nat->List Addr} {σ:L2.St} {i:Nat} (S:Sta F A H₀ τ B σ H) (hi:τ[i]?=some (.x (exK a hd P w m))):∃ d xs,(σ[i]?).join=some (.ref d)/\B i=[d]/\H d=some (dNk a hd P w d xs)/\EnK a F (Hy.hd H (own A B)) xs m:=by
 obtain ⟨d,o,h1,h2,h3,xs,rfl,h5⟩:=S.sl i _ hi
 exact ⟨d,xs,h2,h1,h3,h5⟩
theorem yN (i:Nat) {n:Str} (hu:X.A.units + 16 < cLine) (hi:τ[i]?=some (.x (exK a hd X.prog X.w m))) (hk:PE X ix (dE X.K false τ (.d (a.toD key)))) (hx:getM m key=some x) (hr:∀ H v,Den X.K H v (a.toD key)->∃ b,v=.ref b) (hs:n9 ix) (hN:X.N[i]?=some n:=by rfl)
   (hv:Vis X.env.scope n:=by first | exact Or.inl rfl | exact Or.inr (Or.inl rfl) | exact Or.inr (Or.inr rfl)) (hd1:(n == ("__debug__" : Str))=false:=by decide) (hcd:(n == ("__classdict__" : Str))=false:=by decide):PE X (.Subscript (.Name n p) ix pos) (dE X.K C τ (.d x)):=
 peW (il (a:=a) (hd:=hd) hu (cD (i:=i) hN hv hd1 hcd) hk hs) λσ H Q q=>by
   obtain ⟨A,H₀,B,S,kk⟩:=dD q
   obtain ⟨d,xs,e1,e2,e3,e4⟩:=S.dct hi
   refine ⟨_,slot_of e1,aW S λy H2 e5 dy=>?_⟩
   obtain ⟨b,rfl⟩:=hr _ _ dy
   have S2:=S.mono e5
   obtain ⟨d',xs',g1,g2,g3,g4⟩:=S2.dct hi
   rw [e1] at g1
   cases g1
   have:=g4.at key
   rw [hx] at this
   obtain ⟨pp,v,h1,h2,h3⟩:=this
   exact ⟨d,b,key,xs',pp,v,rfl,rfl,⟨g3,λz hz=>(g4.key z hz).mono aI⟩,dy.mono aI,h1,h2,kk v H2 e5 (h3.mono (az (aq.refl _) λ_ z=>mK z))⟩
end
section
variable {K:PySem.W.Frag} {A:Addr->Prop} {H₀ H H':Hp} {τ:List Sl} {B:Nat->List Addr} {σ:L2.St}
theorem Sta.As (S:Sta K A H₀ τ B σ H) {i:Nat} {a:Addr} {E E':Ex} {o':HO} (hi:τ[i]?=some (.x E)) (hB:B i=[a]) (d:E'.p K (hd H (own A B)) o' a):Sta K A H₀ (τ.set i (.x E')) B σ (upd H a o'):=by
 have ha:own A B a:=.inr ⟨i,by rw [hB]; exact List.mem_singleton.mpr rfl⟩
 have ne:∀ b,b ≠ a->upd H a o' b=H b:=λb h=>aC h
 have sm:aq (hd H (own A B)) (hd (upd H a o') (own A B)):=λb o z=>by
   obtain ⟨z1,z2⟩:=aB.mp z
   exact aB.mpr ⟨z1,by rw [ne b (λe=>z1 (e ▸ ha))]; exact z2⟩
 have f0:H₀ a=none:=S.fr i a (by rw [hB]; exact List.mem_singleton.mpr rfl)
 have hs:aq H₀ (upd H a o'):=λb o z=>by rw [ne b (λe=>by rw [e,f0] at z; cases z)]; exact S.same b o z
 refine ⟨hs,by rw [List.length_set,S.len],λj t hj=>?_,S.fr,S.uq,S.ad,λj b hb=>?_⟩
 · by_cases ej:j=i
   · subst ej
     have hl:=(List.getElem?_eq_some_iff.mp hi).1
     rw [List.getElem?_set_self hl] at hj
     cases hj
     obtain ⟨a',o,e1,e2,_,_⟩:=S.sl j _ hi
     rw [hB] at e1
     cases e1
     exact ⟨a,o',hB,e2,aL,E'.mono sm d⟩
   · rw [List.getElem?_set_ne (λz=>ej z.symm)] at hj
     have off:∀ b ∈ B j,b ≠ a:=λb hb e=>ej (S.uq j i a (e ▸ hb) (by rw [hB]; exact List.mem_singleton.mpr rfl))
     have q:=S.sl j t hj
     cases t with
     | un=>exact q
     | d x=>obtain ⟨z,u,e,d⟩:=q; exact ⟨z,u,e,d.mono sm⟩
     | o zs=>
       obtain ⟨c,ws,z1,z2,z3,z4⟩:=q
       exact ⟨c,ws,z1,z2,by rw [ne c (off c (by rw [z1]; exact List.mem_singleton.mpr rfl))]; exact z3,z4.mono sm⟩
     | n t=>
       obtain ⟨z0,u,z1,z2⟩:=q
       exact ⟨z0,u,z1,z2.frame sm λb hb=>ne b (off b hb)⟩
     | x E=>
       obtain ⟨c,o,z1,z2,z3,z4⟩:=q
       exact ⟨c,o,z1,z2,by rw [ne c (off c (by rw [z1]; exact List.mem_singleton.mpr rfl))]; exact z3,E.mono sm z4⟩
 · by_cases e:b=a
   · subst e; exact ⟨_,aL⟩
   · rw [ne b e]; exact S.bd j b hb
end
section
variable {K:Type} [DecidableEq K] {a:KD K} {hd:a.dep<=7} {X:Cx} {C:Bool} {τ:List Sl} {x:D} {b e ix:Expr} {pos p q sp:Pos} {k:Nat} {N:Po} {rest:List Stmt} {m:List (K × D)} {key:K}
theorem pC (i:Nat) {n:Str} (hu:X.A.units + 16 < cLine) (hi:τ[i]?=some (.x (exK a hd X.prog X.w m))) (hk:PE X ix (dE X.K true τ (.d (a.toD key)))) (he:PE X e (dE X.K true τ (.d x))) (hl:m.length<=sizeLine) (hr:∀ H v,Den X.K H v (a.toD key)->∃ b,v=.ref b)
   (hn:PSs X rest (dS X.K (τ.set i (.x (exK a hd X.prog X.w (fu m key x)))) N)) (hN:X.N[i]?=some n:=by rfl)
   (hv:Vis X.env.scope n:=by first | exact Or.inl rfl | exact Or.inr (Or.inl rfl) | exact Or.inr (Or.inr rfl)) (hd1:(n == ("__debug__" : Str))=false:=by decide) (hcd:(n == ("__classdict__" : Str))=false:=by decide)
   (hs:swapsWith e (some (.Subscript (.Name n p) ix sp)) pos.line X.env=pure false:=by rfl):PSs X (.Assign [.Subscript (.Name n p) ix sp] e pos :: rest) (dS X.K τ N):=
 bh (M:=(·=τ.set i (.x (exK a hd X.prog X.w (fu m key x))))) (psW (mM (a:=a) (hd:=hd) hu (cD (i:=i) hN hv hd1 hcd) hk he hs) λD σ H ⟨A,H₀,B,S,Me⟩=>aW S λv H1 e1 d1=>by
   have S1:=S.mono e1
   obtain ⟨d,xs,g1,_⟩:=S1.dct hi
   refine ⟨_,slot_of g1,aW S1 λy H2 e2 dy=>?_⟩
   obtain ⟨b,rfl⟩:=hr _ _ dy
   have S2:=S1.mono e2
   obtain ⟨d',xs',h1,h2,h3,h4⟩:=S2.dct hi
   rw [g1] at h1
   cases h1
   have d1':=d1.mono (az e2 λ_ z=>z)
   exact ⟨d,b,key,xs',rfl,rfl,⟨h3,λz hz=>(h4.key z hz).mono aI⟩,dy.mono aI,by rw [h4.length]; exact hl,λu hu=>Me.nx _ _ _ _ rfl (S2.As hi h2 ⟨_,rfl,h4.put dy hu d1'⟩)⟩) λ_ e=>e ▸ hn
end
end Hy
namespace Hy
open PySem PySem.Spec PyProof.Rows L2
open Ev (D Den au Bx ar)
section
variable {K:PySem.W.Frag} {A:Addr->Prop} {H₀ H:Hp} {τ:List Sl} {B:Nat->List Addr} {σ:L2.St} {m:List (Int × Int)} {i:Nat}
end
section
variable {X:Cx} {C:Bool} {τ:List Sl} {x y:D} {a b e f o ix tg:Expr} {pos p q apos cpos sp:Pos} {k:Nat} {N:Po} {rest:List Stmt} {m:List (Int × Int)} {key v n:Int}
theorem l3 {n:Str}:n9 (.Name n p):=λ_ _=>rfl
theorem se {op:Operator}:n9 (.BinOp a op b p):=λ_ _=>rfl
end
end Hy
namespace Hy
open PySem PySem.Spec PyProof.Rows L2
open Ev (D Den au ar aZ aP)
section
variable {K:PySem.W.Frag} {G H:Hp}
theorem a6.length:∀ {vs:List V} {bs:List Addr} {xs:List Nd},a6 K G H vs bs xs->vs.length=xs.length
 | _,_,_,.nil=>rfl
 | _,_,_,.cons _ r=>congrArg (· + 1) r.length
end
noncomputable def zh:Sl->Option Nd
 | .un=>none
 | .d x=>some (.d x)
 | .o xs=>some (.l (xs.map .d))
 | .n t=>some t
 | .x _=>none
section
variable {K:PySem.W.Frag} {G H:Hp}
theorem sQ:∀ {vs:List V} {xs:List D},au K G vs xs->a6 K G H vs [] (xs.map .d)
 | _,_,.nil=>.nil
 | _,_,.cons h r=>.cons (b1:=[]) (b2:=[]) (.d h) (sQ r)
theorem cW.nd {v:V} {bs:List Addr} {s:Sl} {c:Nd} (h:cW K G H (some v) bs s) (e:zh s=some c):de K G H v bs c/\bs.Nodup:=by
 cases s with
 | un=>cases e
 | d x=>cases e; obtain ⟨rfl,u,eu,d⟩:=h; cases eu; exact ⟨.d d,List.nodup_nil⟩
 | o xs=>cases e; obtain ⟨a,vs,rfl,e2,h3,h4⟩:=h; cases e2; exact ⟨.l h3 (sQ h4),by simp⟩
 | n t=>cases e; obtain ⟨h0,u,eu,h2⟩:=h; cases eu; exact ⟨h2,h0⟩
 | x E=>cases e
end
section
variable {X:Cx} {C:Bool} {τ:List Sl} {x y z:D} {a b e o ix:Expr} {es:List Expr} {pos p q:Pos} {k:Nat} {s:Sl} {N:Po} {rest:List Stmt} {i:Nat} {t c:Nd} {pt:List Nat} {xs:List Nd} {j:Int} {m:Nat}
end
end Hy
namespace Ev
open PySem PySem.Spec PyProof.Rows L2
mutual
noncomputable def cln:D->Bool
 | .str x=>PyData.strOk x
 | .tup xs=>x4 xs
 | .lst xs=>x4 xs
 | .box _=>false
 | .non | .bl _ | .int _=>true
noncomputable def x4:List D->Bool
 | []=>true
 | x :: xs=>cln x && x4 xs
end
mutual
noncomputable def dep:D->Nat
 | .tup xs=>yL xs + 1
 | .lst xs=>yL xs + 1
 | .non | .bl _ | .int _ | .str _ | .box _=>0
noncomputable def yL:List D->Nat
 | []=>0
 | x :: xs=>max (dep x) (yL xs)
end
noncomputable def zF (x:D):Prop:=cln x=true/\dep x<=64
noncomputable instance (x:D):Decidable (zF x):=inferInstanceAs (Decidable (_/\_))
section
variable {X:Cx} {pins:List (Addr × Obj)} {σ:L2.St} {H G:Hp} {s:Shared}
end
end Ev
namespace Hy
open PySem PySem.Spec PyProof.Rows L2
open Ev (D Den au ar aZ aP Itz xv pK zF)
section
variable {X:Cx} {C:Bool} {τ:List Sl} {x y z:D} {a b e c tg it elt:Expr} {es ifs:List Expr} {pos p q:Pos} {k:Nat} {s:Sl} {N:Po} {rest body:List Stmt} {ds xs ys:List D} {i j:Int} {scope:Scope}
theorem mr (M:Nat->Bool->List Sl->Prop) (B:Bk X k) (h0:∃ n t,M n t τ) (hc:∀ n t τ',M n t τ'->PT X c (dT X.K τ' t)) (hb:∀ n τ',M n true τ'->PSs X body (dS X.K τ' { N with nx:=λτ2=>∃ m t,m < n/\M m t τ2,ct:=λτ2=>∃ m t,m < n/\M m t τ2,bk:=λ_=>False }))
   (hr:∀ n τ',M n false τ'->PSs X rest (dS X.K τ' N)):PSs X (.While c body [] pos :: rest) (dS X.K τ N):=by
 have hc':PT X c λσ H Q=>∃ n t τ',M n t τ'/\dT X.K τ' t σ H Q:=λpins s σ H Q I ⟨n,t,τ',m,q⟩=>hc n t τ' m pins s σ H Q I q
 have hb':PSs X body λD σ H=>∃ n τ',M n true τ'/\dS X.K τ' { N with nx:=λτ2=>∃ m t,m < n/\M m t τ2,ct:=λτ2=>∃ m t,m < n/\M m t τ2,bk:=λ_=>False } D σ H:=λpins s σ H D I ⟨n,τ',m,q⟩=>hb n τ' m pins s σ H D I q
 refine bh (M:=λτ'=>∃ n,M n false τ') (psW (sf B.po hc' hb') λD σ H ⟨A,H₀,B,S,Me⟩=>⟨λm σ' H'=>∃ t τ' B',M m t τ'/\Sta X.K A H₀ τ' B' σ' H',?_,?_⟩) λτ' h=>let ⟨n,h⟩:=h; hr n τ' h
 · obtain ⟨n,t,h0⟩:=h0
   exact ⟨n,t,τ,B,h0,S⟩
 rintro m σ' H' ⟨t,τ',B',hM,S'⟩
 refine ⟨m,t,τ',hM,A,H₀,B',S',λH1 e1=>?_⟩
 cases t with
 | false=>exact qY (Me.nx τ' B' σ' H1 ⟨m,hM⟩ (S'.mono e1))
 | true=>
   refine rE ⟨λσ2 H2=>∃ τ2 B2,(∃ n t,n < m/\M n t τ2)/\Sta X.K A H₀ τ2 B2 σ2 H2,λσ2 H2 ⟨τ2,B2,⟨n,t,l,q⟩,S2⟩=>⟨n,l,t,τ2,B2,q,S2⟩,m,τ',hM,A,H₀,B',S'.mono e1,?_⟩
   exact ⟨λτ2 B2 σ2 H2 m S2=>⟨τ2,B2,m,S2⟩,λ_ _ _ _ z=>z.elim,λτ2 B2 σ2 H2 m S2=>⟨τ2,B2,m,S2⟩,Me.rt,Me.xc⟩
noncomputable def ie (xs ys:List D):List D:=(xs.zip ys).map λp=>.tup [p.1,p.2]
theorem cL:(ie xs ys).length=min xs.length ys.length:=by simp [ie]
theorem vR (i:Nat) (h:i < (ie xs ys).length):(ie xs ys)[i]=.tup [xs.getD i .non,ys.getD i .non]:=by
 rw [cL] at h
 simp [ie,show i < xs.length by omega,show i < ys.length by omega]
theorem xl {K:PySem.W.Frag} {G:Hp} {a b:Addr} {vs ws:List V} (h:SqL K G a vs) (r:au K G vs xs) (h':SqL K G b ws) (r':au K G ws ys):Yl K (Itz K a b) (ie xs ys) G:=by
 intro H sg
 have hl:=r.length
 have hl':=r'.length
 refine ⟨λi hi=>⟨vs,ws,aP sg h,aP sg h',by rw [cL] at hi; omega⟩,λi hi=>?_⟩
 have hi':=hi
 rw [cL] at hi'
 obtain ⟨v,hv,dv⟩:=r.get (List.getElem?_eq_getElem (show i < xs.length by omega))
 obtain ⟨w,hw,dw⟩:=r'.get (List.getElem?_eq_getElem (show i < ys.length by omega))
 refine ⟨⟨vs,ws,v,w,aP sg h,aP sg h',hv,hw⟩,λy H' ⟨p,x1,x2,hp,e0,e1,e2,e3⟩=>?_⟩
 subst e0 e1
 have ex:x1=v:=by have:=e2 vs (aP sg h); rw [hv] at this; exact (Option.some.inj this).symm
 have ey:x2=w:=by have:=e3 ws (aP sg h'); rw [hw] at this; exact (Option.some.inj this).symm
 subst ex ey
 refine ⟨ar hp _,λM hM sv=>?_⟩
 rw [vR,show xs.getD i .non=xs[i] by simp [show i < xs.length by omega],show ys.getD i .non=ys[i] by simp [show i < ys.length by omega]]
 have up:=sv.trans (az (ar hp (.tup [x1,x2])) λ_ z=>z)
 exact .tup (SqT.of (iP hM hp)) (.cons (dv.mono up) (.cons (dw.mono up) .nil))
theorem qt {ts:List Expr} {m:Nat} {tp:Pos} (B:Bk X k) (h:PE X a (dE X.K true τ (.d (.lst xs)))) (h':PE X b (dE X.K true τ (.d (.lst ys)))) (hg:Gl X "zip":=by rfl) (hs:starEach [a,b] X.env=(false,eval a X.env) :: starEach [b] X.env:=by rfl) (hs2:starEach [b] X.env=[(false,eval b X.env)]:=by rfl) :
   PI X (.Tuple ts m tp) (.Call (.Name "zip" p) [a,b] [] pos) (dI X.K τ (ie xs ys)):=
 piW (pK B.calm hg (B.blt _ (by decide)) (ae h (ae h' ah hs2) hs) hs hs2) λσ H R ⟨A,H₀,B,S,k⟩=>fq S λvs H1 e1 d1=>by
   cases d1 with
   | cons d r=>
     cases r with
     | cons d' r=>
       cases r
       cases d with
       | lst h r=>cases d' with
         | lst h' r'=>exact ⟨_,_,rfl,⟨_,aP aI h⟩,⟨_,aP aI h'⟩,k _ H1 e1 (xl h r h' r')⟩
variable {u v:Str}
theorem zX:cQ X (compareOp .NotEq) (.str u) (.str v) (.bl (!decide (u=v))):=⟨_,wH,λ_ v' w H Q _ d1 d2 k=>by
 cases d1
 cases d2
 exact ⟨rfl,by rw [show decide (V.str u=V.str v)=decide (u=v) by simp]; exact k _ H (aq.refl _) .bl⟩⟩
theorem iY:∀ {bs:List Bool} {us:List Value},Vals (bs.map V.bl) us->us=bs.map Value.bool
 | [],_,h=>by cases h; rfl
 | b :: bs,_,h=>by
   cases h with
   | cons rv rs=>rw [iY rs,show _=Value.bool b from rv]; rfl
theorem ue (hc:X.calm=true):cY X (.builtin "all") (λxs H Q=>∃ (p:Addr) (bs:List Bool),xs=[.ref p]/\SqL X.K H p (bs.map V.bl)/\Q (.bl (bs.all id)) H):=by
 intro pins s σ H xs us Q I r q
 obtain ⟨p,bs,rfl,h,q⟩:=q
 obtain ⟨u,rfl,ru⟩:∃ u,us=[u]/\RelV (.ref p) u:=by
   cases r with
   | cons r1 r=>cases r; exact ⟨_,rfl,r1⟩
 cases (show u=Value.ref _ from ru)
 obtain ⟨its,rv,pl,hz⟩:=I.list h
 obtain rfl:=iY rv
 have lt:∀ a,s.heap.IsList a (bs.map Value.bool).toArray->a ≠ s.heap.objs.size:=λa ⟨o,z,_⟩=>Nat.ne_of_lt (Heap.lt_size z)
 refine call_all_walk (wpAny_pyIter_list pl.isList ⟨_,_,_,_,_,_,λi=>(bs.map Value.bool)[i]? == some (Value.bool true),rfl,Walks.list (A:=X.A.in1) (I.ok.hd hc) _ _ (lt _ pl.isList) (bs.map Value.bool).toArray,⟨⟨_,Heap.get?_push_size _ rfl,rfl,rfl⟩,?_⟩,λi v s' Q' E' hP hQ=>?_,λh' tk hk=>?_⟩)
 · obtain ⟨o,z1,z2⟩:=pl.isList
   exact ⟨o,Heap.get?_push_of_some _ z1,z2⟩
 · have hP':(bs.map Value.bool)[i]?=some v:=by simpa using hP
   obtain ⟨c,_,rfl⟩:=List.mem_map.mp (List.mem_of_getElem? hP')
   refine wpAny_truthy_bool ?_
   have hQ:Q' ((bs.map Value.bool)[i]? == some (Value.bool true)) s':=hQ
   rw [hP'] at hQ
   cases c
   · exact hQ
   · exact hQ
 · refine ⟨.bl (bs.all id),H,I.kept (t':=tk) λb' o z=>?_,?_,q⟩
   · refine hk b' o (λhm=>?_) (Heap.get?_push_of_some _ z)
     have:b'=s.heap.objs.size:=by simpa using hm
     exact absurd (Heap.lt_size z) (by rw [this]; exact Nat.lt_irrefl _)
   · have e:∀ bs:List Bool,bs.all id=(List.range (bs.map Value.bool).toArray.size).all λi=>(bs.map Value.bool)[i]? == some (Value.bool true):=λbs=>by
       rw [List.size_toArray,List.length_map]
       induction bs with
       | nil=>rfl
       | cons b bs ih=>
         rw [List.all_cons,ih,List.length_cons,List.range_succ_eq_map,List.all_cons,List.all_map]
         congr 1
         cases b <;> rfl
     rw [e]; rfl
theorem qa {K:PySem.W.Frag} {H:Hp}:∀ {vs:List V} {bs:List Bool},au K H vs (bs.map .bl)->vs=bs.map V.bl
 | _,[],h=>by cases h; rfl
 | _,_ :: _,h=>by
   cases h with
   | cons d r=>cases d; rw [qa r]; rfl
theorem jY (hc:X.calm=true) (bs:List Bool) (hx:xs=bs.map .bl):gp X (.builtin "all") [.lst xs] (.d (.bl (bs.all id))):=⟨_,ue hc,λM vs H Q _ d q=>by
 subst hx
 cases d with
 | cons d r=>
   cases r
   cases d with
   | lst h r=>
     cases qa r
     exact ⟨_,_,rfl,aP aI h,q _ H [] (aq.refl _) cC (gg .bl)⟩⟩
end
end Hy
namespace Hy
open PySem PySem.Spec PyProof.Rows L2
open Ev (D Den au aG aE ar aZ aP)
section
variable {X:Cx} {i:Int}
theorem wG {ns:List Int}:cQ X (compareOp .In) (.int i) (.tup (ns.map .int)) (.bl (ns.any λw=>decide (w=i))):=⟨_,qX,λM x' y' H Q _ d1 d2 q=>by
 cases d1
 cases d2 with
 | @tup ad vs _ h r=>
   cases gZ r
   refine ⟨_,_,rfl,.inr (aZ aI h),rfl,?_,?_⟩
   · rw [List.all_map,List.all_eq_true]; intro _ _; rfl
   · have e:(ns.any λw=>decide (w=i))=inV (.int i) (ns.map V.int):=by unfold inV; rw [List.any_map]; congr 1
     rw [if_neg Bool.false_ne_true]
     rw [e] at q
     exact q _ H (aq.refl _) .bl⟩
theorem yJ {ns:List Int}:cQ X (compareOp .NotIn) (.int i) (.tup (ns.map .int)) (.bl (!ns.any λw=>decide (w=i))):=⟨_,lY,λM x' y' H Q _ d1 d2 q=>by
 cases d1
 cases d2 with
 | @tup ad vs _ h r=>
   cases gZ r
   refine ⟨_,_,rfl,.inr (aZ aI h),rfl,?_,?_⟩
   · rw [List.all_map,List.all_eq_true]; intro _ _; rfl
   · have e:(ns.any λw=>decide (w=i))=inV (.int i) (ns.map V.int):=by unfold inV; rw [List.any_map]; congr 1
     rw [if_pos rfl]
     rw [e] at q
     exact q _ H (aq.refl _) .bl⟩
end
end Hy
namespace Hy
open PySem PySem.Spec PyProof.Rows L2
open Ev (D Den au ar aZ aP aK hZ fo PTs dz fK)
section
variable {X:Cx} {C:Bool} {τ:List Sl} {x y z:D} {a b e c tg it elt o:Expr} {es ifs:List Expr} {pos p q:Pos} {k:Nat} {s:Sl} {N:Po} {rest body:List Stmt} {ds xs ys:List D} {i j:Int} {scope:Scope}
theorem wg:OpR X (binaryOp .Mult) (λx y H Q=>∃ l k xs,x=.ref l/\y=.int k/\SqL X.K H l xs/\0<=k/\k < 100000/\xs.length * k.toNat<=sizeLine/\∀ p,H p=none->Q (.ref p) (upd H p (.lst (List.replicate k.toNat xs).flatten))):=by
 intro pins s σ H x y v u Q I rx ry h
 obtain ⟨l,k,xs,rfl,rfl,hH,h1,h2,hz,q⟩:=h
 cases rx
 obtain ⟨t,rfl⟩:=ry
 obtain ⟨its,r,pl,_⟩:=I.list hH
 have hl:=r.length
 obtain ⟨⟨cls,dd,data,sl⟩,e,hc,n,hd⟩:=pl.isList
 simp only at hc hd
 subst hc hd
 have hlen:its.toArray.size * k.toNat<=sizeLine:=by rw [List.size_toArray,<- hl]; exact hz
 have hcap:¬ its.toArray.size * k.toNat > (2 ^ 63 - 1) / 8:=by
   have:(sizeLine:Nat)<=(2 ^ 63 - 1) / 8:=by decide
   omega
 have hfit:¬ (!Builtin.List.listFitsIndex k)=true:=by
   rw [fitsIndex_both (by omega) (by omega)]
   exact Bool.false_ne_true
 have hlong:¬ Builtin.List.listTooLong (its.toArray.size * k.toNat)=true:=by
   rw [nQ hlen]
   exact Bool.false_ne_true
 have hnew:List.foldl (λx1 x2=>x1++x2) #[] (List.replicate (if its.toArray.isEmpty=true then 0 else k.toNat) its.toArray)=(List.replicate k.toNat its).flatten.toArray:=by
   have f0:∀ m:Nat,List.foldl (λx1 x2=>x1++x2) #[] (List.replicate m its.toArray)=(List.replicate m its).flatten.toArray:=λm=>by
     have:=foldl_rep its m []
     rw [List.nil_append] at this
     exact this
   rw [f0]
   cases its with
   | nil=>simp
   | cons a r'=>rw [if_neg (by simp)]
 refine wpAny_binaryOp_repeat_ref (T:="list") (U:="int") (by decide) ⟨_,e,rfl⟩ (λs'=>typeIs_int s' k t) noFill_list_mul F.fills_int_mul F.slot_int_rmul repeat_list F.slot_int_index.lookup
   (call_meets F.slot_int_rmul (typeIs_int s k t) F.entry_int_rmul (F.args_int_rmul_2 _ _) (lm_int_rmul_list_any k t l its.toArray n dd sl)
     ⟨e,rfl,⟨_,e,rfl⟩,call_meets F.slot_list_mul ⟨_,e,rfl⟩ F.entry_list_mul (F.args_list_mul_2 _ _) (lm_list_mul_any l its.toArray n dd sl k t hfit hcap hlong) ⟨e,?_⟩⟩)
 rw [hnew]
 exact ⟨.ref _,_,I.zu (t':=s.toks) (r.rep k.toNat) (by rw [len_rep,Nat.mul_comm]; exact hz),rfl,q _ I.fresh⟩
theorem qi {K:PySem.W.Frag} {H:Hp} {vs:List V} (h:au K H vs xs):∀ k:Nat,au K H (List.replicate k vs).flatten (List.replicate k xs).flatten
 | 0=>.nil
 | k + 1=>by rw [List.replicate_succ,List.replicate_succ,List.flatten_cons,List.flatten_cons]; exact h.append (qi h k)
theorem Aj (ha:PE X a (dE X.K C τ (.d (.lst xs)))) (hb:PE X b (dE X.K C τ (.d (.int j)))) (h0:0<=j) (h1:j < 100000) (hl:xs.length * j.toNat < 1000000):PE X (.BinOp a .Mult b pos) (dE X.K C τ (.o (List.replicate j.toNat xs).flatten)):=peW (ua wg ha hb) λσ H Q ⟨A,H₀,B,S,k⟩=>
 aW S λv H1 e1 d1=>aW (S.mono e1) λw H2 e2 d2=>by
   cases d2
   cases d1 with
   | lst h1' r1=>
     refine ⟨_,j,_,rfl,rfl,aP (aI.trans e2) h1',h0,h1,by rw [r1.length]; exact Nat.le_of_lt (Nat.lt_trans hl (by decide)),λp hp=>?_⟩
     obtain ⟨z1,z2,z3⟩:=jz (K:=X.K) hp (qi (r1.mono (az e2 λ_ z=>z)) j.toNat)
     exact k _ _ [p] (e1.trans (e2.trans z1)) (λb hb=>⟨(e1.trans e2).free (z2 b hb).1,(z2 b hb).2⟩) z3
noncomputable def dN' (K:PySem.W.Frag) (C:Bool) (τ:List Sl) (ns:List Nd):TA:=λσ H Q=>∃ A H₀ B,Sta K A H₀ τ B σ H/\∀ vs H' bs,aq H H'->Fr H H' bs->bs.Nodup->a6 K (hd H' λb=>vw C A B b\/b ∈ bs) H' vs bs ns->Q vs H'
theorem Aw:PA X [] (dN' X.K C τ []):=paW dQ λσ H Q ⟨A,H₀,B,S,k⟩=>k [] H [] (aq.refl _) cC List.nodup_nil .nil
theorem Sta.hide {K:PySem.W.Frag} {A:Addr->Prop} {H₀ H H1:Hp} {B:Nat->List Addr} {σ:L2.St} {b1:List Addr} (S:Sta K A H₀ τ B σ H) (e:aq H H1) (f:Fr H H1 b1):Sta K (λb=>A b\/b ∈ b1) (hd H1 λb=>∃ i,b ∈ B i) τ B σ H1 where
 same:=aI
 len:=S.len
 sl:=λi s h=>(S.sl i s h).mono (λb o z=>by
   obtain ⟨z1,z2⟩:=aB.mp z
   refine aB.mpr ⟨λw=>?_,e _ _ z2⟩
   rcases w with (w | w) | w
   · exact z1 (.inl w)
   · rw [(f b w).1] at z2; cases z2
   · exact z1 (.inr w)) e
 fr:=λi b hb=>by
   cases q:hd H1 (λb=>∃ i,b ∈ B i) b with
   | none=>rfl
   | some o=>exact absurd ⟨i,hb⟩ (aB.mp q).1
 uq:=S.uq
 ad:=λb hb=>by
   rcases hb with z | z
   · obtain ⟨o,q⟩:=S.ad b z
     exact ⟨o,aB.mpr ⟨λ⟨i,w⟩=>(by rw [S.fr i b w] at q; cases q),e _ _ (S.same _ _ q)⟩⟩
   · obtain ⟨w1,o,w2⟩:=f b z
     exact ⟨o,aB.mpr ⟨λ⟨i,w⟩=>(by obtain ⟨o',q⟩:=S.bd i b w; rw [w1] at q; cases q),w2⟩⟩
 bd:=λi b hb=>let ⟨o,q⟩:=S.bd i b hb; ⟨o,e _ _ q⟩
theorem mF {A:Addr->Prop} {B:Nat->List Addr} {b1:List Addr} {b:Addr} (h:vw C A B b\/b ∈ b1):vw C (λb=>A b\/b ∈ b1) B b:=by
 cases C with
 | true=>
   rcases h with (h | h) | h
   · exact .inl (.inl h)
   · exact .inr h
   · exact .inl (.inr h)
 | false=>exact h
theorem tD {n:Nd} {ns:List Nd} (ha:PE X e (dE X.K C τ s)) (hn:zh s=some n) (hr:PA X es (dN' X.K C τ ns)) (hs:starEach (e :: es) X.env=(false,eval e X.env) :: starEach es X.env:=by rfl):PA X (e :: es) (dN' X.K C τ (n :: ns)):=paW (bA ha hr hs) λσ H Q ⟨A,H₀,B,S,k⟩=>
 ⟨A,H₀,B,S,λv H1 b1 e1 f1 h1=>⟨_,_,B,S.hide e1 f1,λvs H2 b2 e2 f2 n2 h2=>by
   obtain ⟨q1,n1⟩:=h1.nd hn
   refine k _ H2 (b1++b2) (e1.trans e2) (λb hb=>?_) (List.nodup_append.mpr ⟨n1,n2,λx hx y hy z=>?_⟩) (.cons (q1.frame ?_ λb hb=>?_) (h2.frame ?_ λ_ _=>rfl))
   · rcases List.mem_append.mp hb with z | z
     · obtain ⟨w1,o,w2⟩:=f1 b z; exact ⟨w1,o,e2 _ _ w2⟩
     · exact ⟨e1.free (f2 b z).1,(f2 b z).2⟩
   · obtain ⟨_,o,w⟩:=f1 x hx; rw [z,(f2 y hy).1] at w; cases w
   · intro b o z
     obtain ⟨z1,z2⟩:=aB.mp z
     refine aB.mpr ⟨λw=>?_,e2 _ _ z2⟩
     rcases w with w | w
     · exact z1 (.inl w)
     · rcases List.mem_append.mp w with w | w
       · exact z1 (.inr w)
       · rw [(f2 b w).1] at z2; cases z2
   · obtain ⟨_,o,w⟩:=f1 b hb
     rw [w,e2 _ _ w]
   · refine az (aq.refl _) λb w=>?_
     rcases w with w | w
     · exact .inl (mF (.inl w))
     · rcases List.mem_append.mp w with w | w
       · exact .inl (mF (.inr w))
       · exact .inr w⟩⟩
theorem yj {K:PySem.W.Frag} {H:Hp} {M:Addr->Prop} {p:Addr} {o:HO} {vs:List V} {bs:List Addr} {ns:List Nd} (hp:H p=none) (d:a6 K (hd H λb=>M b\/b ∈ bs) H vs bs ns) (nd:bs.Nodup) :
   a6 K (hd (upd H p o) λb=>M b\/b ∈ p :: bs) (upd H p o) vs bs ns/\(p :: bs).Nodup:=by
 have off:∀ b ∈ bs,b ≠ p:=λb hb z=>by obtain ⟨w,q⟩:=d.some_of b hb; rw [z,hp] at q; cases q
 refine ⟨d.frame (λb w z=>?_) λb hb=>aC (off b hb),List.nodup_cons.mpr ⟨λz=>off p z rfl,nd⟩⟩
 obtain ⟨z1,z2⟩:=aB.mp z
 have ne:b ≠ p:=λy=>by rw [y,hp] at z2; cases z2
 refine aB.mpr ⟨λy=>?_,by rw [aC ne]; exact z2⟩
 rcases y with y | y
 · exact z1 (.inl y)
 · rcases List.mem_cons.mp y with y | y
   · exact ne y
   · exact z1 (.inr y)
theorem xm {ns:List Nd} {m} (h:PA X es (dN' X.K C τ ns)) (hl:Nat.ble ns.length 1000=true:=by rfl):PE X (.Tuple es m pos) (dE X.K C τ (.n (.t ns))):=peW (uz h) λσ H Q ⟨A,H₀,B,S,k⟩=>
 ⟨A,H₀,B,S,λvs H1 bs e1 f1 n1 h1=>⟨by rw [h1.length]; exact Nat.le_of_lt (iy (Nat.le_of_ble_eq_true hl)),λp hp=>by
   obtain ⟨z1,z2⟩:=yj (o:=.tup vs) hp h1 n1
   exact k _ _ (p :: bs) (e1.trans (ar hp _)) (λb hb=>by
     rcases List.mem_cons.mp hb with w | w
     · subst w; exact ⟨e1.free hp,_,aL⟩
     · obtain ⟨w1,o,w2⟩:=f1 b w; exact ⟨w1,o,ar hp _ _ _ w2⟩) ⟨z2,_,rfl,.t aL z1⟩⟩⟩
end
section
variable {X:Cx} {C:Bool} {τ τ':List Sl} {x y z:D} {a b e c tg it elt o ix:Expr} {es ifs:List Expr} {pos p q:Pos} {k:Nat} {s:Sl} {N:Po} {rest body:List Stmt} {ds xs ys:List D} {i:Nat} {j:Int} {scope:Scope}
noncomputable def dGs (K:PySem.W.Frag) (τ:List Sl) (xs:List D) (τ':List Sl):TGs:=λvs σ H Q=>∃ A H₀ B,Sta K A H₀ τ B σ H/\au K (hd H (own A B)) vs xs/\∀ σ' B',Sta K A H₀ τ' B' σ' H->Q σ' H
theorem zo {es:List Expr} {t t':TGs} (h:PGs X es t) (f:∀ v σ H Q,t' v σ H Q->t v σ H Q):PGs X es t':=λpins s σ H v u Q I r q=>h pins s σ H v u Q I r (f v σ H Q q)
theorem zc:PGs X [] (dGs X.K τ [] τ):=zo qu λv σ H Q ⟨A,H₀,B,S,d,k⟩=>by
 cases d
 exact ⟨rfl,k σ B S⟩
theorem p9 (i:Nat) {n:Str} (hN:X.N.Nodup) (h:PGs X es (dGs X.K (τ.set i (.d x)) xs τ')) (hi:X.N[i]?=some n:=by rfl) (hx:Loc X.env.scope n:=by first | exact .inl rfl | exact .inr rfl) (hf:X.fn n=true\/X.env.scope.names.lookup n=some .local:=by first | exact .inl rfl | exact .inr rfl | assumption):PGs X (.Name n p :: es) (dGs X.K τ (x :: xs) τ'):=
 zo (jq (gM (i:=i) hN hi hx hf) h) λv σ H Q ⟨A,H₀,B,S,d,k⟩=>by
   cases d with
   | cons d r=>
     have sub:∀ b,own A (upB B i []) b->own A B b:=λb z=>z.elim .inl λ⟨j,z⟩=>(bM z).elim (λz=>nomatch z.2) λz=>.inr ⟨j,z.2⟩
     exact ⟨_,_,rfl,A,H₀,_,S.set (aq.refl _) (bs:=[]) (λ_ z=>nomatch z) (gg d),r.mono (az (aq.refl _) sub),k⟩
theorem zG {m:Nat} (hc:X.calm=true) (h:PGs X es (dGs X.K τ xs τ')) (hl:(assignEach es X.env).length=xs.length:=by rfl) (hst:(assignEach es X.env).findIdx? (·.1)=none:=by rfl):PG X (.Tuple es m pos) (dG X.K τ (.tup xs) τ'):=
 pgW (uK (n:=xs.length) hc h hl hst) λv σ H Q ⟨A,H₀,B,S,d,k⟩=>by
   cases d with
   | tup h r=>exact ⟨_,_,rfl,aZ aI h,r.length,A,H₀,B,S,r,k⟩
theorem yM {m:Nat} (he:PE X e (dE X.K true τ (.d x))) (hg:PG X (.Tuple es m p) (dG X.K τ x τ')) (hr:PSs X rest (dS X.K τ' N)) (hs:swapsWithSole [.Tuple es m p] e pos.line X.env=pure false:=by rfl) (hw:swappedStores [.Tuple es m p] e X.env=pure none:=by rfl)
   (h1:(assignEach [.Tuple es m p] X.env).map (·.2)=[assign (.Tuple es m p) X.env]:=by rfl):PSs X (.Assign [.Tuple es m p] e pos :: rest) (dS X.K τ N):=
 bh (M:=(·=τ')) (psW (sa he hg hs hw h1) λD σ H ⟨A,H₀,B,S,Me⟩=>aW S λv H1 e1 d1=>⟨A,H₀,B,S.mono e1,d1,λσ' B' S'=>Me.nx _ _ _ _ rfl S'⟩) λ_ e=>e ▸ hr
theorem AW (T:Nat->List Sl) {f:Nat->D} (B:Bk X k) (hi:PI X tg it (dI X.K τ xs)) (hl:xs.length < 1000000) (hT:∀ i,(T i).length=(bU τ (bCp X.N scope)++[Sl.un]).length/\∀ (l:Nat) (x:D),(bU τ (bCp X.N scope)++[Sl.un])[l]?=some (.d x)->(T i)[l]?=some (.d x))
   (hg:∀ i (h:i < xs.length) s H fp,PG (cpX X s H scope fp) tg (dG X.K (bU τ (bCp X.N scope)++[.un]) xs[i] (T i)))
   (he:∀ i,i < xs.length->∀ s H fp,PE (cpX X s H scope fp) elt (dE X.K true (T i) (.d (f i)))) (hc:bOk X.env.scope scope=true:=by kernel_rfl) (hs:∀ x,foldedSetIterable it X.env x=pure x:=by intro _; rfl) :
   Cmp X elt tg it [] scope τ ((List.range xs.length).map f):=by
 have h:=l9 (T:=T) (t:=λ_=>true) (f:=f) (elt:=elt) (ifs:=[]) hc hi hT hg (λi h s H fp=>λpins s' σ H' Q I ⟨A,H₀,B,S,q⟩=>qz pins s' σ H' Q I (q H' (aq.refl _))) (λi h _ s H fp=>he i h s H fp) hl hs
 rwa [List.filter_eq_self.mpr λ_ _=>rfl] at h
theorem qO {c:Expr} {t:TT} (h:PT X c t):PTs X [c] t:=λpins s σ H Q I q=>wpAny_tests_one (h pins s σ H Q I q)
theorem wy (j:Nat) {n:Str} {g f:Nat->D} {t:Nat->Bool} (B:Bk X k) (hi:PI X (.Name n p) it (dI X.K τ xs)) (hx:∀ i (h:i < xs.length),xs[i]=g i) (hl:xs.length < 1000000)
   (ht:∀ i,i < xs.length->∀ s H fp,PT (cpX X s H scope fp) c (dT X.K ((bU τ (bCp X.N scope)++[Sl.un]).set j (.d (g i))) (t i)))
   (he:∀ i,i < xs.length->t i=true->∀ s H fp,PE (cpX X s H scope fp) elt (dE X.K true ((bU τ (bCp X.N scope)++[Sl.un]).set j (.d (g i))) (.d (f i))))
   (hc:bOk X.env.scope scope=true:=by kernel_rfl) (hu:(bU τ (bCp X.N scope)++[Sl.un])[j]?=some .un:=by rfl) (hN:(bNm scope++[("#" : Str)])[j]?=some n:=by rfl) (hv:∀ s H fp,Loc (cpX X s H scope fp).env.scope n:=by intro _ _ _; first | exact .inl rfl | exact .inr rfl)
   (hf:∀ s H fp,(cpX X s H scope fp).fn n=true\/(cpX X s H scope fp).env.scope.names.lookup n=some .local:=by intro _ _ _; first | exact .inr rfl | exact .inl rfl) (hs:∀ x,foldedSetIterable it X.env x=pure x:=by intro _; rfl) :
   Cmp X elt (.Name n p) it [c] scope τ (((List.range xs.length).filter t).map f):=by
 refine l9 (T:=λi=>(bU τ (bCp X.N scope)++[Sl.un]).set j (.d (g i))) (t:=t) (f:=f) (elt:=elt) (ifs:=[c]) hc hi (λi=>⟨List.length_set,λl x h=>?_⟩) (λi h s H fp=>?_) (λi h s H fp=>qO (ht i h s H fp)) he hl hs
 · rw [List.getElem?_set_ne (λz=>by rw [<- z,hu] at h; cases h)]
   exact h
 · rw [hx i h]
   exact uW j (hJ hc).2 hN (hv s H fp) (hf s H fp)
end
section
variable {X:Cx} {C:Bool} {τ τ':List Sl} {x y z:D} {a b e c tg it elt o ix:Expr} {es ifs:List Expr} {pos p q:Pos} {k:Nat} {s:Sl} {N:Po} {rest body:List Stmt} {ds xs ys:List D} {i:Nat} {scope:Scope}
theorem tY (j l:Nat) {n m:Str} {p2 pt:Pos} {md:Nat} {g g' f:Nat->D} (B:Bk X k) (hi:PI X (.Tuple [.Name n p,.Name m p2] md pt) it (dI X.K τ xs)) (hx:∀ i (h:i < xs.length),xs[i]=.tup [g i,g' i]) (hl:xs.length < 1000000)
   (he:∀ i,i < xs.length->∀ s H fp,PE (cpX X s H scope fp) elt (dE X.K true (((bU τ (bCp X.N scope)++[Sl.un]).set j (.d (g i))).set l (.d (g' i))) (.d (f i))))
   (hc:bOk X.env.scope scope=true:=by kernel_rfl) (hu:(bU τ (bCp X.N scope)++[Sl.un])[j]?=some .un:=by rfl) (hu':(bU τ (bCp X.N scope)++[Sl.un])[l]?=some .un:=by rfl) (hN:(bNm scope++[("#" : Str)])[j]?=some n:=by rfl) (hN':(bNm scope++[("#" : Str)])[l]?=some m:=by rfl) (hv:∀ s H fp,Loc (cpX X s H scope fp).env.scope n:=by intro _ _ _; first | exact .inl rfl | exact .inr rfl) (hv':∀ s H fp,Loc (cpX X s H scope fp).env.scope m:=by intro _ _ _; first | exact .inl rfl | exact .inr rfl)
   (hf:∀ s H fp,(cpX X s H scope fp).fn n=true\/(cpX X s H scope fp).env.scope.names.lookup n=some .local:=by intro _ _ _; first | exact .inr rfl | exact .inl rfl) (hf':∀ s H fp,(cpX X s H scope fp).fn m=true\/(cpX X s H scope fp).env.scope.names.lookup m=some .local:=by intro _ _ _; first | exact .inr rfl | exact .inl rfl) (hs:∀ x,foldedSetIterable it X.env x=pure x:=by intro _; rfl) :
   Cmp X elt (.Tuple [.Name n p,.Name m p2] md pt) it [] scope τ ((List.range xs.length).map f):=
 AW (λi=>((bU τ (bCp X.N scope)++[Sl.un]).set j (.d (g i))).set l (.d (g' i))) B hi hl (λi=>⟨by rw [List.length_set,List.length_set],λr x h=>by
     rw [List.getElem?_set_ne (λz=>by rw [<- z,hu'] at h; cases h),List.getElem?_set_ne (λz=>by rw [<- z,hu] at h; cases h)]
     exact h⟩)
   (λi h s H fp=>by rw [hx i h]; exact wm j l (B.comp s H scope fp).calm (hJ hc).2 hN hN' (hv s H fp) (hv' s H fp) (hf s H fp) (hf' s H fp)) he hc hs
end
end Hy
namespace Su
open PySem PyProof.Rows HT
open PySem.SeqAt
open PySem.AutoSeq1 (wpAny_loadPart')
open PySem.MeetsSeq PySem.MeetsSeq2 PySem.MeetsSeq3
section
variable {prog:Program} {w:World} {A:Around} {E:Value->Shared->Prop} {s:Shared}
end
end Su
namespace Hy
open PySem PySem.Spec PyProof.Rows L2
open Ev (D Den au aG aE ar aZ aP)
section
variable {X:Cx} {C:Bool} {τ:List Sl} {x y z:D} {a b e:Expr} {es:List Expr} {pos p:Pos} {k:Nat} {s:Sl} {ds xs ys:List D} {i j:Int} {N:Po} {rest:List Stmt}
theorem vk:OpR X (binaryOp .Add) (λx y H Q=>∃ a b ys,x=.ref a/\y=.ref b/\SqT X.K H a []/\SqT X.K H b ys/\Q (.ref b) H):=by
 intro pins s σ H x y v u Q I rx ry h
 obtain ⟨a,b,ys,rfl,rfl,ha,hb,q⟩:=h
 cases rx
 cases ry
 obtain ⟨its,r1,p1,_⟩:=I.tuple ha
 obtain ⟨its2,r2,p2,_⟩:=I.tuple hb
 cases r1
 obtain ⟨⟨cls,dd,data,sl⟩,ho,hc,n,hd⟩:=id p1
 obtain ⟨⟨cls2,dd2,data2,sl2⟩,ho2,hc2,n2,hd2⟩:=id p2
 simp only at hc hd hc2 hd2
 subst hc hd hc2 hd2
 exact concat_meets ⟨_,ho,rfl⟩ ⟨_,ho2,rfl⟩ noFill_tuple_add seq_tuple_add PySem.F.slot_tuple_add PySem.F.entry_tuple_add (PySem.F.args_tuple_add_2 _ _) (tuple_addW0 a b _ _ n n2 dd dd2 sl sl2 (by simp)) ⟨ho,ho2,⟨.ref b,H,I,rfl,q⟩⟩
theorem sC (hl:xs.length + ys.length < 1000000):cQ X (binaryOp .Add) (.tup xs) (.tup ys) (.tup (xs++ys)):=by
 have lim:1000000<=sizeLine:=by decide
 cases xs with
 | nil=>exact ⟨_,vk,λM v w H Q _ d1 d2 k=>by
     cases d1 with
     | tup h1 r1=>
       cases r1
       cases d2 with
       | tup h2 r2=>exact ⟨_,_,_,rfl,rfl,aZ aI h1,aZ aI h2,k _ H (aq.refl _) (.tup h2 r2)⟩⟩
 | cons x0 xs=>exact ⟨_,vq,λM v w H Q hM d1 d2 k=>by
     cases d1 with
     | @tup a1 vs _ h1 r1=>
     cases d2 with
     | @tup a2 ws _ h2 r2=>
     have l1:=r1.length
     have l2:=r2.length
     refine ⟨_,_,_,_,rfl,rfl,aZ aI h1,aZ aI h2,λz=>by subst z; simp at l1,by omega,λz=>?_,λ_ p hp=>?_⟩
     · subst z
       cases r2
       rw [List.append_nil] at k
       exact k _ H (aq.refl _) (.tup h1 r1)
     · have e:=ar hp (.tup (vs++ws))
       exact k _ _ e (.tup (SqT.of (iP hM hp)) ((r1.append r2).mono (az e λ_ z=>z)))⟩
theorem xE:gp X (.type "tuple") [.lst xs] (.d (.tup xs)):=⟨_,kr,λM vs H Q hM d q=>by
 cases d with
 | cons d r=>
   cases r
   cases d with
   | @lst a us _ h r=>
     refine ⟨_,_,rfl,.inl ⟨aP aI h,λp hp=>?_⟩⟩
     have e:=ar hp (.tup us)
     exact q _ _ [] e cC (gg (.tup (SqT.of (iP hM hp)) (r.mono (az e λ_ z=>z))))⟩
end
section
variable {X:Cx} {C:Bool} {τ:List Sl} {x y z:D} {a b e:Expr} {es:List Expr} {pos p:Pos} {k:Nat} {s:Sl} {ds xs ys:List D} {N:Po} {rest:List Stmt}
theorem Av (i:Nat) {n:Str} {ap cp:Pos} (he:PE X e (dE X.K true τ (.o ys))) (hl:xs.length + ys.length < 1000000) (hr:PSs X rest (dS X.K (τ.set i (.o (xs++ys))) N)) (hi:τ[i]?=some (.o xs):=by rfl) (hN:X.N[i]?=some n:=by rfl)
   (hv:Vis X.env.scope n:=by first | exact Or.inl rfl | exact Or.inr (Or.inl rfl) | exact Or.inr (Or.inr rfl)) (hd:(n == ("__debug__" : Str))=false:=by decide) (hcd:(n == ("__classdict__" : Str))=false:=by decide)
   (hfew:((backTo cp (starEach [e] X.env)).all (λx=>!x.1) && (backToKw cp (keywordEach [] X.env)).all (λx=>x.1.isSome) && decide (([e]:List Expr).length + ([]:List Keyword).length + (if ([]:List Keyword).isEmpty then 0 else 1) < 30))=true:=by rfl)
   (hline:(ap.endLine == cp.line)=true:=by rfl) (hst:starEach [e] X.env=(false,eval e X.env) :: starEach [] X.env:=by rfl) (hpl:(backTo cp (starEach [] X.env)).any (·.1)=false:=by rfl)
   (hs:swapsWith (.Call (.Attribute (.Name n p) "extend" ap) [e] [] cp) none pos.line X.env=pure false:=by rfl) (hbase:attributeBase (.Name n p) "extend" X.env (eval (.Name n p) X.env)=eval (.Name n p) X.env:=by rfl) :
   PSs X (.Expr (.Call (.Attribute (.Name n p) "extend" ap) [e] [] cp) pos :: rest) (dS X.K τ N):=
 bh (M:=(·=τ.set i (.o (xs++ys)))) (psW (gY (qh PySem.F.plainAttrs_list PySem.F.slot_list_extend PySem.F.type_list_extend rB (cD hN hv hd hcd) (bA he dQ hst) hbase hfew hline hst hpl) hs) λD σ H ⟨A,H₀,B,S,Me⟩=>by
   obtain ⟨l,vs,hb,e1,e2,d⟩:=S.sl i _ hi
   refine ⟨_,slot_of e1,.inl ⟨rfl,_,SqL.of e2⟩,A,H₀,B,S,λv H1 bs e3 fr ⟨l2,ws,eb,ev,h2,d2⟩=>?_⟩
   cases ev
   have lim:1000000<=sizeLine:=by decide
   refine ⟨l,l2,vs,ws,rfl,rfl,e3 _ _ e2,h2,by rw [d.length,d2.length]; omega,?_⟩
   exact Me.nx _ _ _ _ rfl ((S.mono e3).put hi hb ((d.mono (az e3 λ_ z=>z)).append (d2.mono (az (aq.refl _) λ_ z=>.inl z))))) λ_ e=>e ▸ hr
end
end Hy
namespace Hy
open PySem PySem.Spec PyProof.Rows L2
open Ev (D Den au)
mutual
noncomputable def rh:Nd->Bool
 | .d x=>flat x
 | .l xs=>nC xs
 | .t xs=>nC xs
noncomputable def nC:List Nd->Bool
 | []=>true
 | x :: xs=>rh x && nC xs
end
noncomputable def vh:Sl->Bool
 | .un=>true
 | .d x=>flat x
 | .o xs=>xs.all flat
 | .n t=>rh t
 | .x _=>false
section
variable {K:PySem.W.Frag} {G G' H:Hp}
mutual
theorem de.fl:∀ {u:V} {bs:List Addr} {t:Nd},de K G H u bs t->rh t=true->de K G' H u bs t
 | _,_,_,.d h,f=>.d (jM h (by rw [rh] at f; exact f))
 | _,_,_,.l h r,f=>.l h (a6.fl r (by rw [rh] at f; exact f))
 | _,_,_,.t h r,f=>.t h (a6.fl r (by rw [rh] at f; exact f))
theorem a6.fl:∀ {vs:List V} {bs:List Addr} {ts:List Nd},a6 K G H vs bs ts->nC ts=true->a6 K G' H vs bs ts
 | _,_,_,.nil,_=>.nil
 | _,_,_,.cons h r,f=>by
   rw [nC,Bool.and_eq_true] at f
   exact .cons (de.fl h f.1) (a6.fl r f.2)
end
theorem qS:∀ {vs:List V} {xs:List D},au K G vs xs->xs.all flat=true->au K G' vs xs
 | _,_,.nil,_=>.nil
 | _,_,.cons h r,f=>by
   rw [List.all_cons,Bool.and_eq_true] at f
   exact .cons (jM h f.1) (qS r f.2)
theorem cW.fl {v:Option V} {bs:List Addr}:∀ {s:Sl},cW K G H v bs s->vh s=true->cW K G' H v bs s
 | .un,h,_=>h
 | .d _,⟨h,u,e1,h2⟩,f=>⟨h,u,e1,jM h2 f⟩
 | .o _,⟨a,vs,h1,h2,h3,h4⟩,f=>⟨a,vs,h1,h2,h3,qS h4 f⟩
 | .n _,⟨h0,u,h1,h2⟩,f=>⟨h0,u,h1,h2.fl f⟩
end
theorem uC {X:Cx} {C C':Bool} {τ:List Sl} {e:Expr} {s s0:Sl} {x:D} (i:Nat) (h:PE X e (dE X.K C' (τ.set i (.d x)) s)) (f:vh s=true) (hi:τ[i]?=some s0:=by rfl) (hx:fzD s0=some x:=by rfl):PE X e (dE X.K C τ s):=
 peW h λσ H Q ⟨A,H₀,B,S,k⟩=>⟨A,H₀,_,S.fz hi hx,λv H' bs e fr q=>k v H' bs e fr (q.fl f)⟩
end Hy
namespace Hy
open PySem PySem.Spec PyProof.Rows L2
open Ev (D Den au ar aZ aP)
section
variable {X:Cx} {C:Bool} {τ:List Sl} {x y z:D} {a b e o ix:Expr} {es:List Expr} {pos p q:Pos} {k:Nat} {s:Sl} {N:Po} {rest:List Stmt} {i j:Nat} {t c:Nd} {pt:List Nat} {xs:List Nd} {m:Nat}
end
end Hy
namespace Hy
open PySem PySem.Spec PyProof.Rows L2
open Ev (D Den au)
section
variable {K:PySem.W.Frag} {A:Addr->Prop} {H₀ H H':Hp} {τ:List Sl} {B:Nat->List Addr} {σ:L2.St}
end
section
variable {X:Cx} {τ:List Sl} {x y z:D} {a b e c:Expr} {es:List Expr} {pos p q:Pos} {k:Nat} {s:Sl} {ds:List D} {N:Po} {rest body:List Stmt}
end
section
variable {P:Program} {w:World} {K:PySem.W.Frag} {mg:Str->Option Value} {base:Heap}
end
section
variable {X:Cx} {τ:List Sl} {es:List Expr} {pos p q pr:Pos} {k:Nat} {s:Sl} {ds:List D} {N:Po} {rest:List Stmt}
end
end Hy
namespace Ev
open PySem PySem.Spec PyProof.Rows L2
section
variable {K:Type} [DecidableEq K] {a:KD K} {hd:a.dep<=7} {X:Cx} {o i e f:Expr} {pos apos cpos:Pos} {td ty tx tk tv:TE}
noncomputable def zY (a:KD K) (hd:a.dep<=7) (P:Program) (w:World) (F:PySem.W.Frag) (tk tv:TE):TE:=λσ H Q=>∀ p,H p=none->tk σ (upd H p (dNk a hd P w p [])) λy H1=>tv σ H1 λv H2=>∃ b k,y=.ref b/\H2 p=some (dNk a hd P w p [])/\Den F H2 (.ref b) (a.toD k)/\∀ u,RelV v u->Q (.ref p) (upd H2 p (dNk a hd P w p (storedH [] k b u)))
theorem qD (hu:X.A.units + 16 < cLine) (hk:PE X e tk) (hv:PE X f tv):PE X (.Dict [some e] [f] pos) (zY a hd X.prog X.w X.K tk tv):=λpins s σ H Q I h=>by
 refine wpAny_Dict_any rfl rfl (by simp) (show 1<=15 by decide) (pairTrees_cons_walk ?_)
 have I0:=I.laid (a:=s.heap.objs.size) (o:=dNk a hd X.prog X.w s.heap.objs.size []) (t':=s.toks) (h':=s.heap.push { cls:=.type "dict",data:=.dict #[] }) (λ_ _ q=>Heap.get?_push_of_some _ q) (Nat.le_refl _)
   ⟨⟨beq_eq_false_iff_ne.mpr (Ne.symm (Nat.ne_of_lt I.big)),_,#[],0,Heap.get?_push_size _ rfl,⟨rfl,rfl,rfl⟩,rfl,rfl,List.nodup_nil⟩,⟨_,Heap.get?_push_size _ rfl⟩,λa1 a2 ⟨z0,o,es,ep,z1,z2⟩ hk=>⟨z0,o,es,ep,hk o z1,z2⟩⟩
 refine thn (hk _ _ σ _ _ I0 (h _ (I.hok.fresh (Nat.le_refl _)))) λkv s1 ⟨y,H1,I1,ry,q1⟩=>thn (hv _ s1 σ H1 _ I1 q1) λvv s2 ⟨v,H2,I2,rv,b,k,ey,hp,g,q2⟩=>pairTrees_nil_walk ?_
 subst ey
 obtain rfl:kv=Value.ref b:=ry
 have D:gO a hd X.prog X.w X.K H2 s.heap.objs.size []:=⟨hp,λ_ z=>nomatch z⟩
 obtain ⟨hd',dd⟩:=uj I2 D
 unfold storeAll
 rw [List.forIn_cons]
 refine wpAny_bind (wpAny_bind (wpAny_dictSet_heap (hsz:=Nat.zero_le _) (show X.A.units + 8 < cLine by omega) (key_is I2 g) dd λh' dd' hs=>wpAny_pure ?_))
 dsimp only
 rw [List.forIn_nil]
 refine wpAny_pure ?_
 obtain ⟨q,es,ep,hq,h2,h3,h4,_,h5⟩:=dd'
 refine ⟨.ref s.heap.objs.size,_,lZ (ob:=dNk a hd X.prog X.w s.heap.objs.size (storedH [] k b vv)) I2 (by rw [hp]; exact True.intro) hs ⟨q,hq⟩ ⟨⟨hd',q,es,ep,hq,h2,h3,h4,h5⟩,⟨q,hq⟩,λa1 a2 ⟨z0,o,es,ep,z1,z2⟩ hk=>⟨z0,o,es,ep,hk o z1,z2⟩⟩,rfl,q2 vv rv⟩
end
end Ev
namespace Hy
open PySem PySem.Spec PyProof.Rows L2
open Ev (D Den au KD NEs dNk gO Bx ar il qD)
section
variable {K:Type} [DecidableEq K] {a:KD K} {hd:a.dep<=7} {X:Cx} {C:Bool} {τ:List Sl} {x y:D} {b e f o ix:Expr} {pos p q apos cpos:Pos} {k:Nat} {N:Po} {rest:List Stmt} {m:List (K × D)} {key:K}
noncomputable def bxK (a:KD K) (hd:a.dep<=7) (P:Program) (w:World) (m:List (K × D)):Bx where
 p:=λF H d=>∃ xs,H d=some (dNk a hd P w d xs)/\EnK a F H xs m
 mono:=λe ⟨xs,h1,h2⟩=>⟨xs,e _ _ h1,h2.mono e⟩
 isd:=λ{_ _ d} ⟨xs,h1,_⟩=>⟨_,h1,λP w H' h z=>let ⟨_,o,_,_,z1,z2,_⟩:=z.1; ⟨o,z1,z2.1⟩⟩
noncomputable abbrev bxD (a:KD K) (hd:a.dep<=7) (P:Program) (w:World) (m:List (K × D)):D:=.box (bxK a hd P w m)
theorem Sta.fzX {F:PySem.W.Frag} {P:Program} {w:World} {A:Addr->Prop} {H₀ H:Hp} {B:Nat->List Addr} {σ:L2.St} {i:Nat} (S:Sta F A H₀ τ B σ H) (hi:τ[i]?=some (.x (exK a hd P w m))):Sta F A H₀ (τ.set i (.d (bxD a hd P w m))) (upB B i []) σ H:=
 S.less (λ_ z=>nomatch z) λG g hv=>by
   obtain ⟨d,xs,h1,h2,h3,h4⟩:=S.dct hi
   exact ⟨rfl,_,h1,.box ⟨xs,hv d _ (by rw [h2]; exact List.mem_singleton.mpr rfl) (λz=>nomatch z) h3,h4.mono g⟩⟩
theorem wF (i:Nat) (h:PSs X rest (dS X.K (τ.set i (.d (bxD a hd X.prog X.w m))) N)) (hi:τ[i]?=some (.x (exK a hd X.prog X.w m)):=by rfl):PSs X rest (dS X.K τ N):=rS h λD σ H ⟨A,H₀,B,S,Me⟩=>⟨A,H₀,_,S.fzX hi,Me⟩
theorem wR (h:PE X e (dE X.K C τ (.x (exK a hd X.prog X.w m)))):PE X e (dE X.K C τ (.d (bxD a hd X.prog X.w m))):=peW h λσ H Q q=>by
 obtain ⟨A,H₀,B,S,k⟩:=dD q
 refine ⟨A,H₀,B,S,λv H' bs e hf ⟨d,o,h1,h2,h3,xs,h4,h5⟩=>?_⟩
 cases h2
 subst h1 h4
 have vd:=S.vd (C:=C)
 have un:¬ vw C A B d:=λz=>by
   obtain ⟨_,q⟩:=vd d z
   rw [(hf d (List.mem_singleton.mpr rfl)).1] at q
   cases q
 exact k _ H' e (.box ⟨xs,aB.mpr ⟨un,h3⟩,h5.mono (az (aq.refl _) λ_ z=>.inl z)⟩)
theorem px (hu:X.A.units + 16 < cLine) (hb:PE X b (dE X.K C τ (.d (bxD a hd X.prog X.w m)))) (hk:PE X ix (dE X.K C τ (.d (a.toD key)))) (hx:getM m key=some x) (hr:∀ H v,Den X.K H v (a.toD key)->∃ b,v=.ref b) (hs:n9 ix):PE X (.Subscript b ix pos) (dE X.K C τ (.d x)):=
 peW (il (a:=a) (hd:=hd) hu hb hk hs) λσ H Q q=>by
   obtain ⟨A,H₀,B,S,kk⟩:=dD q
   refine aW S λv H1 e1 d1=>aW (S.mono e1) λy H2 e2 dy=>?_
   obtain ⟨b',rfl⟩:=hr _ _ dy
   cases d1.mono (az e2 λ_ z=>z) with
   | box h=>
     obtain ⟨xs,g3,g4⟩:=h
     have:=g4.at key
     rw [hx] at this
     obtain ⟨pp,v,h1,h2,h3⟩:=this
     exact ⟨_,b',key,xs,pp,v,rfl,rfl,⟨aI _ _ g3,λz hz=>(g4.key z hz).mono aI⟩,dy.mono aI,h1,h2,kk v H2 (e1.trans e2) h3⟩
theorem uE (hu:X.A.units + 16 < cLine) (hk:PE X e (dE X.K C τ (.d (a.toD key)))) (hv:PE X f (dE X.K C τ (.d x))) (hr:∀ H v,Den X.K H v (a.toD key)->∃ b,v=.ref b):PE X (.Dict [some e] [f] pos) (dE X.K C τ (.x (exK a hd X.prog X.w [(key,x)]))):=
 peW (qD (a:=a) (hd:=hd) hu hk hv) λσ H Q ⟨A,H₀,B,S,kk⟩=>λp hp=>by
   have e0:=ar hp (dNk a hd X.prog X.w p [])
   have f0:Fr H (upd H p (dNk a hd X.prog X.w p [])) [p]:=λb hb=>by rw [List.mem_singleton.mp hb]; exact ⟨hp,_,aL⟩
   have S1:=S.hide e0 f0
   refine aW S1 λy H2 e2 dy=>aW (S1.mono e2) λv H3 e3 dv=>?_
   obtain ⟨b',rfl⟩:=hr _ _ dy
   have e03:=e2.trans e3
   have hp3:=e03 _ _ (aL (H:=H) (a:=p) (o:=dNk a hd X.prog X.w p []))
   have dy3:=dy.mono (az e3 λ_ z=>z)
   refine ⟨b',key,rfl,hp3,dy3.mono aI,λu hu=>?_⟩
   have sm:aq (Hy.hd H3 (vw C (λb=>A b\/b ∈ [p]) B)) (Hy.hd (upd H3 p (dNk a hd X.prog X.w p (storedH [] key b' u))) λb=>vw C A B b\/b ∈ [p]):=λb o z=>by
     obtain ⟨z1,z2⟩:=aB.mp z
     have nh:¬ (vw C A B b\/b ∈ [p]):=λy=>z1 (mF y)
     exact aB.mpr ⟨nh,by rw [aC (λq=>nh (.inr (List.mem_singleton.mpr q)))]; exact z2⟩
   have hs:aq H (upd H3 p (dNk a hd X.prog X.w p (storedH [] key b' u))):=λb o z=>by
     have ne:b ≠ p:=λq=>by rw [q,hp] at z; cases z
     rw [aC ne]
     exact e03 _ _ (e0 _ _ z)
   exact kk (.ref p) _ [p] hs (λb hb=>by rw [List.mem_singleton.mp hb]; exact ⟨hp,_,aL⟩) ⟨p,_,rfl,rfl,aL,_,rfl,(EnK.nil.put dy3 hu dv).mono sm⟩
end
end Hy
namespace Hy
open PySem PySem.Spec PyProof.Rows L2
open Ev (D Den au ar aK hZ fo PTs dz fK)
theorem kR {K:PySem.W.Frag} {G:Hp}:∀ {vs:List V} {ns:List Int},au K G vs (ns.map .int)->vs=ns.map V.int
 | _,[],.nil=>rfl
 | _,n :: ns,.cons h r=>by cases h; rw [kR r]; rfl
section
variable {X:Cx}
end
section
variable {X:Cx} {C:Bool} {τ:List Sl} {e it:Expr} {pos p q p2 pos2 tp ip vp rp ap cp p1:Pos} {k:Nat} {N:Po} {rest:List Stmt} {scope:Scope}
theorem so {α β:Type} (g:α->β):∀ (xs:List α) (i:Nat),(xs.eraseIdx i).map g=(xs.map g).eraseIdx i
 | [],_=>rfl
 | _ :: _,0=>rfl
 | x :: xs,i + 1=>by rw [List.map_cons,List.eraseIdx_cons_succ,List.eraseIdx_cons_succ,List.map_cons,so g xs i]
end
end Hy
namespace Hy
open PySem PySem.Spec PyProof.Rows L2
open Ev (D Den au ar aZ aP)
section
variable {X:Cx}
theorem sD {α:Type}:∀ (its:List α) (k:Nat) (y:α),k<=its.length->its.insertIdx k y=its.take k++[y]++its.drop k
 | _,0,_,_=>rfl
 | a :: r,k + 1,y,h=>by
   rw [List.insertIdx_succ_cons,sD r k y (by simpa using h)]
   rfl
theorem yC {its:List Value} {k:Nat} {y:Value} (h:k<=its.length):(its.toArray.extract 0 k).push y++its.toArray.extract k=(its.insertIdx k y).toArray:=by
 apply Array.toList_inj.mp
 simp only [Array.toList_append,Array.toList_push,Array.toList_extract,List.extract_eq_drop_take,List.drop_zero,Nat.sub_zero,List.size_toArray]
 rw [sD its k y h]
 congr 1
 exact List.take_of_length_le (by rw [List.length_drop]; exact Nat.le_refl _)
noncomputable def vx:V->List V->Hp->VK->Prop:=λx vs H Q=>∃ l xs,∃ i:Int,∃ y,x=.ref l/\vs=[.int i,y]/\H l=some (.lst xs)/\0<=i/\i.toNat<=xs.length/\xs.length < sizeLine/\Q .non (upd H l (.lst (xs.insertIdx i.toNat y)))
theorem rq:MtM X "list.insert" vx:=by
 intro pins s σ H x vs v us Q I rx rv h
 obtain ⟨l,xs,i,y,rfl,rfl,hH,h0,h1,h2,q⟩:=h
 cases rx
 obtain ⟨u,w,rfl,ru,rw'⟩:=rv.two
 obtain ⟨t,rfl⟩:=ru
 obtain ⟨z,its,n,r,hl,e⟩:=I.sY hH
 have hi:i < 2 ^ 63:=by have:=Int.toNat_of_nonneg h0; have:sizeLine < 2 ^ 62:=(by decide); omega
 have hf:Builtin.List.listFitsIndex i=true:=by
   unfold Builtin.List.listFitsIndex
   rw [Bool.and_eq_true]
   exact ⟨decide_eq_true (by omega),decide_eq_true hi⟩
 refine call_meets PySem.F.slot_list_insert ⟨_,e,rfl⟩ PySem.F.entry_list_insert (PySem.F.args_list_insert_3 _ _ _) (PySem.AutoSeq1.list_insert_list_int_val_1 l its.toArray n i t w (by simp [hf]) (by rw [List.size_toArray]; omega)) ⟨e,?_⟩
 have vi:∀ {xs:List V} {us:List Value} (k:Nat) {a:V} {b:Value},Vals xs us->RelV a b->Vals (xs.insertIdx k a) (us.insertIdx k b):=λ{xs us} k {a b} r ra=>by
   induction k generalizing xs us with
   | zero=>exact .cons ra r
   | succ k ih=>cases r with
     | nil=>exact .nil
     | cons r1 r2=>exact .cons r1 (ih r2)
 refine ⟨.non,_,I.uY (its':=its.insertIdx i.toNat w) hH e ?_ (vi _ r rw') ?_,rfl,q⟩
 · show (its.toArray.extract 0 (if i < 0 then (i + (its.toArray.size:Int)).toNat else min i.toNat its.toArray.size)).push w++its.toArray.extract (if i < 0 then (i + (its.toArray.size:Int)).toNat else min i.toNat its.toArray.size)=_
   rw [if_neg (by omega),List.size_toArray,Nat.min_eq_left (by omega)]
   exact yC (by omega)
 · rw [List.length_insertIdx_of_le_length h1]; omega
end
section
variable {X:Cx} {C:Bool} {τ:List Sl} {x y z:D} {a b e f o ix:Expr} {es:List Expr} {pos p q:Pos} {k:Nat} {s:Sl} {N:Po} {rest:List Stmt} {i:Nat} {t c:Nd} {pt:List Nat} {xs:List Nd} {j:Int} {m:Nat}
end
end Hy
namespace Hy
open PySem PySem.Spec PyProof.Rows L2
open Ev (D Den au ar)
theorem k8 {K:PySem.W.Frag} {H:Hp}:∀ {vs:List V} {ds:List D} (j:Nat),au K H vs ds->au K H (vs.eraseIdx j) (ds.eraseIdx j)
 | _,_,_,.nil=>.nil
 | _,_,0,.cons _ r=>r
 | _,_,j + 1,.cons h r=>.cons h (k8 j r)
theorem qy {K:PySem.W.Frag} {H:Hp} {v:V} {x:D} (h:Den K H v x):∀ {vs:List V} {ds:List D} (j:Nat),au K H vs ds->au K H (vs.insertIdx j v) (ds.insertIdx j x)
 | _,_,0,r=>.cons h r
 | _,_,_ + 1,.nil=>.nil
 | _,_,j + 1,.cons h1 r=>.cons h1 (qy h j r)
section
variable {X:Cx} {τ:List Sl} {a b:Expr} {pos p q:Pos} {N:Po} {rest:List Stmt}
theorem zj (i:Nat) {n:Str} {xs:List D} {ap cp ap2 cp2:Pos} {k j:Nat} (x:D) (ha:PE X a (dE X.K false τ (.d (.int (k:Nat))))) (hb:PE X b (dE X.K false τ (.d (.int (j:Nat))))) (hj:xs[j]?=some x) (hk:k < xs.length) (hl:xs.length < 1000000) (hr:PSs X rest (dS X.K (τ.set i (.o ((xs.eraseIdx j).insertIdx k x))) N)) (hi:τ[i]?=some (.o xs):=by rfl) (hN:X.N[i]?=some n:=by rfl)
   (hv:Vis X.env.scope n:=by first | exact Or.inl rfl | exact Or.inr (Or.inl rfl) | exact Or.inr (Or.inr rfl)) (hd:(n == ("__debug__" : Str))=false:=by decide) (hcd:(n == ("__classdict__" : Str))=false:=by decide)
   (hfew:((backTo cp (starEach [a,.Call (.Attribute (.Name n q) "pop" ap2) [b] [] cp2] X.env)).all (λx=>!x.1) && (backToKw cp (keywordEach [] X.env)).all (λx=>x.1.isSome) && decide (([a,.Call (.Attribute (.Name n q) "pop" ap2) [b] [] cp2]:List Expr).length + ([]:List Keyword).length + (if ([]:List Keyword).isEmpty then 0 else 1) < 30))=true:=by rfl)
   (hline:(ap.endLine == cp.line)=true:=by rfl) (hst:starEach [a,.Call (.Attribute (.Name n q) "pop" ap2) [b] [] cp2] X.env=(false,eval a X.env) :: starEach [.Call (.Attribute (.Name n q) "pop" ap2) [b] [] cp2] X.env:=by rfl)
   (hst2:starEach [.Call (.Attribute (.Name n q) "pop" ap2) [b] [] cp2] X.env=(false,eval (.Call (.Attribute (.Name n q) "pop" ap2) [b] [] cp2) X.env) :: starEach [] X.env:=by rfl) (hpl:(backTo cp (starEach [.Call (.Attribute (.Name n q) "pop" ap2) [b] [] cp2] X.env)).any (·.1)=false:=by rfl)
   (hs:swapsWith (.Call (.Attribute (.Name n p) "insert" ap) [a,.Call (.Attribute (.Name n q) "pop" ap2) [b] [] cp2] [] cp) none pos.line X.env=pure false:=by rfl) (hbase:attributeBase (.Name n p) "insert" X.env (eval (.Name n p) X.env)=eval (.Name n p) X.env:=by rfl)
   (hfew2:((backTo cp2 (starEach [b] X.env)).all (λx=>!x.1) && (backToKw cp2 (keywordEach [] X.env)).all (λx=>x.1.isSome) && decide (([b]:List Expr).length + ([]:List Keyword).length + (if ([]:List Keyword).isEmpty then 0 else 1) < 30))=true:=by rfl) (hline2:(ap2.endLine == cp2.line)=true:=by rfl)
   (hst3:starEach [b] X.env=(false,eval b X.env) :: starEach [] X.env:=by rfl) (hpl2:(backTo cp2 (starEach [] X.env)).any (·.1)=false:=by rfl) (hbase2:attributeBase (.Name n q) "pop" X.env (eval (.Name n q) X.env)=eval (.Name n q) X.env:=by rfl) :
   PSs X (.Expr (.Call (.Attribute (.Name n p) "insert" ap) [a,.Call (.Attribute (.Name n q) "pop" ap2) [b] [] cp2] [] cp) pos :: rest) (dS X.K τ N):=
 bh (M:=(·=τ.set i (.o ((xs.eraseIdx j).insertIdx k x)))) (psW (gY (qh PySem.F.plainAttrs_list PySem.F.slot_list_insert PySem.F.type_list_insert rq (cD hN hv hd hcd)
     (bA ha (bA (qh PySem.F.plainAttrs_list PySem.F.slot_list_pop PySem.F.type_list_pop tJ (cD hN hv hd hcd) (bA hb dQ hst3) hbase2 hfew2 hline2 hst3 hpl2) dQ hst2) hst) hbase hfew hline hst hpl) hs) λDn σ H ⟨A,H₀,B,S,Me⟩=>by
   obtain ⟨l,vs,hbb,e1,e2,d⟩:=S.sl i _ hi
   have hjl:j < xs.length:=(List.getElem?_eq_some_iff.mp hj).1
   refine ⟨_,slot_of e1,.inl ⟨rfl,_,SqL.of e2⟩,aW S λw1 H1 f1 g1=>?_⟩
   cases g1
   have S1:=S.mono f1
   refine ⟨_,slot_of e1,.inl ⟨rfl,_,SqL.of (f1 _ _ e2)⟩,aW S1 λw2 H2 f2 g2=>?_⟩
   cases g2
   have S2:=S1.mono f2
   obtain ⟨l',vs',hb',e1',e2',d'⟩:=S2.sl i _ hi
   rw [e1] at e1'
   cases e1'
   have hln:=d'.length
   obtain ⟨v,hv1,dv⟩:=d'.get hj
   refine ⟨l,vs',(j:Int),j,v,rfl,rfl,e2',by omega,by omega,PySem.StrLaws.seqIndex_nonneg (by omega) (by omega),hv1,?_⟩
   have hel:(vs'.eraseIdx j).length=xs.length - 1:=by rw [List.length_eraseIdx_of_lt (by omega),hln]
   refine ⟨l,vs'.eraseIdx j,(k:Int),v,rfl,rfl,aL,by omega,by rw [Int.toNat_natCast]; omega,by rw [hel]; have:sizeLine > 1000000:=(by decide); omega,?_⟩
   rw [Int.toNat_natCast]
   have eu:upd (upd H2 l (.lst (vs'.eraseIdx j))) l (.lst ((vs'.eraseIdx j).insertIdx k v))=upd H2 l (.lst ((vs'.eraseIdx j).insertIdx k v)):=by
     funext z
     unfold upd
     split <;> rfl
   rw [eu]
   exact Me.nx _ _ _ _ rfl (S2.put hi hb' (qy dv k (k8 j d')))) λ_ e=>e ▸ hr
end
end Hy
namespace Ev
open PySem PySem.Spec PyProof.Rows L2
section
variable {prog:Program} {w:World} {A:Around} {E:Value->Shared->Prop} {s:Shared} {d it:Addr} {o:Obj} {es:Array DictEntry} {ep i:Nat}
theorem u5 {Q:Value->Shared->Prop} (hd:(d == sysModules)=false) (ho:s.heap.get? d=some o) (hx:o.ExactDict) (hdat:o.data=.dict es ep)
   (hQ:Q (.ref s.heap.objs.size) { s with heap:=s.heap.push { cls:=.type "dict_keyiterator",data:=.fields #[.ref d,.int 0 0,.int es.size 0,.int ep 0] } }):wpAny (model prog w) A (pyIter (.ref d)) Q E s:=by
 have hT:s.TypeIs (.ref d) "dict":=⟨o,ho,hx.1⟩
 refine wpAny_pyIter_slot hT PySem.F.slot_dict_iter (wpAny_call_entry PySem.F.slot_dict_iter hT PySem.F.entry_dict_iter ?_ (PySem.F.args_dict_iter_1 _))
 unfold Builtin.«dict.__iter__»
 refine wpAny_bind ?_
 unfold Builtin.Dict.dictSlotNone
 refine wpAny_bind (wpAny_notOrdered_dict hT (wpAny_pure ?_))
 show wpAny _ _ (Builtin.Dict.showsAll d >>= _) _ _ s
 unfold Builtin.Dict.showsAll
 rw [if_neg (by rw [hd]; exact Bool.false_ne_true)]
 refine wpAny_bind (wpAny_pure (wpAny_bind (wpAny_dictEntries ho hdat (wpAny_bind (wpAny_dictEpoch ho hdat ?_)))))
 refine wpAny_bind (wpAny_newObj_type (wpAny_pure ⟨_,rfl,"dict_keyiterator",_,⟨_,Heap.get?_push_size _ rfl,rfl⟩,PySem.F.slot_dict_keyiterator_next.lookup,?_⟩))
 simpa [rawInt] using hQ
theorem uM:Builtin.Dict_items.ownsTuple "dict_keyiterator" = false:=by decide
theorem uP {Q:Option Value->Shared->Prop} (hit:s.heap.IsKeyIter it d i es.size ep) (ho:s.heap.get? d=some o) (hdat:o.data=.dict es ep) (hlt:i < es.size)
   (hQ:∀ h',h'.IsKeyIter it d (i + 1) es.size ep->Heap.SameBut it s.heap h'->Q (some es[i].key) { s with heap:=h' }):wpAny (model prog w) A (pyNext (.ref it)) Q E s:=by
 obtain ⟨oi,hoi,hc,hdi⟩:=id hit
 unfold pyNext
 refine wpAny_bind (wpAny_attempt (wpAny_callSpecial?_slot (name:=Str.ofString "__next__") hit.typeIs PySem.F.slot_dict_keyiterator_next (wpAny_call_entry PySem.F.slot_dict_keyiterator_next hit.typeIs PySem.F.entry_dict_keyiterator_next ?_ (PySem.F.args_dict_keyiterator_next_1 _))))
 refine wpAny_bind (wpAny_pure (wpAny_bind (wpAny_bind ?_)))
 first | refine wpAny_bind (wpAny_typeNameOfWhole_keyiter hit.typeIs (wpAny_pure ?_)) | refine wpAny_bind (wpAny_typeNameOf_keyiter hit.typeIs (wpAny_pure ?_))
 refine wpAny_bind (wpAny_fieldsOf hoi hdi ?_)
 simp only [uM,Bool.false_eq_true,if_false]
 show wpAny _ _ (if (Value.ref d == Value.none)=true then _ else _) _ _ s
 rw [if_neg (show ¬ ((Value.ref d == Value.none)=true) from Bool.false_ne_true)]
 refine wpAny_bind (wpAny_pure (wpAny_bind (wpAny_dictEntries ho hdat ?_)))
 rw [if_neg (by simp)]
 refine wpAny_bind (wpAny_pure (wpAny_bind (wpAny_dictEpoch ho hdat ?_)))
 rw [if_neg (by simp)]
 refine wpAny_pure ?_
 simp only [show ¬ ((i:Int) < 0) from by omega,if_false,Int.toNat_natCast,Array.getElem?_eq_getElem hlt]
 refine wpAny_bind ?_
 first | refine wpAny_bind (wpAny_typeNameOfWhole_keyiter hit.typeIs (wpAny_pure ?_)) | refine wpAny_bind (wpAny_typeNameOf_keyiter hit.typeIs (wpAny_pure ?_))
 refine wpAny_bind (wpAny_isOneOf_keyiter hit.typeIs ?_)
 show wpAny _ _ (setField (.ref it) 1 (rawInt ((i:Int) + 1)) >>= _) _ _ s
 refine wpAny_bind (wpAny_setField hoi hdi (by simp) ?_)
 have hit':(s.heap.update it (Obj.mapFields (·.setIfInBounds 1 (rawInt ((i:Int) + 1))))).IsKeyIter it d (i + 1) es.size ep:=
   ⟨_,Heap.get?_update_self _ hoi (Obj.isFreed_of_fields (Obj.data_mapFields hdi _)),(Obj.cls_mapFields ..).trans hc,by rw [Obj.data_mapFields hdi]; simp [rawInt]⟩
 refine wpAny_bind (wpAny_holding ?_)
 refine wpAny_bind (wpAny_isOneOf_keyiter (s:={ s with heap:=s.heap.update it (Obj.mapFields (·.setIfInBounds 1 (rawInt ((i:Int) + 1)))) }) hit'.typeIs ?_)
 show wpAny _ _ (pure es[i].key) _ _ _
 exact wpAny_pure (wpAny_pure ⟨_,rfl,wpAny_pure (hQ _ hit' (Heap.SameBut.update ..))⟩)
theorem yD {Q:Option Value->Shared->Prop} (hh:A.handled=none) (hit:s.heap.IsKeyIter it d i es.size ep) (ho:s.heap.get? d=some o) (hdat:o.data=.dict es ep) (hge:es.size<=i)
   (hQ:∀ h',Heap.ExtBut it s.heap h'->Q none { s with heap:=h' }):wpAny (model prog w) A (pyNext (.ref it)) Q E s:=by
 obtain ⟨oi,hoi,hc,hdi⟩:=id hit
 unfold pyNext
 refine wpAny_bind (wpAny_attempt (wpAny_callSpecial?_slot (name:=Str.ofString "__next__") hit.typeIs PySem.F.slot_dict_keyiterator_next (wpAny_call_entry PySem.F.slot_dict_keyiterator_next hit.typeIs PySem.F.entry_dict_keyiterator_next ?_ (PySem.F.args_dict_keyiterator_next_1 _))))
 refine wpAny_bind (wpAny_pure (wpAny_bind (wpAny_bind ?_)))
 first | refine wpAny_bind (wpAny_typeNameOfWhole_keyiter hit.typeIs (wpAny_pure ?_)) | refine wpAny_bind (wpAny_typeNameOf_keyiter hit.typeIs (wpAny_pure ?_))
 refine wpAny_bind (wpAny_fieldsOf hoi hdi ?_)
 simp only [uM,Bool.false_eq_true,if_false]
 show wpAny _ _ (if (Value.ref d == Value.none)=true then _ else _) _ _ s
 rw [if_neg (show ¬ ((Value.ref d == Value.none)=true) from Bool.false_ne_true)]
 refine wpAny_bind (wpAny_pure (wpAny_bind (wpAny_dictEntries ho hdat ?_)))
 rw [if_neg (by simp)]
 refine wpAny_bind (wpAny_pure (wpAny_bind (wpAny_dictEpoch ho hdat ?_)))
 rw [if_neg (by simp)]
 refine wpAny_pure ?_
 simp only [show ¬ ((i:Int) < 0) from by omega,if_false,Int.toNat_natCast,Array.getElem?_eq_none hge]
 refine wpAny_bind ?_
 first | refine wpAny_bind (wpAny_typeNameOfWhole_keyiter hit.typeIs (wpAny_pure ?_)) | refine wpAny_bind (wpAny_typeNameOf_keyiter hit.typeIs (wpAny_pure ?_))
 show wpAny _ _ (setField (.ref it) 0 .none >>= _) _ _ s
 refine wpAny_bind (wpAny_setField hoi hdi (by simp) ?_)
 show wpAny _ _ (newExc (.type "StopIteration") [] >>= _) _ _ _
 refine wpAny_bind ?_
 simp only [newExc,newTuple]
 refine wpAny_bind (wpAny_newObj_type ?_ (by size_fits))
 refine wpAny_bind (m:=firstArgMember _ _) (wpAny_of_eq (a:=Value.none) (by first | rfl | (simp only [firstArgMember]; rfl)) ?_)
 refine wpAny_newObj_type ?_ (by size_fits)
 simp only [raiseNew]
 refine wpAny_bind (wpAny_handled ?_)
 rw [show A.in1.handled=none from hh]
 refine wpAny_bind (wpAny_pure (wpAny_throw ?_))
 refine wpAny_bind (wpAny_isInstance (T:="StopIteration") (b:=true) ⟨_,Heap.get?_push_size _ rfl,rfl⟩ isSubtype_stop ?_)
 exact wpAny_pure (hQ _ (((Heap.SameBut.update ..).extBut.push _).push _))
end
section
variable {K:Type} [DecidableEq K] {a:KD K} {hd:a.dep<=7} {X:Cx} {pins:List (Addr × Obj)} {σ:L2.St} {H:Hp} {s:Shared} {d:Addr} {xs:NEs K} {ob:Obj}
theorem uB (I:Inv X pins σ H s) (h:H d=some (.frz ob (dNk a hd X.prog X.w d xs))):(d == sysModules)=false/\∃ es ep,s.heap.get? d=some ob/\ob.ExactDict/\ob.data=.dict es ep/\es.toList=xs.map (entryOfKey (kd a hd X.prog X.w))/\(xs.map (·.1)).Nodup:=by
 obtain ⟨e,⟨h0,o,es,ep,h1,h2⟩,_⟩:=(show bZ X.prog X.w H s.heap d (.frz ob (dNk a hd X.prog X.w d xs)) from I.hok d _ h)
 rw [e] at h1
 cases h1
 exact ⟨h0,es,ep,e,h2⟩
noncomputable def Itw (a:KD K) (hd:a.dep<=7) (P:Program) (w:World) (d:Addr) (ob:Obj) (xs:NEs K):L2.It:=
 ⟨λi H=>i < xs.length/\H d=some (.frz ob (dNk a hd P w d xs)),λi H x H'=>H'=H/\∃ p,xs[i]?=some p/\x=.ref p.2.1,λi H=>xs.length<=i/\H d=some (.frz ob (dNk a hd P w d xs))⟩
theorem uX {P:Program} {w:World} {F:PySem.W.Frag} {tg:Expr} (it:Addr) (es:Array DictEntry) (ep:Nat) (hdat:ob.data=.dict es ep) :
   Turn P w F false tg (Itw a hd P w d ob xs) [it] it (λi h=>i<=xs.length/\h.IsKeyIter it d i xs.length ep) where
 mem:=by simp
 obj:=λi h st b hb=>by
   have e:b=it:=by simpa using hb
   subst e
   obtain ⟨o,e,c,d⟩:=st.2
   exact ⟨o,e,λv z=>by rw [d] at z; cases z⟩
 keep:=λi h h' st k=>⟨st.1,st.2.at λo e=>k it (by simp) o e⟩
 item:=by
   intro X hP hw hK hc i pins s σ H E I hf st hg
   subst hP hw hK
   obtain ⟨hi,ha⟩:=hg
   obtain ⟨f0,f1,f2,f3,f4,f5⟩:=hf it (by simp)
   obtain ⟨_,es',ep',g1,_,g3,g4,_⟩:=uB I ha
   rw [hdat] at g3
   injection g3 with z1 z2
   subst z1 z2
   have hl:es.size=xs.length:=by rw [<- Array.length_toList,g4,List.length_map]
   have st2:=st.2
   rw [<- hl] at st2
   have hie:i < es.size:=by omega
   have hk:es[i].key=.ref (xs[i]).2.1:=by
     have e:es.toList[i]?=some (entryOfKey (kd a hd X.prog X.w) xs[i]):=by rw [g4,List.getElem?_map,List.getElem?_eq_getElem hi]; rfl
     rw [Array.getElem?_toList,Array.getElem?_eq_getElem hie] at e
     rw [Option.some.inj e]
     rfl
   refine uP st2 g1 hdat hie λh' st' sb=>?_
   have I1:Inv X pins σ H { s with heap:=h' }:=I.turned (t':=s.toks) (λb o hb e=>(sb.2 b hb).trans e) f0 f1 f3 f4 f5
   obtain ⟨o',e,c,dd⟩:=id st'
   rw [hk]
   refine ⟨_,rfl,tZ (s:={ s with heap:=h' }) e c dd (by decide) ⟨.ref (xs[i]).2.1,H,I1,rfl,⟨rfl,_,List.getElem?_eq_getElem hi,rfl⟩,⟨hi,by rw [<- hl]; exact st'⟩,λb hb=>(hf b hb).1⟩⟩
 done:=by
   intro X hP hw hK hc i pins s σ H E I hf st hg
   subst hP hw hK
   obtain ⟨hi,ha⟩:=hg
   obtain ⟨f0,f1,f2,f3,f4,f5⟩:=hf it (by simp)
   obtain ⟨_,es',ep',g1,_,g3,g4,_⟩:=uB I ha
   rw [hdat] at g3
   injection g3 with z1 z2
   subst z1 z2
   have hl:es.size=xs.length:=by rw [<- Array.length_toList,g4,List.length_map]
   have st2:=st.2
   rw [<- hl] at st2
   exact yD (I.ok.hd hc.calm) st2 g1 hdat (by omega) λh' eb=>⟨rfl,I.turned (t':=s.toks) (λb o hb e=>eb b o hb e) f0 f1 f3 f4 f5⟩
 self:=λ_ _ _ _ _ st h=>wpAny_pyIter_keyiter st.2 h
end
section
variable {K:Type} [DecidableEq K] {a:KD K} {hd:a.dep<=7} {X:Cx} {tg l o i:Expr} {tl td ty:TE} {pos:Pos}
noncomputable def y6 (a:KD K) (hd:a.dep<=7) (P:Program) (w:World) (tl:TE):TI:=λσ H R=>tl σ H λx H1=>∃ d ob xs,x=.ref d/\H1 d=some (.frz ob (dNk a hd P w d xs))/\R (Itw a hd P w d ob xs) H1
theorem nv (hc:X.calm=true) (hl:PE X l tl):PI X tg l (y6 a hd X.prog X.w tl):=by
 intro pins s σ H R I h
 refine thn (hl pins s σ H _ I h) λu s1 ⟨x,H1,I1,r1,d,ob,xs,ex,ha,q⟩=>?_
 subst ex
 cases r1
 obtain ⟨h0,es,ep,g1,g2,g3,g4,_⟩:=uB I1 ha
 have hl:es.size=xs.length:=by rw [<- Array.length_toList,g4,List.length_map]
 refine u5 h0 g1 g2 g3 ?_
 refine ⟨false,s1.heap.objs.size,[s1.heap.objs.size],_,_,H1,rfl,I1.kept (t':=s1.toks) λb o e=>Heap.get?_push_of_some _ e,.inl hc,uX (xs:=xs) _ es ep g3,⟨Nat.zero_le _,?_⟩,λb hb=>?_,q⟩
 · rw [<- hl]
   exact ⟨_,Heap.get?_push_size _ rfl,rfl,rfl⟩
 · have e:b=s1.heap.objs.size:=by simpa using hb
   subst e
   exact I1.oU (Nat.le_refl _) (I1.hok.fresh (Nat.le_refl _))
noncomputable def Ah (a:KD K) (hd:a.dep<=7) (P:Program) (w:World) (F:PySem.W.Frag) (td ty:TE):TE:=λσ H Q=>td σ H λx H1=>ty σ H1 λy H2=>∃ d ob b k xs p v,x=.ref d/\y=.ref b/\H2 d=some (.frz ob (dNk a hd P w d xs))/\(∀ x ∈ xs,Den F H2 (.ref x.2.1) (a.toD x.1))/\Den F H2 (.ref b) (a.toD k)/\atKey xs k=some p/\RelV v p.2/\Q v H2
theorem pX (hu:X.A.units + 16 < cLine) (ho:PE X o td) (hi:PE X i ty) (hs:n9 i):PE X (.Subscript o i pos) (Ah a hd X.prog X.w X.K td ty):=by
 intro pins s σ H Q I h
 refine qf PySem.F.slot_dict_getitem.lookup hs (thn (ho pins s σ H _ I h) λu s1 ⟨x,H1,I1,rx,q1⟩=>thn (hi pins s1 σ H1 _ I1 q1) λiv s2 ⟨y,H2,I2,ry,d,ob,b,k,xs,p,v,ex,ey,ha,hk,g,hp,rv,q2⟩=>?_)
 subst ex ey
 obtain rfl:u=Value.ref d:=rx
 obtain rfl:iv=Value.ref b:=ry
 obtain ⟨_,es,ep,g1,g2,g3,g4,g5⟩:=uB I2 ha
 have dd:s2.heap.DictOfH (kd a hd X.prog X.w) d xs:=⟨ob,es,ep,g1,g2,g3,g4,λx hx=>key_is I2 (hk x hx),g5⟩
 exact ⟨dd.typeIs,wpAny_getItem_heap (show X.A.units + 1 + 8 < cLine by omega) (key_is I2 g) dd hp ⟨v,H2,I2.tok _,rv,q2⟩⟩
end
end Ev
namespace Hy
open PySem PySem.Spec PyProof.Rows L2
open Ev (D Den au KD NEs dNk gO Bx ar uB Itw nv pX)
section
variable {K:Type} [DecidableEq K] {a:KD K} {hd:a.dep<=7} {X:Cx} {C:Bool} {τ:List Sl} {x y:D} {b e f o ix tg:Expr} {pos p q apos cpos:Pos} {k:Nat} {N:Po} {rest:List Stmt} {m:List (K × D)} {key:K}
noncomputable def bxW (a:KD K) (hd:a.dep<=7) (P:Program) (w:World) (m:List (K × D)):Bx where
 p:=λF H d=>∃ ob xs,H d=some (.frz ob (dNk a hd P w d xs))/\EnK a F H xs m
 mono:=λe ⟨ob,xs,h1,h2⟩=>⟨ob,xs,e _ _ h1,h2.mono e⟩
 isd:=λ{_ _ d} ⟨ob,xs,h1,_⟩=>⟨_,h1,λP w H' h z=>let ⟨_,o,_,_,z1,z2,_⟩:=z.2.1; ⟨o,z1,z2.1⟩⟩
noncomputable def exW (a:KD K) (hd:a.dep<=7) (P:Program) (w:World) (ob:Obj) (m:List (K × D)):Ex where
 p:=λF G o p=>∃ xs,o=.frz ob (dNk a hd P w p xs)/\EnK a F G xs m
 mono:=λe ⟨xs,h1,h2⟩=>⟨xs,h1,h2.mono e⟩
 ext:=λ⟨xs,h1,_⟩=>.inr (.inl ⟨_,_,h1⟩)
theorem Sta.fzW {F:PySem.W.Frag} {P:Program} {w:World} {A:Addr->Prop} {H₀ H:Hp} {B:Nat->List Addr} {σ:L2.St} {i:Nat} {ob:Obj} (S:Sta F A H₀ τ B σ H) (hi:τ[i]?=some (.x (exW a hd P w ob m))):Sta F A H₀ (τ.set i (.d (.box (bxW a hd P w m)))) (upB B i []) σ H:=
 S.less (λ_ z=>nomatch z) λG g hv=>by
   obtain ⟨d,o,h1,h2,h3,xs,h4,h5⟩:=S.sl i _ hi
   subst h4
   exact ⟨rfl,_,h2,.box ⟨ob,xs,hv d _ (by rw [h1]; exact List.mem_singleton.mpr rfl) (λz=>nomatch z) h3,h5.mono g⟩⟩
theorem zq (i:Nat) (h:PSs X rest (dS X.K (τ.set i (.d (.box (bxW a hd X.prog X.w m)))) N)) (hi:τ[i]?=some (.x (exK a hd X.prog X.w m)):=by rfl):PSs X rest (dS X.K τ N):=by
 intro pins s σ H D I ⟨A,H₀,B,S,Me⟩
 obtain ⟨d,xs,h1,h2,h3,h4⟩:=S.dct hi
 obtain ⟨⟨z0,o,es,ep,z1,z2⟩,z3,z4⟩:=(show bZ X.prog X.w H s.heap d (dNk a hd X.prog X.w d xs) from I.hok d _ h3)
 have I2:Inv X pins σ (upd H d (.frz o (dNk a hd X.prog X.w d xs))) s:=lZ (t':=s.toks) (h':=s.heap) I (by rw [h3]; exact True.intro) (.refl _ _) ⟨o,z1⟩ ⟨z1,⟨z0,o,es,ep,z1,z2⟩,z3,z4⟩
 have hl:=(List.getElem?_eq_some_iff.mp hi).1
 have S2:=S.As (E':=exW a hd X.prog X.w o m) hi h2 ⟨xs,rfl,h4⟩
 have S3:=S2.fzW (ob:=o) (m:=m) (List.getElem?_set_self hl)
 rw [List.set_set] at S3
 exact h pins s σ _ D I2 ⟨A,H₀,_,S3,Me⟩
theorem yU (hu:X.A.units + 16 < cLine) (hb:PE X b (dE X.K C τ (.d (.box (bxW a hd X.prog X.w m))))) (hk:PE X ix (dE X.K C τ (.d (a.toD key)))) (hx:getM m key=some x) (hr:∀ H v,Den X.K H v (a.toD key)->∃ b,v=.ref b) (hs:n9 ix):PE X (.Subscript b ix pos) (dE X.K C τ (.d x)):=
 peW (pX (a:=a) (hd:=hd) hu hb hk hs) λσ H Q q=>by
   obtain ⟨A,H₀,B,S,kk⟩:=dD q
   refine aW S λv H1 e1 d1=>aW (S.mono e1) λy H2 e2 dy=>?_
   obtain ⟨b',rfl⟩:=hr _ _ dy
   cases d1.mono (az e2 λ_ z=>z) with
   | box h=>
     obtain ⟨ob,xs,g3,g4⟩:=h
     have:=g4.at key
     rw [hx] at this
     obtain ⟨pp,v,h1,h2,h3⟩:=this
     exact ⟨_,ob,b',key,xs,pp,v,rfl,rfl,aI _ _ g3,λz hz=>(g4.key z hz).mono aI,dy.mono aI,h1,h2,kk v H2 (e1.trans e2) h3⟩
theorem EnK.t9 {F:PySem.W.Frag} {G:Hp}:∀ {xs:NEs K} {m:List (K × D)},EnK a F G xs m->∀ i (h:i < m.length),∃ p,xs[i]?=some p/\p.1=(m[i]).1
 | _,_,.nil,i,h=>absurd h (by simp)
 | _,_,.cons ..,0,_=>⟨_,rfl,rfl⟩
 | _,_,.cons _ _ _ r,i + 1,h=>by
   obtain ⟨p,h1,h2⟩:=EnK.t9 r i (by simpa using h)
   exact ⟨p,h1,h2⟩
theorem vZ (h:PE X e (dE X.K true τ (.d (.box (bxW a hd X.prog X.w m))))) (hc:X.calm=true:=by first | rfl | assumption):PI X tg e (dI X.K τ (m.map λp=>a.toD p.1)):=piW (nv (a:=a) (hd:=hd) hc h) λσ H R ⟨A,H₀,B,S,k⟩=>aW S λv H1 e1 d1=>by
 cases d1 with
 | box h=>
   obtain ⟨ob,xs,g,en⟩:=h
   have ln:=en.length
   refine ⟨_,ob,xs,rfl,aI _ _ g,k _ H1 e1 λH2 sg=>⟨λi hi=>⟨by rw [ln]; simpa using hi,sg _ _ g⟩,λi hi=>⟨⟨by rw [ln]; simpa using hi,sg _ _ g⟩,λx H' ⟨eH,p,hp,ex⟩=>?_⟩⟩⟩
   subst eH ex
   refine ⟨aq.refl _,λM hM sM=>?_⟩
   have hi':i < m.length:=by simpa using hi
   obtain ⟨p',hp',ek⟩:=en.t9 i hi'
   rw [hp] at hp'
   cases hp'
   rw [List.getElem_map,<- ek]
   exact (en.key p (List.mem_of_getElem? hp)).mono sM
end
end Hy
namespace Ev
open PySem PySem.Spec PyProof.Rows L2
section
variable {X:Cx} {o e f g:Expr} {pos apos cpos:Pos} {td te tf tg:TE}
end
section
variable {X:Cx} {tg l:Expr} {tl:TE}
end
end Ev
namespace Hy
open PySem PySem.Spec PyProof.Rows L2
open Ev (D Den au ar)
section
variable {X:Cx} {C:Bool} {τ:List Sl} {o e f g a b:Expr} {pos apos cpos p p2:Pos} {z w v:Str} {k:Nat} {xs:List D}
end
end Hy
namespace Tx
open PySem
noncomputable def inj (c:Nat):List (List Nat)->List Nat
 | []=>[]
 | [a]=>a
 | a :: b :: r=>a++c :: inj c (b :: r)
noncomputable def cs (x:Str):List Nat:=x.cps.toList
noncomputable def ch (c:Nat):Str:=⟨#[c]⟩
end Tx
namespace Hx
open PySem PySem.Spec PyProof.Rows
noncomputable def Fly (old:Addr->Prop) (e C:Addr) (fl:Value) (h:Heap):Prop:=
 ∃ oe vs T oT ts,(¬ old e/\∀ b,old b->∃ u,h.get? b=some u)/\h.get? e=some oe/\(oe.cls=.ref C/\oe.dict=none)/\oe.data=.fields vs/\vs[2]?=some .none/\vs[1]?=some (.ref T)/\¬ old T/\T ≠ e/\h.get? T=some oT/\oT.data=.fields ts/\ts[3]?=some fl
structure Kp (old:Addr->Prop) (fs:List Addr) (h h':Heap):Prop where
 keep:∀ b o,old b->b ∉ fs->h.get? b=some o->h'.get? b=some o
 slot:∀ b o,old b->h.get? b=some o->∃ sl,h'.get? b=some { o with slots:=sl }
theorem tP (f:Array Value->Array Value) (o:Obj):(Obj.mapFields f o).dict=o.dict:=by
 obtain ⟨c,d,dt,sl⟩:=o
 cases dt <;> rfl
theorem Kp.trans {old:Addr->Prop} {fs:List Addr} {h h1 h2:Heap} (a:Kp old fs h h1) (b:Kp old fs h1 h2):Kp old fs h h2:=
 ⟨λx o q n e=>b.keep x o q n (a.keep x o q n e),λx o q e=>let ⟨_,e1⟩:=a.slot x o q e; let ⟨sl,e2⟩:=b.slot x _ q e1; ⟨sl,e2⟩⟩
theorem Kp.of {old:Addr->Prop} {fs:List Addr} {h h':Heap} (k:∀ b o,old b->h.get? b=some o->h'.get? b=some o):Kp old fs h h':=⟨λb o q _ e=>k b o q e,λb o q e=>⟨o.slots,k b o q e⟩⟩
section
variable {M:Model} {A:Around} {E:Value->Shared->Prop} {s:Shared}
theorem ll {old:Addr->Prop} {base:Heap} {env:Env} {outer:List Env} {L e C:Addr} {oe:Obj} {vs:Array Value} {head:Value} {more:Bool} {Q:Unit->Shared->Prop} (fr:A.frames=some (env :: outer)) (ff:s.heap.FunFrames base (env :: outer)) (fl:env.frame=some L)
   (he:s.heap.get? e=some oe) (hc:oe.cls=.ref C/\oe.dict=none) (hd:oe.data=.fields vs) (h1:1 < vs.size) (h2:vs[2]?=some .none) (l1:¬ old e/\∀ b,old b->∃ u,s.heap.get? b=some u)
   (k:∀ h',Kp old ((env :: outer).filterMap (·.frame)) s.heap h'->Fly old e C (rawInt L) h'->Q () { s with heap:=h' }) :
   wpAny M A (do let f <- frameOf env; let p <- entryPlaceOf L more; let t <- EntryCells.newEntry head f .none (rawInt L) .none p; setField (.ref e) 1 t) Q E s:=by
 have ne:e ∉ (env :: outer).filterMap (·.frame):=λm=>by
   obtain ⟨_,o,g,d⟩:=ff.mem m
   rw [he] at g; cases g
   exact d vs hd
 refine wpAny_bind (wpAny_frameOf_fun fr ff fl λg1 sl=>wpAny_bind (wpAny_entryPlaceOf λp hp=>?_))
 unfold EntryCells.newEntry newFields
 refine wpAny_bind (wpAny_newObj_type ?_ (hp.sizeOk5 _ _ _ _ _))
 have e1:g1.get? e=some oe:=(sl.2.1 e ne).trans he
 have lT:¬ old g1.objs.size:=λz=>by
   obtain ⟨u,g⟩:=l1.2 _ z
   have:=Heap.lt_size g
   rw [<- sl.1] at this
   exact Nat.lt_irrefl _ this
 generalize hT:({ cls:=.type "traceback",dict:=none,data:=.fields ([head,.ref L,.none,rawInt L,.none]++(if p.isEmpty then List.replicate 6 Value.none else p)).toArray }:Obj)=oT
 have e2:(g1.push oT).get? e=some oe:=Heap.get?_push_of_some oT e1
 refine wpAny_setField e2 hd h1 ?_
 have nT:g1.objs.size ≠ e:=Nat.ne_of_gt (Heap.lt_size e1)
 have d3:=Obj.data_mapFields hd (·.setIfInBounds 1 (Value.ref g1.objs.size))
 have ft:∀ b o,old b->g1.get? b=some o->((g1.push oT).update e (Obj.mapFields (·.setIfInBounds 1 (Value.ref g1.objs.size)))).get? b=some o:=λb o q g=>by
   rw [Heap.get?_update_other _ _ (show e ≠ b from λz=>l1.1 (by rw [z]; exact q))]
   exact Heap.get?_push_of_some oT g
 refine k _ ⟨λb o q n g=>ft b o q ((sl.2.1 b n).trans g),λb o q g=>?_⟩ ?_
 · obtain ⟨z,w⟩:=sl.2.2 b o g
   exact ⟨z,ft b _ q w⟩
 · refine ⟨_,_,g1.objs.size,oT,_,⟨l1.1,λb q=>?_⟩,Heap.get?_update_self _ e2 (Obj.isFreed_of_fields d3),⟨(Obj.cls_mapFields _ _).trans hc.1,(tP _ _).trans hc.2⟩,d3,?_,?_,lT,nT,?_,by rw [<- hT],?_⟩
   · obtain ⟨u,g⟩:=l1.2 b q
     obtain ⟨z,w⟩:=sl.2.2 b u g
     exact ⟨_,ft b _ q w⟩
   · rw [Array.getElem?_setIfInBounds_ne (by decide)]; exact h2
   · simp [h1]
   · rw [Heap.get?_update_other _ _ (Ne.symm nT)]
     exact Heap.get?_push_size g1 (by rw [<- hT]; rfl)
   · first | (simp; done) | (rcases hp with rfl | ⟨_,_,_,_,_,_,_,rfl⟩ <;> simp)
theorem pJ {old:Addr->Prop} {base:Heap} {env:Env} {outer:List Env} {L e C:Addr} {oe:Obj} {vs:Array Value} {Q:Unit->Shared->Prop} (fr:A.frames=some (env :: outer)) (ff:s.heap.FunFrames base (env :: outer)) (fl:env.frame=some L)
   (he:s.heap.get? e=some oe) (hc:oe.cls=.ref C/\oe.dict=none) (hd:oe.data=.fields vs) (h1:vs[1]?=some .none) (h2:vs[2]?=some .none) (l1:¬ old e/\∀ b,old b->∃ u,s.heap.get? b=some u)
   (k:∀ h',Kp old ((env :: outer).filterMap (·.frame)) s.heap h'->Fly old e C (rawInt L) h'->Q () { s with heap:=h' }):wpAny M A (noteFrame (.ref e) env) Q E s:=by
 unfold noteFrame
 simp only [fl]
 refine wpAny_bind (wpAny_field he hd h1 ?_)
 rw [if_neg (by decide)]
 exact ll fr ff fl he hc hd (Array.getElem?_eq_some_iff.mp h1).1 h2 l1 k
theorem kP {old:Addr->Prop} {base:Heap} {env:Env} {outer:List Env} {L e C:Addr} {Q:Unit->Shared->Prop} (fr:A.frames=some (env :: outer)) (ff:s.heap.FunFrames base (env :: outer)) (fl:env.frame=some L) (y:Fly old e C .none s.heap)
   (k:∀ h',Kp old ((env :: outer).filterMap (·.frame)) s.heap h'->Fly old e C (rawInt L) h'->Q () { s with heap:=h' }):wpAny M A (noteFrame (.ref e) env) Q E s:=by
 obtain ⟨oe,vs,T,oT,ts,l1,he,hc,hd,h2,h1,lT,nT,gT,dT,h3⟩:=y
 unfold noteFrame
 simp only [fl]
 refine wpAny_bind (wpAny_field he hd h1 ?_)
 rw [if_pos (by simp)]
 refine wpAny_bind (wpAny_field gT dT h3 ?_)
 rw [if_neg (by simp [rawInt])]
 refine wpAny_bind (wpAny_setField gT dT (Array.getElem?_eq_some_iff.mp h3).1 ?_)
 have oth:∀ b,b ≠ T->(s.heap.update T (Obj.mapFields (·.setIfInBounds 3 Value.none))).get? b=s.heap.get? b:=λb n=>Heap.get?_update_other _ _ (Ne.symm n)
 have kp:Kp old ((env :: outer).filterMap (·.frame)) s.heap (s.heap.update T (Obj.mapFields (·.setIfInBounds 3 Value.none))):=Kp.of λb o q g=>(oth b λz=>lT (z ▸ q)).trans g
 refine ll (base:=base) fr (ff.of_keeps λb o g d=>⟨o,(oth b λz=>?_).trans g,rfl⟩) fl ((oth e (Ne.symm nT)).trans he) hc hd (Array.getElem?_eq_some_iff.mp h1).1 h2 ⟨l1.1,λb q=>let ⟨u,g⟩:=l1.2 b q; ⟨u,(oth b λz=>lT (z ▸ q)).trans g⟩⟩ λh' a y'=>k h' (kp.trans a) y'
 rw [z,gT] at g; cases g
 exact d ts dT
theorem land {old:Addr->Prop} {fs:List Addr} {e C:Addr} {f:Value} {Q:Unit->Shared->Prop} (y:Fly old e C f s.heap) (k:∀ h',Kp old fs s.heap h'->Fly old e C .none h'->Q () { s with heap:=h' }):wpAny M A (setFlight (.ref e) none) Q E s:=by
 obtain ⟨oe,vs,T,oT,ts,l1,he,hc,hd,h2,h1,lT,nT,gT,dT,h3⟩:=y
 have z3:=(Array.getElem?_eq_some_iff.mp h3).1
 refine wpAny_setFlight_none he hd h1 gT dT z3 ?_
 have oth:∀ b,b ≠ T->(s.heap.update T (Obj.mapFields (·.setIfInBounds 3 Value.none))).get? b=s.heap.get? b:=λb n=>Heap.get?_update_other _ _ (Ne.symm n)
 refine k _ (Kp.of λb o q g=>(oth b λz=>lT (z ▸ q)).trans g) ?_
 exact ⟨oe,vs,T,_,_,⟨l1.1,λb q=>let ⟨u,g⟩:=l1.2 b q; ⟨u,(oth b λz=>lT (z ▸ q)).trans g⟩⟩,(oth e (Ne.symm nT)).trans he,hc,hd,h2,h1,lT,nT,Heap.get?_update_self _ gT (Obj.isFreed_of_fields (Obj.data_mapFields dT _)),Obj.data_mapFields dT _,by simp [z3]⟩
theorem nU {old:Addr->Prop} {base:Heap} {env:Env} {outer:List Env} {L e C:Addr} {oe:Obj} {vs:Array Value} {Q:Unit->Shared->Prop} (fr:A.frames=some (env :: outer)) (ff:s.heap.FunFrames base (env :: outer)) (fl:env.frame=some L)
   (he:s.heap.get? e=some oe) (hc:oe.cls=.ref C/\oe.dict=none) (hd:oe.data=.fields vs) (h1:vs[1]?=some .none) (h2:vs[2]?=some .none) (l1:¬ old e/\∀ b,old b->∃ u,s.heap.get? b=some u)
   (k:∀ h',Kp old ((env :: outer).filterMap (·.frame)) s.heap h'->Fly old e C .none h'->Q () { s with heap:=h' }):wpAny M A (leaving env (.ref e)) Q E s:=by
 unfold leaving
 refine wpAny_bind (pJ fr ff fl he hc hd h1 h2 l1 λh' a y=>?_)
 exact land (s:={ s with heap:=h' }) y λh'' b y'=>k h'' (a.trans b) y'
theorem o8 {old:Addr->Prop} {base:Heap} {env:Env} {outer:List Env} {L e C:Addr} {Q:Unit->Shared->Prop} (fr:A.frames=some (env :: outer)) (ff:s.heap.FunFrames base (env :: outer)) (fl:env.frame=some L) (y:Fly old e C .none s.heap)
   (k:∀ h',Kp old ((env :: outer).filterMap (·.frame)) s.heap h'->Fly old e C .none h'->Q () { s with heap:=h' }):wpAny M A (leaving env (.ref e)) Q E s:=by
 unfold leaving
 refine wpAny_bind (kP fr ff fl y λh' a y'=>?_)
 exact land (s:={ s with heap:=h' }) y' λh'' b y2=>k h'' (a.trans b) y2
theorem Fly.at {old:Addr->Prop} {e C:Addr} {f:Value} {h:Heap} (y:Fly old e C f h):∃ o vs,h.get? e=some o/\(o.cls=.ref C/\o.dict=none)/\o.data=.fields vs/\vs[2]?=some .none/\¬ old e:=by
 obtain ⟨oe,vs,T,oT,ts,l1,he,hc,hd,h2,_⟩:=y
 exact ⟨oe,vs,he,hc,hd,h2,l1.1⟩
end
end Hx
namespace Hx
open PySem PySem.Spec PySem.Calls PyProof.Rows PySem.W
structure dW (K:Frag) (D:Addr):Prop where
 cls:(clsIn K D).isSome=true
 ga:findIn K (.ref D) "__getattribute__" = some (some (.builtin "BaseException.__getattribute__"))
 gt:findIn K (.ref D) "__getattr__" = some none
 at_:findIn K (.ref D) "__class__" = some (some (.builtin "object.__class__"))
 get:specialIn K (.builtin "object.__class__") "__get__" = some (some (.builtin "getset_descriptor.__get__"))
 tk:takesIn K (.builtin "object.__class__")=some true
 obj:mroIn K D (.type "object")=some true
 exc:mroIn K D (.type "BaseException")=some true
section
variable {prog:Program} {w:World} {A:Around} {E:Value->Shared->Prop} {s:Shared} {K:Frag} {x D:Addr} {ox:Obj}
theorem vO:builtinKind "BaseException.__getattribute__" = some .slot:=by decide +kernel
theorem t8:splitId "BaseException.__getattribute__" = some ("BaseException","__getattribute__"):=by decide +kernel
theorem nk (c:dW K D):findObj K D none "__class__" = some (.bind (.builtin "getset_descriptor.__get__") (.builtin "object.__class__")):=by
 obtain ⟨cd,h⟩:=Option.isSome_iff_exists.mp c.cls
 unfold findObj
 rw [h,Option.bind_some,c.at_,Option.bind_some]
 simp [c.get,c.tk]
theorem tL {tk:Tok} {R:Result->Shared->Prop} (c:dW K D) (X:K.In s.heap) (I:InstAt s.heap x ox D none) (q:R (.ok (.ret (.ref D))) s) :
   wpAny (model prog w) A (Builtin.«object.__getattribute__» ⟨[.ref x,.str "__class__" tk],[]⟩) (λfin s'=>match fin with | .done f=>R (.ok f) s' | .again _=>False) E s:=by
 have lt:=I.type (M:=model prog w)
 have L3:=looks_find (M:=model prog w) X I (nk c)
 unfold Builtin.«object.__getattribute__»
 refine wpAny_bind (wpAny_pure ?_)
 dsimp only
 refine wpAny_bind (wpAny_pure ?_)
 refine wpAny_bind (lt.here (wpAny_bind (L3.here ?_)))
 dsimp only
 show wpAny _ _ (do let v <- holding [.builtin "object.__class__"] (call (.builtin "getset_descriptor.__get__") [.builtin "object.__class__",.ref x,.ref D]); ret v) _ _ _
 refine wpAny_bind (wpAny_holding (wpAny_call (class_get X I c.obj ?_)))
 exact wpAny_pure q
theorem vb (a b:Value):argsOk "BaseException.__getattribute__" ⟨a :: [b],[]⟩:=PySem.F.args_bexc_ga a b
theorem t6 {tk:Tok} {Q:Unit->Shared->Prop} (L4:Looks (model prog w) s.heap (isInstance (.ref x) (.type "BaseException")) true) (q:Q () s):wpAny (model prog w) A (checkBuiltinCall "BaseException.__getattribute__" ⟨Value.ref x :: [.str "__class__" tk],[]⟩) Q E s:=
 check_slot (M:=model prog w) (A:=A) (E:=E) (s:=s) (i:="BaseException.__getattribute__") (owner:="BaseException") (n:="__getattribute__") (self:=.ref x) (rest:=[.str "__class__" tk]) (kw:=[]) (Q:=Q) vO t8 L4 (vb _ _) q
theorem vt {tk:Tok} {R:Result->Shared->Prop} (c:dW K D) (X:K.In s.heap) (I:InstAt s.heap x ox D none) (q:R (.ok (.ret (.ref D))) s) :
   codeAny (model prog w) A (.call (.builtin "BaseException.__getattribute__") ⟨[.ref x,.str "__class__" tk],[]⟩) R s:=by
 refine codeAny_call_builtin PySem.F.attr_ValueError.ga.plain PySem.F.entry_bexc_ga (t6 ((I.type (M:=model prog w)).andThen (looks_mroIn X c.exc)) ?_)
 refine wpAny_mono (tL (R:=R) (E:=λe s'=>R (.error e) s') c X I q) (λfin s' z=>?_) λ_ _ z=>z
 cases fin with
 | done f=>exact z
 | again c'=>exact z.elim
theorem rX {Q:Option Value->Shared->Prop} (c:dW K D) (X:K.In s.heap) (I:InstAt s.heap x ox D none) (q:Q (some (.ref D)) { s with toks:=s.toks + 1 }):wpAny (model prog w) A (getAttr? (.ref x) "__class__") Q E s:=by
 obtain ⟨hh,g,d,t,os⟩:=s
 have lt:=I.type (M:=model prog w)
 have lg:=looks_findIn (M:=model prog w) X c.ga; have lh:=looks_findIn (M:=model prog w) X c.gt
 have L3:=looks_find (M:=model prog w) X I (nk c)
 have L4:Looks (model prog w) hh (isInstance (.ref x) (.type "BaseException")) true:=lt.andThen (looks_mroIn X c.exc)
 unfold getAttr? getAttrBy? getAttrBy; refine wpAny_bind (wpAny_mkText (wpAny_bind (wpAny_attempt (wpAny_holding (wpAny_bind (lt.at (wpAny_bind (lg.at ?_))))))))
 dsimp only
 have no:(Value.builtin "BaseException.__getattribute__" == Value.builtin "object.__getattribute__")=false:=by decide +kernel
 rw [no,Bool.and_false,if_neg Bool.false_ne_true]
 unfold getAttrByItsOwn hookBefore
 rw [if_pos (show onTheHeap (Value.ref D)=true from rfl)]
 refine wpAny_bind (lh.at (wpAny_bind (wpAny_attempt (wpAny_holding ?_))))
 unfold callGetattribute boundAndCalled
 rw [if_neg (show ¬ ((false && onTheHeap (Value.builtin "BaseException.__getattribute__"))=true) by decide),PySem.F.attr_ValueError.ga.bind]
 refine wpAny_bind (wpAny_pure ?_)
 show wpAny (model prog w) A (call (.builtin "BaseException.__getattribute__") [.ref x,.str "__class__" t]) _ _ _
 refine wpAny_call (vt c X I ?_)
 exact handed_on rfl (wpAny_pure q)
theorem sk (c:dW K D):KitX K (.ref x) (.ref D) (λh=>∃ ox,InstAt h x ox D none) where
 ty:=λ_ _ _ ⟨_,I⟩=>I.type
 it:=λ_ _ X _=>by
   obtain ⟨cd,h⟩:=Option.isSome_iff_exists.mp c.cls
   unfold clsIn at h
   split at h
   · rename_i ho
     intro B R F s1 kp z
     unfold isType loadHead; exact wpAny_bind (wpAny_loadPart (kp _ _ (X _ _ ho)) (wpAny_pure z))
   · cases h
 ne:=λg t od xs m ws X e=>by
   obtain ⟨cd,h⟩:=Option.isSome_iff_exists.mp c.cls
   refine Bool.eq_false_iff.mpr λq=>(?_:False)
   obtain rfl:D=t:=Value.ref.inj (beq_iff_eq.mp q)
   unfold clsIn at h
   split at h
   · rename_i ho
     cases (X _ _ ho).symm.trans e
   · cases h
 ca:=λX ⟨_,I⟩ k=>rX c X I k
end
end Hx
namespace Hx
open PySem PySem.Spec PySem.Calls PyProof.Rows PySem.W L2
noncomputable def nsO (o:Obj):Bool:=match o.data with | .dict es _=>es.toList.all (λe=>match e.key with | .str _ _=>true | _=>false) | _=>false
noncomputable abbrev bmV:List Value:=[.type "ValueError",.type "Exception",.type "BaseException",.type "object"]
structure xx (K:Frag) (C S:Addr):Prop where
 obj:∃ nm q N bs hdct sn sub ab col dd k0 k1 k2 k3 k5 oN,K.lookup C=some (excClassObj nm q C N bs (.ref S :: bmV) hdct sn sub ab col dd k0 k1 k2 k3 k5 "ValueError.__new__")/\K.lookup N=some oN/\nsO oN=true/\nsIn K N "__init__" = some none
 sup:∃ c0 dd cd sl oN,K.lookup S=some ⟨c0,dd,.cls cd,sl⟩/\K.lookup cd.ns=some oN/\nsO oN=true/\nsIn K cd.ns "__init__" = some none
 at_:dW K C
theorem zI {K:Frag} {h:Heap} {N:Addr} {o:Obj} {x:Str} (X:K.In h) (e:K.lookup N=some o) (n:nsO o=true) (i:nsIn K N x=some none):∃ m,h.Ns N m/\m x=none:=by
 have e':=X _ _ e
 have q:h.isNs N=true:=by
   unfold Heap.isNs
   rw [e']
   obtain ⟨c,d,dt,sl⟩:=o
   cases dt with
   | dict es ep=>
     show es.all _=true
     rw [<- Array.all_toList]
     exact n
   | _=>cases n
 refine ⟨_,.of_isNs q,?_⟩
 unfold nsIn at i
 rw [e] at i
 unfold Heap.nsMap
 rw [e']
 obtain ⟨c,d,dt,sl⟩:=o
 cases dt with
 | dict es ep=>
   dsimp only at i ⊢
   unfold nsFind findBy
   rw [<- Array.find?_toList]
   split at i
   · cases i
   · rename_i z
     rw [z]; rfl
 | _=>rfl
section
variable {X:Cx} {x:Str} {C S:Addr} {np cpos pos:Pos} {e:Expr} {es:List Expr} {t:TA}
theorem ur (hc:X.calm=true) (hg:Gl X x) (hm:X.mg x=some (.ref C)) (O:xx X.K C S) (ha:PA X (e :: es) t) (hdb:(x == ("__debug__" : Str))=false)
   (he:starEach (e :: es) X.env=(false,eval e X.env) :: starEach es X.env) (hpl:(backTo cpos (starEach es X.env)).any (·.1)=false) :
   PS X (.Raise (some (.Call (.Name x np) (e :: es) [] cpos)) none pos) (λ_ σ H=>t σ H λvs H1=>vs.length<=sizeLine/\∀ pins s us,Inv X pins σ H1 s->∀ h' a,Heap.MadeExcOf s.heap h' a (.ref C) us->X.xe (.ref a) { s with heap:=h' }):=by
 intro pins s σ H D I q
 obtain ⟨nm,qn,N,bs,hdct,sn,sub,ab,col,dd,k0,k1,k2,k3,k5,oN,hC,hN,hn,hi⟩:=O.obj
 obtain ⟨c0,dd',cd,sl,oS,hS,hNS,hnS,hiS⟩:=O.sup
 obtain ⟨mN,nN,iN⟩:=zI I.mod.kin hN hn hi
 obtain ⟨mS,nS,iS⟩:=zI I.mod.kin hNS hnS hiS
 refine wpAny_Raise_call_subU (C:=C) (nm:=nm) (q:=qn) (N:=N) (bs:=bs) (bm:=.ref S :: bmV) (hdct:=hdct) (sn:=sn) (sub:=sub) (ab:=ab) (col:=col) (dd:=dd) (k0:=k0) (k1:=k1) (k2:=k2) (k3:=k3) (k5:=k5) (mN:=mN) PySem.F.excBase_ValueError (by decide) PySem.F.excBase_ValueError
   (by rw [List.contains_cons]; rw [show bmV.contains (.type "BaseException")=true by decide]; rw [Bool.or_true]) (I.ok.hd hc) (by rw [he]; exact hpl) iN (gJ I hg hm ⟨rfl,?_⟩ hdb)
 rw [he]
 refine Calls.evalArgs_plain ?_
 have q':=ha cpos pins s σ H _ I q
 rw [he] at q'
 refine thn q' λus s1 ⟨vs,H1,I1,r1,l1,q1⟩=>?_
 exact ⟨rfl,by rw [<- r1.length]; exact l1,I1.kIn _ _ hC,nN.keeps I1.bk,.own (I1.kIn _ _ hS) (nS.keeps I1.bk) iS .base,λh' a m=>q1 pins s1 us I1 h' a m⟩
end
section
variable {fs fs' ch:List Addr} {H H1:Hp} {h h1 h2:Heap} {old:Addr->Prop} {P:Program} {w:World} {a:Addr}
theorem pW (u:Un fs ch H H1 h h1) (k:Kp old fs' h1 h2) (ho:∀ b o,h.get? b=some o->old b) (hf:∀ b o,h.get? b=some o->b ∈ fs'->b ∈ fs):Un fs ch H H1 h h2 where
 keep:=λb o e n nf nx=>k.keep b o (ho b o e) (λz=>nf (hf b o e z)) (u.keep b o e n nf nx)
 slot:=λb o e n f nx=>let ⟨_,z⟩:=u.slot b o e n f nx; let ⟨sl,z2⟩:=k.slot b _ (ho b o e) z; ⟨sl,z2⟩
 free:=u.free
 there:=λb o e nx=>let ⟨o',z⟩:=u.there b o e nx; let ⟨_,z2⟩:=k.slot b o' (ho b o e) z; ⟨_,z2⟩
 tups:=u.tups
 frzs:=u.frzs
 tbls:=u.tbls
theorem lM (x:HOk P w H h1) (k:Kp old fs h1 h2) (q:∀ b o,H b=some o->old b/\b ∉ fs):HOk P w H h2:=λb o e=>by
 refine (x b o e).ft (λd v hd z=>?_) (λ_ z=>z) λ_ _ z=>z
 rcases hd with rfl | hd
 · exact k.keep _ v (q _ _ e).1 (q _ _ e).2 z
 · exact k.keep d v (q _ _ hd).1 (q _ _ hd).2 z
theorem xQ {o:Obj} {x:HO} (u:Un fs [] H H1 h h2) (ha:h.get? a=none) (hn:H1 a=none):Un fs [] H (upd H1 a (.frz o x)) h h2 where
 keep:=u.keep
 slot:=u.slot
 free:=λb ob e n nx=>by
   rw [aC (λz=>by rw [z,ha] at e; cases e)]
   exact u.free b ob e n nx
 there:=u.there
 tups:=λb xs e=>by have z:=u.tups b xs e; rw [aC (aD z hn)]; exact z
 frzs:=λb ob v e=>by have z:=u.frzs b ob v e; rw [aC (aD z hn)]; exact z
 tbls:=λb ps e=>by obtain ⟨m,z⟩:=u.tbls b ps e; exact ⟨m,by rw [aC (aD z hn)]; exact z⟩
theorem uN {o:Obj} (x:HOk P w H h) (hn:H a=none) (e:h.get? a=some o):HOk P w (upd H a (.frz o (.ext λ_=>True))) h:=λb ob z=>by
 by_cases hb:b=a
 · subst hb
   rw [aL] at z; cases z
   exact ⟨e,trivial,⟨o,e⟩,λ_ _ _ _=>trivial⟩
 · rw [aC hb] at z
   exact (x b ob z).ft (λ_ _ _ q=>q) (λc q=>by rw [aC (aD q hn)]; exact q) λc xs q=>by rw [aC (aD q hn)]; exact q
end
theorem there {P:Program} {w:World} {H:Hp} {h:Heap} {a:Addr} {o:HO} (x:bZ P w H h a o):∃ u,h.get? a=some u:=by
 cases o with
 | lst xs=>obtain ⟨_,_,_,_,e⟩:=x; exact ⟨_,e⟩
 | tup xs=>obtain ⟨_,_,_,o,e,_⟩:=x; exact ⟨_,e⟩
 | dK kvs=>obtain ⟨_,_,_,_,o,_,_,e,_⟩:=x; exact ⟨_,e⟩
 | dT kvs=>obtain ⟨_,_,_,_,o,_,_,e,_⟩:=x; exact ⟨_,e⟩
 | set S n=>obtain ⟨o,_,_,_,e,_⟩:=x; exact ⟨_,e⟩
 | ins C dx fs=>obtain ⟨_,_,_,e,_⟩:=x; exact ⟨_,e⟩
 | own y=>exact x
 | xd fs=>obtain ⟨_,⟨o,_,_,e,_⟩,_⟩:=x; exact ⟨_,e⟩
 | met f y=>exact ⟨_,x⟩
 | rng lo hi=>obtain ⟨_,_,_,e⟩:=x; exact ⟨_,e⟩
 | frz o u=>exact ⟨_,x.1⟩
 | tbl ps=>exact ⟨_,x⟩
 | ext φ=>exact x.2.1
noncomputable def CXe (P:Program) (w:World) (cl:Nat->Addr):CXT:=λouter H s E e s'=>∃ a c H',∃ old:Addr->Prop,e=.ref a/\s'.os=s.os/\AllBare s'.gens/\Un (frs outer) [] H H' s.heap s'.heap/\HOk P w H' s'.heap/\Fly old a (cl c) .none s'.heap /\
 (∀ b o,s.heap.get? b=some o->old b)/\(∀ b o,H' b=some o->old b)/\E (.ref (cl c)) none H'
section
variable {P:Program} {w:World} {K:Frag} {mg:Str->Option Value} {base:Heap} {N:List Str} {qual:Str} {scope:Scope} {f:Addr} {cd:Value} {A:Around} {outer:List Env} {s0:Shared} {H0:Hp} {E:XK} {cl:Nat->Addr}
noncomputable abbrev cxE (P:Program) (w:World) (K:Frag) (mg:Str->Option Value) (base:Heap) (N:List Str) (qual:Str) (scope:Scope) (f:Addr) (cd:Value) (A:Around) (outer:List Env) (s0:Shared) (H0:Hp) (E:XK) (cl:Nat->Addr):Cx:=jx (CXe P w cl) P w K mg base N qual scope f cd A outer s0 H0 E
theorem oy {pins:List (Addr × Obj)} {σ:L2.St} {H:Hp} {s:Shared} {c:Nat} (I:Inv (cxE P w K mg base N qual scope f cd A outer s0 H0 E cl) pins σ H s) (q:E (.ref (cl c)) none H) {h':Heap} {a:Addr} {us:List Value} (m:Heap.MadeExcOf s.heap h' a (.ref (cl c)) us) :
   (cxE P w K mg base N qual scope f cd A outer s0 H0 E cl).xe (.ref a) { s with heap:=h' }:=by
 obtain ⟨t,he,_,_⟩:=m.there
 have kp:∀ b o,s.heap.get? b=some o->h'.get? b=some o:=m.keeps
 refine nU (old:=λb=>∃ o,s.heap.get? b=some o) (base:=base) (s:={ s with heap:=h' }) I.ok.frames (I.stack.of_keeps λb o g _=>⟨o,kp b o g,rfl⟩) rfl he ⟨rfl,rfl⟩ rfl rfl rfl ⟨λ⟨o,z⟩=>(by rw [m.new] at z; cases z),λb ⟨o,z⟩=>⟨o,kp b o z⟩⟩ λh2 k y=>?_
 have k0:Kp (λb=>∃ o,s.heap.get? b=some o) (frs (cxE P w K mg base N qual scope f cd A outer s0 H0 E cl).stack) s.heap h2:=(Kp.of λb o _ z=>kp b o z).trans k
 refine ⟨a,c,H,_,rfl,I.os,I.bare,pW I.base k0 (λb o e=>I.base.there b o e (by intro z; exact absurd (show b ∈ ([]:List Addr) from z) (by simp))) (λb o e z=>?_),lM I.hok k0 λb o e=>⟨?_,λz=>?_⟩,y,λb o e=>I.base.there b o e (by intro z; exact absurd (show b ∈ ([]:List Addr) from z) (by simp)),λb o e=>?_,q⟩
 · rcases List.mem_cons.mp (I.jo b z) with z | z
   · exact absurd (Heap.lt_size e) (by rw [z]; exact Nat.lt_irrefl _)
   · exact z
 · exact there (I.hok b o e)
 · rw [I.gX b z] at e; cases e
 · exact there (I.hok b o e)
theorem rl {Ex:Nat->Hp->Prop} (hE:∀ c H,Ex c H->E (.ref (cl c)) none H):Passes (CXe P w cl) (cxE P w K mg base N qual scope f cd A outer s0 H0 E cl) (λC _ H'=>∃ c,C=.ref (cl c)/\Ex c H'):=by
 intro pins σ H s e s' I ⟨a,c,H',old,he,os,bare,un,hok,y,o1,o2,c',ec,q⟩
 subst he
 have ec:cl c=cl c':=Value.ref.inj ec
 have I':Inv (cxE P w K mg base N qual scope f cd A outer s0 H0 E cl) pins σ H' s':=I.kW os un hok bare λb z=>absurd z (by simp)
 have oth:∀ b o,s0.heap.get? b=some o->old b:=λb o e=>by
   obtain ⟨u,g⟩:=I.base.there b o e (by intro z; exact absurd (show b ∈ ([]:List Addr) from z) (by simp))
   exact o1 b u g
 refine o8 (base:=base) I'.ok.frames I'.stack rfl y λh2 k y2=>?_
 refine ⟨a,c',H',old,rfl,I'.os,I'.bare,pW I'.base k oth (λb o e z=>?_),lM I'.hok k λb o e=>⟨o2 b o e,λz=>?_⟩,by rw [<- ec]; exact y2,oth,o2,hE c' H' q⟩
 · rcases List.mem_cons.mp (I'.jo b z) with z | z
   · exact absurd (Heap.lt_size e) (by rw [z]; exact Nat.lt_irrefl _)
   · exact z
 · have:=I'.gX b z
   rw [this] at e; cases e
end
noncomputable abbrev XH (X:Cx) (a:Addr):Cx:={ X with A:=X.A.mark (some (.ref a)),calm:=false,xe:=λ_ _=>False }
section
variable {X:Cx} {pins:List (Addr × Obj)} {σ:L2.St} {H:Hp} {s:Shared} {a:Addr}
theorem uU (ok:X.Ok):(XH X a).Ok:=⟨ok.mod,ok.kind,ok.glob,ok.blt,ok.above,ok.inj,ok.has,ok.cab,(λz=>nomatch z),ok.frames,ok.stk,ok.exf,ok.bs,ok.bsz,ok.noex,ok.exfs,ok.iO,ok.frf⟩
theorem oj (I:Inv X pins σ H s):Inv (XH X a) pins σ H s:=⟨uU I.ok,I.os,I.bare,I.base,I.loc,I.cell,I.free,I.freeC,I.pin,I.hok,I.len⟩
theorem pb (ok:X.Ok) (I:Inv (XH X a) pins σ H s):Inv X pins σ H s:=⟨ok,I.os,I.bare,I.base,I.loc,I.cell,I.free,I.freeC,I.pin,I.hok,I.len⟩
noncomputable abbrev XP (X:Cx) (pins:List (Addr × Obj)) (E:Value->Shared->Prop):Cx:={ X with pn:=X.pn++pins,xe:=E }
theorem Au {E:Value->Shared->Prop} (ok:X.Ok):(XP X pins E).Ok:=⟨ok.mod,ok.kind,ok.glob,ok.blt,ok.above,ok.inj,ok.has,ok.cab,ok.hd,ok.frames,ok.stk,ok.exf,ok.bs,ok.bsz,ok.noex,ok.exfs,ok.iO,ok.frf⟩
theorem xf {E:Value->Shared->Prop} (I:Inv X pins σ H s):Inv (XP X pins E) [] σ H s:=⟨Au I.ok,I.os,I.bare,I.base,I.loc,I.cell,I.free,I.freeC,λp hp=>I.pin p (by simpa using hp),I.hok,I.len⟩
theorem fF {E:Value->Shared->Prop} {pl:List (Addr × Obj)} (ok:X.Ok) (I:Inv (XP X pins E) pl σ H s):Inv X pins σ H s:=⟨ok,I.os,I.bare,I.base,I.loc,I.cell,I.free,I.freeC,λp hp=>I.pin p (List.mem_append_left _ hp),I.hok,I.len⟩
theorem vz {E:Value->Shared->Prop} {D:Ends} {f:Flow} (ok:X.Ok) (h:SP (XP X pins E) [] D f s):SP X pins D f s:=by
 cases f with
 | next=>obtain ⟨σ',H',I,q⟩:=h; exact ⟨σ',H',fF ok I,q⟩
 | brk=>obtain ⟨σ',H',I,q⟩:=h; exact ⟨σ',H',fF ok I,q⟩
 | cont=>obtain ⟨σ',H',I,q⟩:=h; exact ⟨σ',H',fF ok I,q⟩
 | ret u=>obtain ⟨v,σ',H',I,r,q⟩:=h; exact ⟨v,σ',H',fF ok I,r,q⟩
theorem yy {E:Value->Shared->Prop} {M:Model} {A:Around} {i:Nat} {n:Str} {v:V} {Q:Unit->Shared->Prop} (I:Inv X pins σ H s) (hN:X.N.Nodup) (hi:X.N[i]?=some n) (hn:X.env.scope.names.lookup n=some .local) (hv:σ[i]?=some (some v))
   (k:∀ s',Inv X pins (σ.set i none) H s'->Q () s'):wpAny M A (unbindName X.env n) Q E s:=by
 obtain ⟨m,ns,look⟩:=id I.loc
 obtain ⟨u,_,lu⟩:=look i n v hi hv (.inl hn)
 have mu:m n=some u:=by
   rcases lu with z | ⟨z | z,_⟩
   · exact z.2
   · have z:X.env.scope.names.lookup n=some .cell:=z
     rw [hn] at z; cases z
   · have z:X.env.scope.names.lookup n=some .free:=z
     rw [hn] at z; cases z
 have hcls:(X.env.scope.kind == .class || (X.env.scope.kind == .module && X.env.locals != X.env.globals))=false:=by rw [I.ok.kind]; rfl
 refine wpAny_unbindName_local hn ns mu hcls λh' x ns' sb=>?_
 obtain ⟨oL,_,_,gL,_⟩:=id ns
 have far:∀ b o,X.s₀.heap.get? b=some o->h'.get? b=s.heap.get? b:=λb o e=>sb.2 b (Nat.ne_of_lt (Nat.lt_of_lt_of_le (Heap.lt_size e) I.ok.above))
 refine k { s with heap:=h' } ⟨I.ok,I.os,I.bare,⟨λb o e n0 nf nx=>(far b o e).trans (I.base.keep b o e n0 nf nx),λb o e n0 f nx=>?_,I.base.free,λb o e nx=>?_,I.base.tups,I.base.frzs,I.base.tbls⟩,⟨_,ns',λj y w e1 e2 e3=>?_⟩,λy c e=>?_,I.free,I.freeC,λp hp=>?_,λb ob e=>?_,by simpa using I.len⟩
 · obtain ⟨sl,z⟩:=I.base.slot b o e n0 f nx
   exact ⟨sl,(far b o e).trans z⟩
 · obtain ⟨o',z⟩:=I.base.there b o e nx
   exact ⟨o',(far b o e).trans z⟩
 · have hj:j ≠ i:=λz=>by
     subst z
     rw [List.getElem?_set_self (by rw [I.len]; exact (List.getElem?_eq_some_iff.mp hi).1)] at e2
     cases e2
   rw [List.getElem?_set_ne (Ne.symm hj)] at e2
   obtain ⟨u',r',q⟩:=look j y w e1 e2 e3
   refine ⟨u',r',?_⟩
   have ne:y ≠ n:=λe=>hj (jA hN e1 (e ▸ hi))
   rcases q with ⟨z,e⟩ | ⟨z,c,e,g⟩
   · exact .inl ⟨z,by simp [ne,e]⟩
   · exact .inr ⟨z,c,e,g.sameBut sb (I.cne y c e)⟩
 · obtain ⟨w,z⟩:=I.cell y c e
   exact ⟨w,z.sameBut sb (I.cne y c e)⟩
 · obtain ⟨e,n0,ne,nf,d⟩:=I.pin p hp
   exact ⟨(sb.2 p.1 ne).trans e,n0,ne,nf,d⟩
 · refine (I.hok b ob e).ft (λc w hc q=>(sb.2 c ?_).trans q) (λ_ q=>q) λ_ _ q=>q
   rcases hc with rfl | hc
   · exact aD e I.free
   · exact aD hc I.free
end
noncomputable def sZ (o:Obj) (C:Addr):Prop:=(o.cls=.ref C/\o.dict=none)/\∃ vs,o.data=.fields vs/\vs[2]?=some .none
noncomputable abbrev rm (o:Obj):HO:=.frz o (.ext λ_=>True)
section
variable {X:Cx} {cl:Nat->Addr} {ks:List Nat} {n sm:Str} {i:Nat} {S:Addr} {ret:Expr} {psm pr ph pos:Pos} {body:List Stmt} {tb:(Nat->Hp->Prop)->TS} {tr:Addr->Obj->TE}
noncomputable def ExH (ks:List Nat) (cl:Nat->Addr) (i:Nat) (tr:Addr->Obj->TE) (D:Ends):Nat->Hp->Prop:=λc H=>c ∈ ks/\∀ (σ:L2.St) a o,i < σ.length->H a=none->sZ o (cl c)->tr a o (σ.set i (some (.ref a))) (upd H a (rm o)) D.rt
theorem yH (hst:X.stack=X.env :: X.outer/\X.env.frame=some X.env.locals) (nd:X.N.Nodup) (hi:X.N[i]?=some n) (hn:X.env.scope.names.lookup n=some .local) (hgS:Gl X sm) (hmS:X.mg sm=some (.ref S)) (hdb:(sm == ("__debug__" : Str))=false)
   (hx:∀ c ∈ ks,exmOne X.K (.ref (cl c)) (.ref S)=some true) (hr:∀ a o,PE (XH X a) ret (tr a o)) {pins:List (Addr × Obj)} {σ:L2.St} {H:Hp} {s s':Shared} {e:Value} {D:Ends} (I:Inv X pins σ H s)
   (h:CXe X.prog X.w cl X.stack H s (λC _ H'=>∃ c,C=.ref (cl c)/\ExH ks cl i tr D c H') e s') :
   wpAny (model X.prog X.w) X.A (noteFrame e X.env) (λ_ s2=>wpAny (model X.prog X.w) X.A (setFlight e none) (λ_ s3=>wpAny (model X.prog X.w) X.A (handleBy e X.env [.ExceptHandler (some (.Name sm psm)) (some n) [.Return (some ret) pr] ph]) (SP X pins D) X.xe s3) X.xe s2) X.xe s':=by
 obtain ⟨a,c0,H2,old,rfl,os,bare,un,hok,y,o1,o2,c,ec,hc,q⟩:=h
 have ec:cl c0=cl c:=Value.ref.inj ec
 rw [ec] at y
 have I':Inv X pins σ H2 s':=I.kW os un hok bare λb z=>absurd z (by simp)
 have fr:X.A.frames=some (X.env :: X.outer):=by rw [<- hst.1]; exact I.ok.frames
 have ff:s'.heap.FunFrames X.base (X.env :: X.outer):=by rw [<- hst.1]; exact I'.stack
 have efs:(X.env :: X.outer).filterMap (·.frame)=frs X.stack:=by rw [hst.1]; rfl
 have tk:∀ b o,H2 b=some o->old b/\b ∉ frs X.stack:=λb o e=>⟨o2 b o e,λz=>by rw [I'.gX b z] at e; cases e⟩
 have na:s.heap.get? a=none:=by
   cases g:s.heap.get? a with
   | none=>rfl
   | some o=>exact absurd (o1 a o g) y.at.choose_spec.choose_spec.2.2.2.2
 have Ha:H2 a=none:=by
   cases g:H2 a with
   | none=>rfl
   | some o=>exact absurd (o2 a o g) y.at.choose_spec.choose_spec.2.2.2.2
 have at_:∀ {h4:Heap},Kp old (frs X.stack) s'.heap h4->Inv X pins σ H2 { s' with heap:=h4 }:=λ{h4} k=>I.kW (s':={ s' with heap:=h4 }) os (pW un k o1 λ_ _ _ z=>z) (lM hok k tk) bare λb z=>absurd z (by simp)
 refine kP fr ff hst.2 y λh3 k3 y3=>?_
 rw [efs] at k3
 refine land (s:={ s' with heap:=h3 }) (fs:=frs X.stack) y3 λh4 k4 y4=>?_
 have k4:=k3.trans k4
 have I4:=at_ k4
 have no:∀ {α:Type} {t:Sem α} {Q:α->Shared->Prop} {A:Around} {s:Shared} {E:Value->Shared->Prop},wpAny (model X.prog X.w) A t Q (λ_ _=>False) s->wpAny (model X.prog X.w) A t Q E s:=λh=>wpAny_mono h (λ_ _ q=>q) λ_ _ q=>q.elim
 refine wpAny_handleBy_cons (codeAny_handlers_test (no (gJ (X:=XH X a) (oj I4) hgS hmS ?_ hdb))) (by intro z; cases z)
 obtain ⟨oe,vs,ge,hce,hde,h2e,_⟩:=y4.at
 have LT:Looks (model X.prog X.w) h4 (typeOf (.ref a)) (.ref (cl c)):=hce.1 ▸ (Looks.ld ge).andThen .now
 refine (exm_one I4.kIn LT (hx c hc)).here ?_
 refine codeAny_handlers_suite_as (land (s:={ s' with heap:=h4 }) (fs:=frs X.stack) y4 λh5 k5 y5=>?_)
 obtain ⟨o5,vs5,g5,hc5,hd5,h25,_⟩:=y5.at
 have k5:=k4.trans k5
 have I5:Inv X pins σ (upd H2 a (rm o5)) { s' with heap:=h5 }:=I.kW (s':={ s' with heap:=h5 }) os (xQ (pW un k5 o1 λ_ _ _ z=>z) na Ha) (uN (lM hok k5 tk) Ha g5) bare λb z=>absurd z (by simp)
 refine hR (X:=XH X a) (oj I5) nd hi (.inl hn) (v:=.ref a) rfl (λs6 I6=>?_) (.inr hn)
 refine no (thn (vW (lG (hr a o5)) pins s6 _ _ { nx:=λ_ _=>False,rt:=D.rt } I6 (q σ a o5 (by rw [I.len]; exact (List.getElem?_eq_some_iff.mp hi).1) Ha ⟨hc5,vs5,hd5,h25⟩)) λf s7 q7=>?_)
 cases f with
 | next=>obtain ⟨_,_,_,z⟩:=q7; exact z.elim
 | brk=>obtain ⟨_,_,_,z⟩:=q7; exact z.elim
 | cont=>obtain ⟨_,_,_,z⟩:=q7; exact z.elim
 | ret u=>
   obtain ⟨v,σ7,H7,I7,r7,z7⟩:=q7
   have I7:=pb I.ok I7
   refine wpAny_bind (wpAny_bindName (hR I7 nd hi (.inl hn) (v:=.non) rfl (λs8 I8=>?_) (.inr hn)))
   unfold unbindBehindTheSuite
   refine wpAny_onRaise (yy I8 nd hi hn (v:=.non) (List.getElem?_set_self (by rw [I7.len]; exact (List.getElem?_eq_some_iff.mp hi).1)) λs9 I9=>?_)
   exact ⟨v,_,H7,I9,r7,z7⟩
theorem tG (hst:X.stack=X.env :: X.outer/\X.env.frame=some X.env.locals) (nd:X.N.Nodup) (hi:X.N[i]?=some n) (hn:X.env.scope.names.lookup n=some .local) (hgS:Gl X sm) (hmS:X.mg sm=some (.ref S)) (hdb:(sm == ("__debug__" : Str))=false)
   (hx:∀ c ∈ ks,exmOne X.K (.ref (cl c)) (.ref S)=some true) (hr:∀ a o,PE (XH X a) ret (tr a o))
   (hb:∀ (Ex:Nat->Hp->Prop) (pins:List (Addr × Obj)) (E:Value->Shared->Prop),Passes (CXe X.prog X.w cl) (XP X pins E) (λC _ H'=>∃ c,C=.ref (cl c)/\Ex c H')->PSs (XP X pins E) body (tb Ex)) :
   PS X (.Try body [.ExceptHandler (some (.Name sm psm)) (some n) [.Return (some ret) pr] ph] [] [] pos) (λD σ H=>tb (ExH ks cl i tr D) D σ H):=by
 intro pins s σ H D I h
 refine wpAny_Try_except ?_
 refine wpAny_mono (hb (ExH ks cl i tr D) pins (λe s1=>wpAny (model X.prog X.w) X.A (noteFrame e X.env) (λ_ s2=>wpAny (model X.prog X.w) X.A (setFlight e none) (λ_ s3=>wpAny (model X.prog X.w) X.A (handleBy e X.env [.ExceptHandler (some (.Name sm psm)) (some n) [.Return (some ret) pr] ph]) (SP X pins D) X.xe s3) X.xe s2) X.xe s1)
   (λpl σ1 H1 s1 e s2 I1 z=>yH hst nd hi hn hgS hmS hdb hx hr (fF I.ok I1) z) [] s σ H D (xf I) h) (λf s1 q=>?_) λ_ _ z=>z
 have q:=vz I.ok q
 cases f with
 | next=>exact wpAny_execs_nil q
 | _=>exact q
end
end Hx
namespace Hy
open PySem PySem.Spec PyProof.Rows L2
open Ev (D Den au ar)
noncomputable def xg:List Str:=["NoFraction","NoTable","NoChoice","NoSquare","NoFit","NoUndoing","NoLadder","TooMany","NoPaper","NoRow","NoStairs","NoNumber","NoCorner","NoName","NoStep","NoWeight","NoDeed","NoText","NoWord"]
noncomputable def wordOf (c:Nat):Str:=xg.getD c "else"
noncomputable def spX (K:PySem.W.Frag) (cl:Nat->Addr) (Φ:List D->Nat->Prop):Sp:=λvs H _ E=>∃ A ds c,(∀ b,A b->∃ o,H b=some o)/\au K (hd H A) vs ds/\Φ ds c/\∀ H',aq H H'->E (.ref (cl c)) none H'
noncomputable def bV (P:Program) (w:World) (K:PySem.W.Frag) (mg:Str->Option Value) (base:Heap) (cl:Nat->Addr) (k:Nat) (n:Str) (Φ:List D->Nat->Prop):Prop:=
 ∃ f fd ps,aJ P w K mg base (Hx.CXe P w cl) k f fd ps (spX K cl Φ)/\mg n=some (.ref f)/\PySem.W.keepIn K (.ref f)=true/\Binds K fd ps []
theorem bV.mono {P:Program} {w:World} {K:PySem.W.Frag} {mg:Str->Option Value} {base:Heap} {cl:Nat->Addr} {j k:Nat} {n:Str} {Φ:List D->Nat->Prop} (c:bV P w K mg base cl j n Φ) (h:j<=k):bV P w K mg base cl k n Φ:=
 let ⟨f,fd,ps,F,r⟩:=c; ⟨f,fd,ps,F.mono h,r⟩
noncomputable def dX (K:PySem.W.Frag) (τ:List Sl) (Ex:Hp->Prop):TE:=λσ H _=>∃ A H₀ B,Sta K A H₀ τ B σ H/\∀ H',aq H₀ H'->Ex H'
noncomputable def PsX (X:Cx) (cl:Nat->Addr) (Ex:Nat->Hp->Prop):Prop:=Passes (Hx.CXe X.prog X.w cl) X (λC _ H'=>∃ c,C=.ref (cl c)/\Ex c H')
section
variable {X:Cx} {C:Bool} {τ:List Sl} {x y z:D} {a b e:Expr} {es:List Expr} {pos p np cpos:Pos} {k c:Nat} {s:Sl} {ds:List D} {N:Po} {rest body:List Stmt} {cl:Nat->Addr} {Ex:Nat->Hp->Prop} {Et:Hp->Prop}
theorem bf {n:Str} {Φ:List D->Nat->Prop} (hr:dM k X.A) (po:PsX X cl Ex) (c0:bV X.prog X.w X.K X.mg X.base cl k n Φ) (ha:PA X (e :: es) (dA X.K C τ ds)) (h:Φ ds c) (hg:Gl X n:=by rfl) (hdb:(n == ("__debug__" : Str))=false:=by decide)
   (he:starEach (e :: es) X.env=(false,eval e X.env) :: starEach es X.env:=by rfl) (hpl:(backTo pos (starEach es X.env)).any (·.1)=false:=by rfl):PE X (.Call (.Name n p) (e :: es) [] pos) (dX X.K τ (Ex c)):=by
 obtain ⟨f,fd,ps,F,hm,hk,hb⟩:=c0
 refine peW (lL F hr hg hm hk hb .nil po ha hdb he hpl) λσ H Q ⟨A,H₀,B,S,q⟩=>fq S λvs H1 e1 d1=>?_
 rw [List.append_nil]
 exact ⟨vw C A B,ds,c,(S.mono e1).vd,d1,h,λH' e2=>⟨c,rfl,q H' ((S.same.trans e1).trans e2)⟩⟩
theorem yx (he:PE X e (dX X.K τ N.xc)):PSs X (.Return (some e) pos :: rest) (dS X.K τ N):=
 bh (M:=λ_=>False) (psW (lG he) λD σ H ⟨A,H₀,B,S,Me⟩=>⟨A,H₀,B,S,Me.xc⟩) λ_ e=>e.elim
theorem dj (he:PE X e (dX X.K τ N.xc)) (hs:swapsWith e none pos.line X.env=pure false:=by rfl):PSs X (.Expr e pos :: rest) (dS X.K τ N):=
 bh (M:=λ_=>False) (psW (gY he hs) λD σ H ⟨A,H₀,B,S,Me⟩=>⟨A,H₀,B,S,Me.xc⟩) λ_ e=>e.elim
theorem fB {n:Str} (i:Nat) (hN:X.N.Nodup) (he:PE X e (dX X.K τ N.xc)) (hi:X.N[i]?=some n:=by rfl) (hx:Loc X.env.scope n:=by first | exact .inl rfl | exact .inr rfl) (hs:swapsWith e (some (.Name n p)) pos.line X.env=pure false:=by rfl)
   (hf:X.fn n=true\/X.env.scope.names.lookup n=some .local:=by first | exact .inl rfl | exact .inr rfl | assumption):PSs X (.Assign [.Name n p] e pos :: rest) (dS X.K τ N):=
 bh (M:=λ_=>False) (psW (sr hN hi hx he hs hf) λD σ H ⟨A,H₀,B,S,Me⟩=>⟨A,H₀,B,S,Me.xc⟩) λ_ e=>e.elim
noncomputable def Lv (X:Cx) (cl:Nat->Addr) (c:Nat) (Et:Hp->Prop):Prop:=∀ (pins:List (Addr × Obj)) (σ:L2.St) (H:Hp) (s:Shared),Inv X pins σ H s->Et H->∀ (h':Heap) (a:Addr) (us:List Value),Heap.MadeExcOf s.heap h' a (.ref (cl c)) us->X.xe (.ref a) { s with heap:=h' }
theorem lJ {n:Str} {S:Addr} (hl:Lv X cl c N.xc) (hm:X.mg n=some (.ref (cl c))) (O:Hx.xx X.K (cl c) S) (ha:PA X (e :: es) (dA X.K false τ ds)) (hds:ds.length<=sizeLine:=by decide) (hc:X.calm=true:=by rfl) (hg:Gl X n:=by rfl) (hdb:(n == ("__debug__" : Str))=false:=by decide)
   (he:starEach (e :: es) X.env=(false,eval e X.env) :: starEach es X.env:=by rfl) (hpl:(backTo cpos (starEach es X.env)).any (·.1)=false:=by rfl):PSs X (.Raise (some (.Call (.Name n np) (e :: es) [] cpos)) none pos :: rest) (dS X.K τ N):=
 bh (M:=λ_=>False) (psW (Hx.ur hc hg hm O ha hdb he hpl) λD σ H ⟨A,H₀,B,S,Me⟩=>fq S λvs H1 e1 d1=>⟨by rw [d1.length]; exact hds,λpins s us I h' a m=>hl pins σ H1 s I (Me.xc H1 (S.same.trans e1)) h' a us m⟩) λ_ e=>e.elim
end
section
variable {P:Program} {w:World} {K:PySem.W.Frag} {mg:Str->Option Value} {base:Heap} {cl:Nat->Addr}
theorem A9 {N ps:List Str} {A:Addr->Prop} {H:Hp} {vs:List V} {ds:List D} (ha:∀ b,A b->∃ o,H b=some o) (d:au K (hd H A) vs ds):Sta K A H (nO N ds) (λ_=>[]) (L2.start N vs) H:=by
 refine ⟨aq.refl _,?_,λi s hi=>?_,λ_ _ z=>(nomatch z),λ_ _ _ z=>(nomatch z),ha,λ_ _ z=>(nomatch z)⟩
 · unfold L2.start nO
   simp [d.length]
 · have hl:=d.length
   unfold nO at hi
   unfold L2.start
   by_cases hlt:i < ds.length
   · rw [List.getElem?_append_left (by simpa using hlt),List.getElem?_map,List.getElem?_eq_getElem hlt] at hi
     cases hi
     obtain ⟨v,e,dv⟩:=d.get (List.getElem?_eq_getElem hlt)
     refine ⟨rfl,v,?_,dv.mono (az (aq.refl _) λ_ z=>z.elim id λ⟨_,z⟩=>(nomatch z))⟩
     rw [List.getElem?_append_left (by simpa [hl] using hlt),List.getElem?_map,e]
     rfl
   · rw [List.getElem?_append_right (by simpa using hlt),List.getElem?_replicate] at hi
     split at hi
     · cases hi; rfl
     · cases hi
noncomputable abbrev Xe (P:Program) (w:World) (K:PySem.W.Frag) (mg:Str->Option Value) (base:Heap) (N:List Str) (qual:Str) (st:Stmt) (f:Addr) (cdv:Value) (A:Around) (outer:List Env) (s:Shared) (H:Hp) (E:XK) (cl:Nat->Addr):Cx:=jx (Hx.CXe P w cl) P w K mg base N qual (ak st) f cdv A outer s H E
theorem fnX {x qual:Str} {st:Stmt} {f:Addr} {fd:FuncData} {N ps:List Str} {k:Nat} {Φ:List D->Nat->Prop} (F:Fun K x qual st f fd) (S:ao N ps (ak st)) (hb:∀ x ∈ aj,mg x=none) (len:∀ ds c,Φ ds c->ds.length=ps.length)
   (body:∀ ds c,Φ ds c->∀ cdv A outer s H E,dM k (Xe P w K mg base N qual st f cdv A outer s H E cl).A->Bk (Xe P w K mg base N qual st f cdv A outer s H E cl).nox k->PsX (Xe P w K mg base N qual st f cdv A outer s H E cl) cl (λc H'=>E (.ref (cl c)) none H')->(∀ c',Lv (Xe P w K mg base N qual st f cdv A outer s H E cl) cl c' (λH'=>E (.ref (cl c')) none H')) ->
     PSs (Xe P w K mg base N qual st f cdv A outer s H E cl) (a7 st) (dS K (nO N ds) { nx:=λ_=>False,rt:=λ_=>False,xc:=λH'=>E (.ref (cl c)) none H' })) :
   aJ P w K mg base (Hx.CXe P w cl) (k + 1) f fd ps (spX K cl Φ):=by
 obtain ⟨oc,od,dV,kV,doc,pm,an,cdv,ct,osl,rfl,lk,hcd⟩:=F.ex
 refine wo lk hcd S (λvs H Q E ⟨A,ds,c,_,d,h,_⟩=>d.length.trans (len ds c h)) λA outer s H vs Q E hr ⟨A',ds,c,ha,d,h,q⟩=>⟨_,body ds c h cdv A outer s H E hr ⟨hr,rfl,hb,PassesOwn.never⟩ (Hx.rl λ_ _ z=>z) (λc' pins σ H s I q h' a us m=>Hx.oy I q m),A',H,λ_=>[],A9 (ps:=ps) ha d,λ_ _ _ _ h=>h.elim,λ_ _ _ _ h=>h.elim,λ_ _ _ _ h=>h.elim,λ_ _ _ _ h=>h.elim,q⟩
end
structure wD (k:Nat) (A:Around):Prop where
 dp:A.depth + 3 * k + 5 < recursionLimit
 un:A.units + 16 * k + 200 < cLine
noncomputable def eL (P:Program) (w:World) (K:PySem.W.Frag) (mg:Str->Option Value) (base:Heap) (cl:Nat->Addr) (k:Nat) (fw:Addr) (c:Nat):Prop:=
 ∀ (A:Around) (outer:List PySem.Env) (s:Shared) (H:Hp) (a:Addr) (o:Obj) (Q:VK),A.handled=some (.ref a)->H a=some (Hx.rm o)->Hx.sZ o (cl c)->wD k A->sI P w K mg base A outer s H ->
   (∀ H',aq H H'->Q (.str (wordOf c)) H')->codeAny (model P w) A (.call (.ref fw) ⟨[.ref a],[]⟩) (CR CX0 outer P w H s Q E0) s
theorem eL.mono {P:Program} {w:World} {K:PySem.W.Frag} {mg:Str->Option Value} {base:Heap} {cl:Nat->Addr} {j k:Nat} {f:Addr} {c:Nat} (h:eL P w K mg base cl j f c) (q:j<=k):eL P w K mg base cl k f c:=λA outer s H a o Q h1 h2 h3 hr=>h A outer s H a o Q h1 h2 h3 ⟨by have:=hr.dp; omega,by have:=hr.un; omega⟩
section
variable {X:Cx} {C:Bool} {τ:List Sl} {e:Expr} {k c i:Nat} {N:Po} {rest body:List Stmt} {cl:Nat->Addr} {n:Str} {fw S:Addr} {p p' q psm pr ph pos:Pos}
noncomputable def trW (cl:Nat->Addr) (c i:Nat) (a:Addr) (o:Obj):TE:=λσ H Q=>H a=some (Hx.rm o)/\Hx.sZ o (cl c)/\σ[i]?=some (some (.ref a))/\∀ H',aq H H'->Q (.str (wordOf c)) H'
theorem vK {a:Addr} {o:Obj} (hg:Gl X "_law_word") (hm:X.mg "_law_word" = some (.ref fw)) (hk:PySem.W.keepIn X.K (.ref fw)=true) (hW:eL X.prog X.w X.K X.mg X.base cl k fw c) (hr:wD k X.A)
   (hi:X.N[i]?=some n) (hn:X.env.scope.names.lookup n=some .local) (h1:(n == ("__debug__" : Str))=false) (h2:(n == ("__classdict__" : Str))=false) :
   PE (Hx.XH X a) (.Call (.Name "_law_word" p) [.Name n p'] [] q) (trW cl c i a o):=by
 intro pins s σ H Q I ⟨e1,e2,e3,z⟩
 refine wpAny_Call_Name_kw (gJ I hg hm ?_ (by decide))
 refine PySem.W.callWith_K (h₀:=X.base) I.ok.mod.kin hk (thn (bA (cD (X:=Hx.XH X a) hi (.inl hn) h1 h2) dQ rfl q pins s σ H (λvs H1=>vs=[.ref a]/\H1=H) I ⟨_,e3,rfl,rfl⟩) λus s1 ⟨vs,H1,I1,r1,e4,e5⟩=>⟨I1.kIn,?_⟩) rfl rfl
 subst e4
 subst e5
 cases r1 with
 | cons ra rr=>
   cases rr
   cases ra
   refine wpAny_call (codeAny_mono (hW (X.A.mark (some (.ref a))) X.stack s1 _ a o Q rfl e1 e2 ⟨hr.dp,hr.un⟩ I1.Ae z) λres s' hq=>?_)
   cases res with
   | error e=>exact hq.elim
   | ok fl=>
     cases fl with
     | ret u=>exact I1.after hq
     | next=>exact False.elim hq
     | brk=>exact False.elim hq
     | cont=>exact False.elim hq
theorem yq (B:Bk X k) (nd:X.N.Nodup) (hb:∀ (pins:List (Addr × Obj)) (E:Value->Shared->Prop) (Ex:Nat->Hp->Prop),PsX (Hx.XP X pins E) cl Ex->PSs (Hx.XP X pins E) body (dS X.K τ { nx:=λ_=>False,rt:=λ_=>False,xc:=Ex c })) (h:N.rt (.d (.str (wordOf c))))
   (hmS:X.mg "SmoothError" = some (.ref S)) (hx:PySem.W.exmOne X.K (.ref (cl c)) (.ref S)=some true) (hm:X.mg "_law_word" = some (.ref fw)) (hk:PySem.W.keepIn X.K (.ref fw)=true) (hW:eL X.prog X.w X.K X.mg X.base cl k fw c) (i:Nat)
   (hst:X.stack=X.env :: X.outer/\X.env.frame=some X.env.locals:=by exact ⟨rfl,rfl⟩) (hi:X.N[i]?=some n:=by rfl) (hn:X.env.scope.names.lookup n=some .local:=by rfl) (hgS:Gl X "SmoothError":=by rfl) (hg:Gl X "_law_word":=by rfl) (h1:(n == ("__debug__" : Str))=false:=by decide) (h2:(n == ("__classdict__" : Str))=false:=by decide) :
   PSs X (.Try body [.ExceptHandler (some (.Name "SmoothError" psm)) (some n) [.Return (some (.Call (.Name "_law_word" p) [.Name n p'] [] q)) pr] ph] [] [] pos :: rest) (dS X.K τ N):=by
 refine bh (M:=λ_=>False) (psW (Hx.tG (ks:=[c]) (cl:=cl) (i:=i) (tr:=trW cl c i) (tb:=λEx=>dS X.K τ { nx:=λ_=>False,rt:=λ_=>False,xc:=Ex c }) hst nd hi hn hgS hmS (by decide) (λc' hc'=>by rw [List.mem_singleton.mp hc']; exact hx) (λa o=>vK hg hm hk hW ⟨B.room.dp,B.room.un⟩ hi hn h1 h2) λEx pins E hp=>hb pins E Ex hp) λD σ H ⟨A,H₀,B,S,Me⟩=>?_) λ_ e=>e.elim
 refine ⟨A,H₀,B,S,λ_ _ _ _ h=>h.elim,λ_ _ _ _ h=>h.elim,λ_ _ _ _ h=>h.elim,λ_ _ _ _ h=>h.elim,λH' e'=>⟨List.mem_singleton.mpr rfl,λσ' a o hl Ha ho=>⟨aL,ho,List.getElem?_set_self hl,λH2 e2=>?_⟩⟩⟩
 exact Me.rt (.str (wordOf c)) H2 [] (.d (.str (wordOf c))) h ((e'.trans (ar Ha _)).trans e2) cC (gg .str)
noncomputable abbrev XN (X:Cx) (pins:List (Addr × Obj)):Cx:={ X with pn:=X.pn++pins,xe:=λ_ _=>False }
theorem Bk.xn (B:Bk X k) (pins:List (Addr × Obj)):Bk (XN X pins) k:=⟨B.room,B.calm,B.blt,PassesOwn.never⟩
end
end Hy
namespace Hx
open PySem PySem.Spec PyProof.Rows L2
section
variable {X:Cx} {body:List Stmt} {h0:ExceptHandler} {hs:List ExceptHandler} {pos:Pos} {t:TS}
end
end Hx
namespace Hy
open PySem PySem.Spec PyProof.Rows L2
end Hy
namespace Hy
open PySem PySem.Spec PyProof.Rows L2
open Ev (D Den au ar aZ aP)
section
variable {X:Cx} {C:Bool} {τ:List Sl} {a b e e1 e2 e3 o:Expr} {pos p p2 tp:Pos} {k:Nat} {x x1 x2 x3:D} {N:Po} {rest:List Stmt}
theorem uh {lo hi:Option Expr} {l u:Option Int} {xs:List D} (ha:PE X a (dE X.K C τ (.d (.tup xs)))) (hl:PO X lo (dO X.K τ l)) (hu:PO X hi (dO X.K τ u)) (hw:¬ (HT.sIx xs.length 0 l=0/\HT.sIx xs.length xs.length u=xs.length)):PE X (.Subscript a (.Slice lo hi none p2) pos) (dE X.K C τ (.d (.tup (cutD xs l u)))):=
 peW (n8 za ha hl hu) λσ H Q q=>by
   obtain ⟨A,H₀,B,S,k⟩:=dD q
   exact aW S λv H1 e1 d1=>⟨A,H₀,B,S.mono e1,λH2 e2=>⟨A,H₀,B,(S.mono e1).mono e2,λH3 e3=>by
     cases d1 with
     | @tup _ ws _ h r=>
       have h:=aZ (e2.trans e3) (aZ aI h)
       have r:=r.mono (az (e2.trans e3) λ_ z=>z)
       refine ⟨_,_,rfl,h,by rw [r.length]; exact hw,λp hp=>?_⟩
       have r':au X.K (hd H3 (vw C A B)) (jJ ws l u) (cutD xs l u):=by
         unfold jJ cutD
         rw [r.length]
         exact (r.drop _).take _
       have hM:=(((S.mono e1).mono e2).mono e3).vd (C:=C)
       have e4:=ar hp (.tup (jJ ws l u))
       exact k _ _ ((e1.trans (e2.trans e3)).trans e4) (.tup (SqT.of (iP hM hp)) (r'.mono (az e4 λ_ z=>z)))⟩⟩
end
end Hy
namespace K41
open PySem PySem.Spec PyProof.Rows L2 Hy
open Ev (D Den au aG aE)
noncomputable def aM (f:Nat->Rat):Nat->Rat
 | 0=>0
 | n + 1=>aM f n + f n
theorem aN {f g:Nat->Rat}:∀ {n:Nat},(∀ k < n,f k=g k)->aM f n=aM g n
 | 0,_=>rfl
 | n + 1,h=>by rw [aM,aM,aN λk hk=>h k (by omega),h n (by omega)]
theorem cJ (c:Rat) (f:Nat->Rat):∀ n:Nat,c * aM f n=aM (λk=>c * f k) n
 | 0=>Rat.mul_zero c
 | n + 1=>by rw [aM,aM,Rat.mul_add,cJ c f n]
theorem jW (c:Rat) (f:Nat->Rat):∀ n:Nat,aM f n * c=aM (λk=>f k * c) n
 | 0=>Rat.zero_mul c
 | n + 1=>by rw [aM,aM,Rat.add_mul,jW c f n]
theorem hX (f g:Nat->Rat):∀ n:Nat,aM (λk=>f k + g k) n=aM f n + aM g n
 | 0=>(Rat.add_zero 0).symm
 | n + 1=>by rw [aM,aM,aM,hX f g n]; grind
theorem iH:∀ n:Nat,aM (λ_=>0) n=0
 | 0=>rfl
 | n + 1=>by rw [aM,iH n,Rat.add_zero]
theorem lE (f:Nat->Nat->Rat) (m:Nat):∀ n:Nat,aM (λk=>aM (λl=>f k l) m) n=aM (λl=>aM (λk=>f k l) n) m
 | 0=>by simp only [aM]; exact (iH m).symm
 | n + 1=>by simp only [aM]; rw [lE f m n,<- hX]
noncomputable def dq (i j:Nat):Rat:=if i=j then 1 else 0
theorem oq (A:Nat->Rat) (j:Nat):∀ n:Nat,n<=j->aM (λk=>A k * dq k j) n=0
 | 0,_=>rfl
 | n + 1,h=>by
   rw [aM,oq A j n (by omega),dq,if_neg (by omega),Rat.mul_zero,Rat.add_zero]
theorem fY (A:Nat->Rat) (j:Nat):∀ n:Nat,j < n->aM (λk=>A k * dq k j) n=A j
 | n + 1,h=>by
   rw [aM]
   by_cases e:j=n
   · subst e
     rw [oq A j j (Nat.le_refl _),dq,if_pos rfl,Rat.mul_one,Rat.zero_add]
   · rw [fY A j n (by omega),dq,if_neg (by omega),Rat.mul_zero,Rat.add_zero]
theorem lz (f:Nat->Int):∀ n:Nat,((((List.range n).map f).sum:Int):Rat)=aM (λk=>(f k:Rat)) n
 | 0=>rfl
 | n + 1=>by
   rw [List.range_succ,List.map_append,List.sum_append,Rat.intCast_add,lz f n,aM]
   simp
noncomputable def skp (i r:Nat):Nat:=if r < i then r else r + 1
noncomputable def minor (M:Nat->Nat->Rat) (i r c:Nat):Rat:=M (skp i r) (c + 1)
noncomputable def sgn (i:Nat):Rat:=if i % 2=0 then 1 else -1
theorem jT (i:Nat):sgn (i + 1)=-sgn i:=by
 unfold sgn
 by_cases h:i % 2=0
 · rw [if_pos h,if_neg (by omega)]
 · rw [if_neg h,if_pos (by omega)]
   rfl
noncomputable def det:Nat->(Nat->Nat->Rat)->Rat
 | 0,_=>1
 | n + 1,M=>aM (λi=>sgn i * M i 0 * det n (minor M i)) (n + 1)
theorem mE {i r n:Nat} (h:r < n):skp i r < n + 1:=by unfold skp; split <;> omega
theorem x8 (i r:Nat):skp i r ≠ i:=by unfold skp; split <;> omega
theorem bF:∀ {n:Nat} {M M':Nat->Nat->Rat},(∀ i < n,∀ j < n,M i j=M' i j)->det n M=det n M'
 | 0,_,_,_=>rfl
 | n + 1,M,M',h=>by
   unfold det
   refine aN λi hi=>?_
   rw [h i hi 0 (by omega),bF (M:=minor M i) (M':=minor M' i) λr hr c hc=>h _ (mE hr) _ (by omega)]
noncomputable def aw (M:Nat->Nat->Rat) (p:Nat) (v:Nat->Rat) (r c:Nat):Rat:=if r=p then v c else M r c
noncomputable def dU (M:Nat->Nat->Rat) (q:Nat) (v:Nat->Rat) (r c:Nat):Rat:=if c=q then v r else M r c
noncomputable def un (i p:Nat):Nat:=if p < i then p else p - 1
theorem gB (M:Nat->Nat->Rat) (p:Nat) (v:Nat->Rat):minor (aw M p v) p=minor M p:=by
 funext r c
 unfold minor aw
 rw [if_neg (x8 p r)]
theorem fH (M:Nat->Nat->Rat) {i p:Nat} (h:i ≠ p) (v:Nat->Rat):minor (aw M p v) i=aw (minor M i) (un i p) λc=>v (c + 1):=by
 funext r c
 unfold minor aw
 have:skp i r=p ↔ r=un i p:=by unfold skp un; split <;> split <;> omega
 by_cases q:skp i r=p
 · rw [if_pos q,if_pos (this.mp q)]
 · rw [if_neg q,if_neg λz=>q (this.mpr z)]
theorem qJ:∀ {n:Nat} (M:Nat->Nat->Rat) {p:Nat},p < n->∀ (a b:Rat) (x y:Nat->Rat),det n (aw M p λc=>a * x c + b * y c)=a * det n (aw M p x) + b * det n (aw M p y)
 | 0,_,_,h,_,_,_,_=>absurd h (Nat.not_lt_zero _)
 | n + 1,M,p,hp,a,b,x,y=>by
   unfold det
   rw [cJ,cJ,<- hX]
   refine aN λi hi=>?_
   by_cases h:i=p
   · subst h
     rw [gB,gB,gB]
     simp only [aw,if_pos rfl]
     grind
   · rw [fH M h,fH M h,fH M h,qJ (minor M i) (show un i p < n by unfold un; split <;> omega) a b]
     simp only [aw,if_neg h]
     grind
theorem sO {f:Nat->Rat} {p:Nat} (h0:∀ i,i ≠ p->i ≠ p + 1->f i=0) (h:f p + f (p + 1)=0):∀ n,p + 1 < n->aM f n=0:=by
 have z:∀ n,n<=p->aM f n=0:=by
   intro n
   induction n with
   | zero=>intro _; rfl
   | succ n ih=>intro hn; rw [aM,ih (by omega),h0 n (by omega) (by omega),Rat.add_zero]
 intro n
 induction n with
 | zero=>intro hn; omega
 | succ n ih=>
   intro hn
   rw [aM]
   by_cases q:n=p + 1
   · subst q
     rw [aM,z p (Nat.le_refl _),Rat.zero_add]
     exact h
   · rw [ih (by omega),h0 n (by omega) q,Rat.add_zero]
theorem fV {f:Nat->Rat} {n:Nat} (h:∀ i < n,f i=0):aM f n=0:=by
 rw [aN h]; exact iH n
theorem mT:∀ {n:Nat} {M:Nat->Nat->Rat} {p:Nat},p + 1 < n->(∀ c < n,M p c=M (p + 1) c)->det n M=0
 | 0,_,_,h,_=>absurd h (Nat.not_lt_zero _)
 | n + 1,M,p,hp,h=>by
   unfold det
   let f:Nat->Rat:=λi=>if i < n + 1 then sgn i * M i 0 * det n (minor M i) else 0
   have e:aM (λi=>sgn i * M i 0 * det n (minor M i)) (n + 1)=aM f (n + 1):=aN λi hi=>by simp only [f]; rw [if_pos hi]
   rw [e]
   refine sO (p:=p) (λi h1 h2=>?_) ?_ _ hp
   · simp only [f]
     by_cases hi:i < n + 1
     · rw [if_pos hi]
       have:det n (minor M i)=0:=by
         by_cases q:i < p
         · refine mT (p:=p - 1) (by omega) λc hc=>?_
           unfold minor skp
           rw [if_neg (by omega),if_neg (by omega),show p - 1 + 1=p by omega]
           exact h (c + 1) (by omega)
         · refine mT (p:=p) (by omega) λc hc=>?_
           unfold minor skp
           rw [if_pos (by omega),if_pos (by omega)]
           exact h (c + 1) (by omega)
       rw [this,Rat.mul_zero]
     · rw [if_neg hi]
   · simp only [f]
     rw [if_pos (by omega),if_pos hp,jT,<- h 0 (by omega)]
     have:det n (minor M p)=det n (minor M (p + 1)):=bF λr hr c hc=>by
       unfold minor skp
       by_cases q:r < p
       · rw [if_pos q,if_pos (by omega)]
       · rw [if_neg q]
         by_cases q2:r=p
         · subst q2
           rw [if_pos (by omega)]
           exact (h (c + 1) (by omega)).symm
         · rw [if_neg (by omega)]
     rw [this]
     grind
structure ML (n:Nat) (f:(Nat->Nat->Rat)->Rat):Prop where
 cong:∀ {M M':Nat->Nat->Rat},(∀ i < n,∀ j < n,M i j=M' i j)->f M=f M'
 lin:∀ (M:Nat->Nat->Rat) {p:Nat},p < n->∀ (a b:Rat) (x y:Nat->Rat),f (aw M p λc=>a * x c + b * y c)=a * f (aw M p x) + b * f (aw M p y)
 alt:∀ {M:Nat->Nat->Rat} {p:Nat},p + 1 < n->(∀ c < n,M p c=M (p + 1) c)->f M=0
theorem ju (n:Nat):ML n (det n):=⟨bF,qJ,mT⟩
section
variable {n:Nat} {f:(Nat->Nat->Rat)->Rat}
theorem bI (M:Nat->Nat->Rat) (p:Nat):aw M p (M p)=M:=by
 funext r c
 unfold aw
 split
 · rename_i h; rw [h]
 · rfl
theorem b7 {M:Nat->Nat->Rat} {p:Nat} {v:Nat->Rat}:aw M p v p=v:=by funext c; unfold aw; rw [if_pos rfl]
theorem b6 {M:Nat->Nat->Rat} {p r:Nat} {v:Nat->Rat} (h:r ≠ p):aw M p v r=M r:=by funext c; unfold aw; rw [if_neg h]
theorem bg {M:Nat->Nat->Rat} {p q:Nat} {v u:Nat->Rat} (h:p ≠ q):aw (aw M p v) q u=aw (aw M q u) p v:=by
 funext r c
 unfold aw
 by_cases h1:r=q
 · rw [if_pos h1,if_neg λz=>h (z.symm.trans h1),if_pos h1]
 · rw [if_neg h1,if_neg h1]
theorem ML.add (h:ML n f) (M:Nat->Nat->Rat) {p:Nat} (hp:p < n) (x y:Nat->Rat):f (aw M p λc=>x c + y c)=f (aw M p x) + f (aw M p y):=by
 have:=h.lin M hp 1 1 x y
 simp only [Rat.one_mul] at this
 exact this
theorem ML.nb (h:ML n f) (M:Nat->Nat->Rat) {p:Nat} (hp:p + 1 < n) (x y:Nat->Rat):f (aw (aw M p x) (p + 1) y)=-f (aw (aw M p y) (p + 1) x):=by
 have z:∀ u:Nat->Rat,f (aw (aw M p u) (p + 1) u)=0:=λu=>h.alt hp λc _=>by rw [b7,b6 (by omega),b7]
 have e:=z λc=>x c + y c
 rw [h.add _ hp] at e
 rw [bg (by omega),h.add _ (show p < n by omega),bg (M:=M) (p:=p) (q:=p + 1) (v:=λc=>x c + y c) (u:=y) (by omega),h.add _ (show p < n by omega)] at e
 rw [bg (M:=M) (p:=p + 1) (q:=p) (v:=x) (u:=x) (by omega),z x,bg (M:=M) (p:=p + 1) (q:=p) (v:=y) (u:=y) (by omega),z y,bg (M:=M) (p:=p + 1) (q:=p) (v:=x) (u:=y) (by omega),bg (M:=M) (p:=p + 1) (q:=p) (v:=y) (u:=x) (by omega)] at e
 grind
theorem ML.two (h:ML n f):∀ (d:Nat) (M:Nat->Nat->Rat) (p:Nat),p + 1 + d < n->M p=M (p + 1 + d)->f M=0
 | 0,M,p,hp,e=>h.alt hp λc _=>by rw [e]
 | d + 1,M,p,hp,e=>by
   have s:=h.nb M (p:=p + 1 + d) (by omega) (M (p + 1 + d)) (M (p + 1 + d + 1))
   rw [bI,bI] at s
   rw [s,ML.two h d _ p (by omega) (by rw [b6 (by omega),b6 (by omega),b6 (by omega),b7]; exact e)]
   rfl
theorem ML.same (h:ML n f) {M:Nat->Nat->Rat} {p q:Nat} (hp:p < n) (hq:q < n) (hpq:p ≠ q) (e:M p=M q):f M=0:=by
 rcases Nat.lt_or_lt_of_ne hpq with z | z
 · exact h.two (q - p - 1) M p (by omega) (by rw [show p + 1 + (q - p - 1)=q by omega]; exact e)
 · exact h.two (p - q - 1) M q (by omega) (by rw [show q + 1 + (p - q - 1)=p by omega]; exact e.symm)
theorem ML.swap (h:ML n f) {M:Nat->Nat->Rat} {p q:Nat} (hp:p < n) (hq:q < n) (hpq:p ≠ q) (x y:Nat->Rat):f (aw (aw M p x) q y)=-f (aw (aw M p y) q x):=by
 have z:∀ u:Nat->Rat,f (aw (aw M p u) q u)=0:=λu=>h.same hp hq hpq (by rw [b7,b6 hpq,b7])
 have e:=z λc=>x c + y c
 have c1:∀ u v:Nat->Rat,aw (aw M q u) p v=aw (aw M p v) q u:=λu v=>bg λz=>hpq z.symm
 rw [h.add _ hq,bg hpq,h.add _ hp,bg (M:=M) (p:=p) (q:=q) (v:=λc=>x c + y c) (u:=y) hpq,h.add _ hp,c1,c1,c1,c1,z x,z y] at e
 grind
theorem ML.AZ (h:ML n f) (M:Nat->Nat->Rat) {p:Nat} (hp:p < n):f (aw M p λ_=>0)=0:=by
 have:=h.lin M hp 0 0 (λ_=>0) (λ_=>0)
 simp only [Rat.zero_mul,Rat.add_zero] at this
 exact this
theorem ML.sum (h:ML n f) (M:Nat->Nat->Rat) {p:Nat} (hp:p < n) (v:Nat->Rat) (e:Nat->Nat->Rat):∀ m,f (aw M p λj=>aM (λc=>v c * e c j) m)=aM (λc=>v c * f (aw M p (e c))) m
 | 0=>h.AZ M hp
 | m + 1=>by
   have:=h.lin M hp 1 (v m) (λj=>aM (λc=>v c * e c j) m) (e m)
   simp only [Rat.one_mul] at this
   rw [aM,<- ML.sum h M hp v e m]
   exact this
theorem ML.comb (h:ML n f) (M:Nat->Nat->Rat) {p k:Nat} (hp:p < n) (hk:k<=p) (d:Rat) (β:Nat->Rat):f (aw M p λj=>d * M p j + aM (λi=>β i * M i j) k)=d * f M:=by
 have e:=h.lin M hp d 1 (M p) (λj=>aM (λi=>β i * M i j) k)
 simp only [Rat.one_mul] at e
 rw [e,bI,h.sum M hp β M k,fV,Rat.add_zero]
 intro i hi
 rw [h.same (p:=i) (q:=p) (by omega) hp (by omega) (by rw [b6 (by omega),b7]),Rat.mul_zero]
end
noncomputable def idQ (i j:Nat):Rat:=if i=j then 1 else 0
noncomputable def un1 (σ:Nat->Nat) (i j:Nat):Rat:=if σ i=j then 1 else 0
theorem uI:∀ (m:Nat) (σ:Nat->Nat),(∀ i < m + 1,σ i < m)->∃ i j,i < j/\j < m + 1/\σ i=σ j
 | 0,σ,h=>absurd (h 0 (by decide)) (Nat.not_lt_zero _)
 | m + 1,σ,h=>by
   by_cases q:∃ i,i < m + 1/\σ i=σ (m + 1)
   · obtain ⟨i,hi,e⟩:=q
     exact ⟨i,m + 1,hi,by omega,e⟩
   · have q':∀ i < m + 1,σ i ≠ σ (m + 1):=λi hi z=>q ⟨i,hi,z⟩
     obtain ⟨i,j,h1,h2,e⟩:=uI m (λi=>if σ (m + 1) < σ i then σ i - 1 else σ i) λi hi=>by
       have a:=h i (by omega)
       have b:=h (m + 1) (by omega)
       have c:=q' i hi
       split <;> omega
     refine ⟨i,j,h1,by omega,?_⟩
     have a:=q' i (by omega)
     have b:=q' j h2
     split at e <;> split at e <;> omega
theorem v3 {n k:Nat} {σ:Nat->Nat} (h:∀ i < n,σ i < n) (hk:k < n) (hn:∀ i < n,σ i ≠ k):∃ i j,i < j/\j < n/\σ i=σ j:=by
 obtain ⟨m,rfl⟩:∃ m,n=m + 1:=⟨n - 1,by omega⟩
 obtain ⟨i,j,h1,h2,e⟩:=uI m (λi=>if k < σ i then σ i - 1 else σ i) λi hi=>by
   have a:=h i hi
   have b:=hn i hi
   split <;> omega
 refine ⟨i,j,h1,h2,?_⟩
 have a:=hn i (by omega)
 have b:=hn j h2
 split at e <;> split at e <;> omega
section
variable {n:Nat} {h:(Nat->Nat->Rat)->Rat}
theorem ML.tH (H:ML n h) (h0:h idQ=0):∀ (d k:Nat),k + d=n->∀ σ:Nat->Nat,(∀ i < n,σ i < n)->(∀ i < k,σ i=i)->h (un1 σ)=0
 | 0,k,hk,σ,_,hf=>by
   rw [<- h0]
   exact H.cong λi hi j _=>by unfold un1 idQ; rw [hf i (by omega)]
 | d + 1,k,hk,σ,hs,hf=>by
   by_cases q:∃ j,k<=j/\j < n/\σ j=k
   · obtain ⟨j,h1,h2,h3⟩:=q
     by_cases z:j=k
     · subst z
       exact ML.tH H h0 d (j + 1) (by omega) σ hs λi hi=>by
         by_cases y:i=j
         · rw [y]; exact h3
         · exact hf i (by omega)
     · have e:un1 σ=aw (aw (un1 σ) k (un1 σ k)) j (un1 σ j):=by rw [bI,bI]
       have e2:aw (aw (un1 σ) k (un1 σ j)) j (un1 σ k)=un1 λi=>if i=j then σ k else if i=k then σ j else σ i:=by
         funext r c
         have zk:¬ k=j:=λy=>z y.symm
         by_cases y1:r=j <;> by_cases y2:r=k <;> simp [aw,un1,y1,y2,zk]
       rw [e,H.swap (by omega) h2 (λy=>z y.symm),e2,ML.tH H h0 d (k + 1) (by omega) _ (λi hi=>?_) (λi hi=>?_)]
       · rfl
       · split
         · exact hs k (by omega)
         · split
           · exact hs j h2
           · exact hs i hi
       · rw [if_neg (by omega)]
         by_cases y:i=k
         · rw [if_pos y,h3,y]
         · rw [if_neg y]
           exact hf i (by omega)
   · obtain ⟨i,j,h1,h2,e⟩:=v3 hs (show k < n by omega) λi hi z=>by
       by_cases y:i < k
       · have:=hf i y
         omega
       · exact q ⟨i,by omega,hi,z⟩
     exact H.same (p:=i) (q:=j) (by omega) h2 (by omega) (by funext c; unfold un1; rw [e])
noncomputable def lU (k:Nat) (M:Nat->Nat->Rat) (σ:Nat->Nat) (i j:Nat):Rat:=if i < k then M i j else un1 σ i j
theorem ML.zm (H:ML n h) (h0:h idQ=0) (M:Nat->Nat->Rat):∀ (k:Nat),k<=n->∀ σ:Nat->Nat,(∀ i < n,σ i < n)->h (lU k M σ)=0
 | 0,_,σ,hs=>by
   rw [<- ML.tH H h0 n 0 (by omega) σ hs λi hi=>absurd hi (Nat.not_lt_zero _)]
   exact H.cong λi _ j _=>by unfold lU; rw [if_neg (Nat.not_lt_zero _)]
 | k + 1,hk,σ,hs=>by
   have e:h (lU (k + 1) M σ)=h (aw (lU k M σ) k λj=>aM (λc=>M k c * idQ c j) n):=H.cong λi hi j hj=>by
     unfold aw lU
     by_cases y:i=k
     · subst y
       rw [if_pos (by omega),if_pos rfl]
       exact (fY (M i) j n hj).symm
     · rw [if_neg y]
       by_cases z:i < k
       · rw [if_pos (by omega),if_pos z]
       · rw [if_neg (by omega),if_neg z]
   rw [e,H.sum _ (by omega),fV]
   intro c hc
   have e2:aw (lU k M σ) k (idQ c)=lU k M λi=>if i=k then c else σ i:=by
     funext r j
     by_cases y:r=k <;> simp [aw,lU,un1,idQ,y]
   rw [e2,ML.zm H h0 M k (by omega) _ (λi hi=>?_),Rat.mul_zero]
   split
   · exact hc
   · exact hs i hi
theorem ML.zero (H:ML n h) (h0:h idQ=0) (M:Nat->Nat->Rat):h M=0:=by
 rw [<- ML.zm H h0 M n (Nat.le_refl _) (λi=>i) λi hi=>hi]
 exact H.cong λi hi j _=>by unfold lU; rw [if_pos hi]
end
theorem tu:minor idQ 0=idQ:=by
 funext r c
 unfold minor idQ skp
 rw [if_neg (Nat.not_lt_zero _)]
 by_cases h:r=c
 · rw [if_pos (by omega),if_pos h]
 · rw [if_neg (by omega),if_neg h]
theorem pz:∀ n,det n idQ=1
 | 0=>rfl
 | n + 1=>by
   unfold det
   rw [aN (g:=λi=>det n (minor idQ i) * idQ i 0) λi hi=>?_]
   · have:=fY (λi=>det n (minor idQ i)) 0 (n + 1) (by omega)
     have e:(λi=>det n (minor idQ i) * idQ i 0)=λk=>(λi=>det n (minor idQ i)) k * dq k 0:=rfl
     rw [e,this,tu,pz n]
   · by_cases z:i=0
     · subst z
       show 1 * 1 * _=_ * 1
       grind
     · unfold idQ
       rw [if_neg z]
       grind
theorem ML.uniq {n:Nat} {f:(Nat->Nat->Rat)->Rat} (F:ML n f) (M:Nat->Nat->Rat):f M=det n M * f idQ:=by
 have D:=ju n
 have H:ML n λM=>f M - det n M * f idQ:=by
   refine ⟨λ{M M'} e=>?_,λM p hp a b x y=>?_,λ{M p} hp e=>?_⟩
   · rw [F.cong e,D.cong e]
   · rw [F.lin M hp,D.lin M hp]
     grind
   · rw [F.alt hp e,D.alt hp e]
     grind
 have:=H.zero (by rw [pz]; grind) M
 grind
theorem nj:∀ {n:Nat} (M:Nat->Nat->Rat) {q:Nat},q < n->∀ (a b:Rat) (x y:Nat->Rat),det n (dU M q λc=>a * x c + b * y c)=a * det n (dU M q x) + b * det n (dU M q y)
 | 0,_,_,h,_,_,_,_=>absurd h (Nat.not_lt_zero _)
 | n + 1,M,q,hq,a,b,x,y=>by
   unfold det
   rw [cJ,cJ,<- hX]
   refine aN λi hi=>?_
   cases q with
   | zero=>
     have e:∀ v,minor (dU M 0 v) i=minor M i:=λv=>by
       funext r c
       unfold minor dU
       rw [if_neg (by omega)]
     rw [e,e,e]
     simp only [dU,if_true]
     grind
   | succ q=>
     have e:∀ v,minor (dU M (q + 1) v) i=dU (minor M i) q λr=>v (skp i r):=λv=>by
       funext r c
       unfold minor dU
       by_cases z:c=q
       · rw [if_pos (by omega),if_pos z]
       · rw [if_neg (by omega),if_neg z]
     rw [e,e,e,nj (minor M i) (show q < n by omega) a b]
     have z:¬ (0=q + 1):=by omega
     simp only [dU,if_neg z]
     grind
theorem kX (g:Nat->Rat) (i:Nat):∀ n,i<=n->aM (λj=>g (skp i j)) n=aM g (n + 1) - g i
 | 0,h=>by
   have:i=0:=by omega
   subst this
   show (0:Rat)=0 + g 0 - g 0
   grind
 | n + 1,h=>by
   by_cases q:i=n + 1
   · subst q
     have e:aM (λj=>g (skp (n + 1) j)) (n + 1)=aM g (n + 1):=aN λk hk=>by unfold skp; rw [if_pos hk]
     rw [e,aM.eq_2 g (n + 1)]
     grind
   · rw [aM,kX g i n (by omega),aM.eq_2 g (n + 1)]
     have:skp i n=n + 1:=by unfold skp; rw [if_neg (by omega)]
     rw [this]
     grind
theorem qZ {n:Nat} {G:Nat->Nat->Rat} (h:∀ i < n,∀ j < n,G i j=-G j i):aM (λi=>aM (λj=>G i j) n) n=0:=by
 have e:aM (λi=>aM (λj=>G i j) n) n=-1 * aM (λi=>aM (λj=>G i j) n) n:=by
   conv=>lhs; rw [lE]
   rw [cJ]
   refine aN λi hi=>?_
   rw [cJ]
   refine aN λj hj=>?_
   rw [h j hj i hi]
   grind
 grind
theorem vL {i j r:Nat} (h:i < j):skp i (skp (j - 1) r)=skp j (skp i r):=by
 unfold skp
 split <;> split <;> (try split) <;> (try split) <;> omega
theorem oz:∀ {n:Nat} {M:Nat->Nat->Rat} {q:Nat},q + 1 < n->(∀ r < n,M r q=M r (q + 1))->det n M=0
 | 0,_,_,h,_=>absurd h (Nat.not_lt_zero _)
 | 1,_,_,h,_=>by omega
 | n + 2,M,q + 1,hq,h=>by
   rw [det]
   refine fV λi hi=>?_
   rw [oz (M:=minor M i) (q:=q) (by omega) λr hr=>h _ (mE hr),Rat.mul_zero]
 | n + 2,M,0,hq,h=>by
   let D:Nat->Nat->Rat:=λi j=>det n λr c=>M (skp i (skp j r)) (c + 2)
   let G:Nat->Nat->Rat:=λi j=>if i < j then -(sgn i * sgn j * M i 0 * M j 0 * D i (j - 1)) else if j < i then sgn i * sgn j * M i 0 * M j 0 * D i j else 0
   have inner:∀ i < n + 2,sgn i * M i 0 * det (n + 1) (minor M i)=aM (λj=>G i j) (n + 2):=λi hi=>by
     have e:aM (λj=>G i j) (n + 2)=aM (λj=>G i (skp i j)) (n + 1):=by
       have g0:G i i=0:=by simp only [G]; rw [if_neg (Nat.lt_irrefl i),if_neg (Nat.lt_irrefl i)]
       rw [kX (λj=>G i j) i (n + 1) (by omega),g0]
       grind
     rw [e,det,cJ]
     refine aN λj hj=>?_
     have m0:minor M i j 0=M (skp i j) 0:=(h _ (mE hj)).symm
     have mm:det n (minor (minor M i) j)=D i j:=rfl
     rw [m0,mm]
     simp only [G]
     by_cases z:j < i
     · have s:skp i j=j:=by unfold skp; rw [if_pos z]
       rw [s,if_neg (by omega),if_pos z]
       grind
     · have s:skp i j=j + 1:=by unfold skp; rw [if_neg z]
       rw [s,if_pos (by omega),jT,show j + 1 - 1=j by omega]
       grind
   rw [det,aN inner]
   refine qZ λi hi j hj=>?_
   have sy:∀ {i j:Nat},i < j->D i (j - 1)=D j i:=λ{i j} z=>by
     simp only [D]
     congr 1
     funext r c
     rw [vL z]
   simp only [G]
   rcases Nat.lt_trichotomy i j with z | z | z
   · rw [if_pos z,if_neg (by omega),if_pos z,sy z]
     grind
   · subst z
     rw [if_neg (Nat.lt_irrefl _),if_neg (Nat.lt_irrefl _)]
     rfl
   · rw [if_neg (by omega),if_pos z,if_pos z,sy z]
     grind
theorem tw (n:Nat) (M:Nat->Nat->Rat):det n (λi j=>M j i)=det n M:=by
 have H:ML n λM=>det n λi j=>M j i:=by
   refine ⟨λ{M M'} e=>bF λi hi j hj=>e j hj i hi,λM p hp a b x y=>?_,λ{M p} hp e=>oz hp λr hr=>e r hr⟩
   exact nj (λi j=>M j i) hp a b x y
 have u:=H.uniq M
 have i1:(det n λi j=>idQ j i)=1:=by
   rw [<- pz n]
   congr 1
   funext i j
   unfold idQ
   by_cases z:i=j
   · rw [if_pos z,if_pos z.symm]
   · rw [if_neg z,if_neg λy=>z y.symm]
 simp only [i1,Rat.mul_one] at u
 exact u
noncomputable def mulQ (n:Nat) (F H:Nat->Nat->Rat) (i j:Nat):Rat:=aM (λk=>F i k * H k j) n
theorem fX (m:Nat):∀ (k:Nat) (M:Nat->Nat->Rat),(∀ i,k<=i->i < k + m->∀ j < k,M i j=0)->det (k + m) M=det k M * det m λi j=>M (k + i) (k + j)
 | 0,M,_=>by
   rw [Nat.zero_add]
   show det m M=1 * _
   rw [Rat.one_mul]
   congr 1
   funext i j
   rw [Nat.zero_add,Nat.zero_add]
 | k + 1,M,h=>by
   have a:k + 1 + m=(k + m) + 1:=by omega
   rw [a,det,det,jW]
   have tail:∀ t,aM (λi=>sgn i * M i 0 * det (k + m) (minor M i)) (k + 1 + t)=aM (λi=>sgn i * M i 0 * det (k + m) (minor M i)) (k + 1)\/¬ t<=m:=by
     intro t
     induction t with
     | zero=>exact .inl rfl
     | succ t ih=>
       by_cases q:t + 1<=m
       · rcases ih with ih | ih
         · refine .inl ?_
           rw [show k + 1 + (t + 1)=(k + 1 + t) + 1 by omega,aM,ih,h (k + 1 + t) (by omega) (by omega) 0 (by omega)]
           grind
         · omega
       · exact .inr q
   rcases tail m with e | e
   · rw [show k + m + 1=k + 1 + m by omega,e]
     refine aN λi hi=>?_
     rw [fX m k (minor M i) λr h1 h2 c hc=>?_]
     · have:(λr c=>minor M i (k + r) (k + c))=λr c=>M (k + 1 + r) (k + 1 + c):=by
         funext r c
         unfold minor skp
         rw [if_neg (by omega),show k + r + 1=k + 1 + r by omega,show k + c + 1=k + 1 + c by omega]
       rw [this]
       grind
     · unfold minor skp
       rw [if_neg (by omega)]
       exact h _ (by omega) (by omega) _ (by omega)
   · exact absurd (Nat.le_refl m) e
theorem j3 {n k:Nat} (d:Rat) (β:Nat->Nat->Rat) (M:Nat->Nat->Rat):∀ t,k + t<=n->det n (λi j=>if k<=i/\i < k + t then d * M i j + aM (λa=>β i a * M a j) k else M i j)=d ^ t * det n M
 | 0,_=>by
   rw [Rat.pow_zero,Rat.one_mul]
   congr 1
   funext i j
   have n0:¬ (k<=i/\i < k + 0):=by omega
   rw [if_neg n0]
 | t + 1,h=>by
   have ih:=j3 (n:=n) (k:=k) d β M t (by omega)
   have c:=(ju n).comb (λi j=>if k<=i/\i < k + t then d * M i j + aM (λa=>β i a * M a j) k else M i j) (p:=k + t) (k:=k) (by omega) (by omega) d (β (k + t))
   rw [ih] at c
   rw [Rat.pow_succ,Rat.mul_comm (d ^ t) d,Rat.mul_assoc,<- c]
   congr 1
   funext i j
   unfold aw
   by_cases q:i=k + t
   · subst q
     have n1:¬ (k<=k + t/\k + t < k + t):=by omega
     have p1:k<=k + t/\k + t < k + (t + 1):=by omega
     rw [if_pos p1,if_pos rfl]
     dsimp only
     rw [if_neg n1]
     congr 1
     exact aN λa ha=>by
       have na:¬ (k<=a/\a < k + t):=by omega
       rw [if_neg na]
   · rw [if_neg q]
     dsimp only
     by_cases z:k<=i/\i < k + t
     · rw [if_pos (by omega),if_pos z]
     · rw [if_neg (by omega),if_neg z]
theorem uf {d:Rat} (h:d ≠ 0):∀ t:Nat,d ^ t ≠ 0
 | 0=>by rw [Rat.pow_zero]; exact λz=>by cases z
 | t + 1=>by
   rw [Rat.pow_succ]
   intro z
   rcases Rat.mul_eq_zero.mp z with y | y
   · exact uf h t y
   · exact h y
noncomputable def bm (Y:Nat->Nat->Rat) (k p q:Nat):Rat:=det (k + 1) λr c=>Y (if r < k then r else p) (if c < k then c else q)
noncomputable def bc (Y:Nat->Nat->Rat) (k p i:Nat):Rat:=det (k + 1) (aw (λr c=>Y (if c < k then c else p) r) k (idQ i))
theorem jf (M:Nat->Nat->Rat):det 1 M=M 0 0:=by
 show 0 + 1 * M 0 0 * 1=M 0 0
 grind
theorem uZ (M:Nat->Nat->Rat):det 2 M=M 0 0 * M 1 1 - M 0 1 * M 1 0:=by
 show 0 + 1 * M 0 0 * det 1 (minor M 0) + -1 * M 1 0 * det 1 (minor M 1)=_
 rw [jf,jf]
 show 0 + 1 * M 0 0 * M 1 1 + -1 * M 1 0 * M 0 1=_
 grind
section
variable {Y:Nat->Nat->Rat} {k p q:Nat}
theorem tF:bm Y k p q=det k Y * Y p q + aM (λi=>bc Y k p i * Y i q) k:=by
 have e:bm Y k p q=det (k + 1) (aw (λr c=>Y (if c < k then c else p) r) k λr=>aM (λc=>Y (if c < k then c else p) q * idQ c r) (k + 1)):=by
   unfold bm
   rw [<- tw]
   refine bF λi hi j hj=>?_
   unfold aw
   by_cases z:i=k
   · subst z
     rw [if_pos rfl,if_neg (Nat.lt_irrefl _)]
     exact (fY (λc=>Y (if c < i then c else p) q) j (i + 1) hj).symm
   · rw [if_neg z,if_pos (show i < k by omega)]
 have last:det (k + 1) (aw (λr c=>Y (if c < k then c else p) r) k (idQ k))=det k Y:=by
   rw [fX 1 k _ λi h1 h2 j hj=>?_,jf]
   · have e1:aw (λr c=>Y (if c < k then c else p) r) k (idQ k) (k + 0) (k + 0)=1:=by
       unfold aw idQ
       rw [if_pos (Nat.add_zero k),if_pos (Nat.add_zero k).symm]
     rw [e1,Rat.mul_one,<- tw]
     refine bF λi hi j hj=>?_
     unfold aw
     rw [if_neg (by omega)]
     dsimp only
     rw [if_pos hi]
   · have:i=k:=by omega
     subst this
     unfold aw idQ
     rw [if_pos rfl,if_neg (by omega)]
 rw [e,(ju (k + 1)).sum _ (Nat.lt_succ_self k),aM,last,if_neg (Nat.lt_irrefl _),Rat.add_comm,Rat.mul_comm (Y p q)]
 congr 1
 exact aN λi hi=>by rw [if_pos hi,Rat.mul_comm]; rfl
theorem qF (h:q < k):bm Y k p q=0:=by
 unfold bm
 rw [<- tw]
 refine (ju (k + 1)).same (p:=q) (q:=k) (by omega) (by omega) (by omega) ?_
 funext r
 rw [if_pos h,if_neg (Nat.lt_irrefl _)]
theorem vP:bm Y k k k=det (k + 1) Y:=by
 refine bF λi hi j hj=>?_
 have:∀ r,r < k + 1->(if r < k then r else k)=r:=λr hr=>by split <;> omega
 rw [this i hi,this j hj]
theorem vE {i j:Nat} (h0:det k Y ≠ 0):det k Y * bm Y (k + 1) i j=bm Y k k k * bm Y k i j - bm Y k k j * bm Y k i k:=by
 let W:Nat->Nat->Rat:=λr c=>Y (if r < k + 1 then r else i) (if c < k + 1 then c else j)
 have e:=j3 (n:=k + 2) (k:=k) (det k Y) (λr a=>bc Y k (if r < k + 1 then r else i) a) W 2 (Nat.le_refl _)
 have ent:∀ r c,(if k<=r/\r < k + 2 then det k Y * W r c + aM (λa=>bc Y k (if r < k + 1 then r else i) a * W a c) k else W r c)=if k<=r/\r < k + 2 then bm Y k (if r < k + 1 then r else i) (if c < k + 1 then c else j) else W r c:=λr c=>by
   by_cases z:k<=r/\r < k + 2
   · rw [if_pos z,if_pos z,tF]
     congr 1
     exact aN λa ha=>by simp only [W]; rw [if_pos (show a < k + 1 by omega)]
   · rw [if_neg z,if_neg z]
 simp only [ent] at e
 rw [fX 2 k _ λr h1 h2 c hc=>?_,uZ] at e
 · have a0:k<=k + 0/\k + 0 < k + 2:=by omega
   have a1:k<=k + 1/\k + 1 < k + 2:=by omega
   have b0:k + 0 < k + 1:=by omega
   have b1:¬ k + 1 < k + 1:=by omega
   rw [if_pos a0,if_pos a1,if_pos a0,if_pos a1,if_pos b0,if_neg b1,if_pos b0,if_neg b1,Nat.add_zero] at e
   have dk:(det k λr c=>if k<=r/\r < k + 2 then bm Y k (if r < k + 1 then r else i) (if c < k + 1 then c else j) else W r c)=det k Y:=bF λr hr c hc=>by
     rw [if_neg (by omega)]
     simp only [W]
     rw [if_pos (by omega),if_pos (by omega)]
   rw [dk] at e
   have dw:det (k + 2) W=bm Y (k + 1) i j:=rfl
   rw [dw] at e
   have c:=Rat.inv_mul_cancel (det k Y) h0
   have p2:det k Y ^ 2=det k Y * det k Y:=by rw [Rat.pow_succ,Rat.pow_succ,Rat.pow_zero,Rat.one_mul]
   rw [p2] at e
   have e2:(det k Y)⁻¹ * (det k Y * det k Y * bm Y (k + 1) i j)=(det k Y)⁻¹ * (det k Y * (bm Y k k k * bm Y k i j - bm Y k k j * bm Y k i k)):=congrArg _ e.symm
   rw [Rat.mul_assoc,<- Rat.mul_assoc,c,Rat.one_mul,<- Rat.mul_assoc,c,Rat.one_mul] at e2
   exact e2
 · rw [if_pos ⟨h1,h2⟩,if_pos (show c < k + 1 by omega)]
   exact qF hc
theorem v5 {n:Nat} (h0:det k Y ≠ 0) (hk:k < n) (h:∀ p,k<=p->p < n->bm Y k p k=0):det n Y=0:=by
 have e:=j3 (n:=n) (k:=k) (det k Y) (λr a=>bc Y k r a) Y (n - k) (by omega)
 have ent:∀ r c,(if k<=r/\r < k + (n - k) then det k Y * Y r c + aM (λa=>bc Y k r a * Y a c) k else Y r c)=if k<=r/\r < k + (n - k) then bm Y k r c else Y r c:=λr c=>by
   by_cases z:k<=r/\r < k + (n - k)
   · rw [if_pos z,if_pos z,tF]
   · rw [if_neg z,if_neg z]
 simp only [ent] at e
 have z:(det n λr c=>if k<=r/\r < k + (n - k) then bm Y k r c else Y r c)=0:=by
   obtain ⟨m,hm⟩:∃ m,n=k + (m + 1):=⟨n - k - 1,by omega⟩
   subst hm
   rw [fX (m + 1) k _ λr h1 h2 c hc=>?_]
   · have:det (m + 1) (λi j=>if k<=k + i/\k + i < k + (k + (m + 1) - k) then bm Y k (k + i) (k + j) else Y (k + i) (k + j))=0:=by
       rw [det]
       refine fV λi hi=>?_
       rw [if_pos (by omega),Nat.add_zero,h (k + i) (by omega) (by omega)]
       grind
     rw [this,Rat.mul_zero]
   · rw [if_pos (by omega)]
     exact qF hc
 rw [z] at e
 rcases Rat.mul_eq_zero.mp e.symm with y | y
 · exact absurd y (uf h0 _)
 · exact y
noncomputable def rho (k m r:Nat):Nat:=if r < k then r else if r=k then k + m else if r<=k + m then r - 1 else r
theorem ql {n:Nat}:∀ (m:Nat) (Y:Nat->Nat->Rat),k + m < n->(det n λr=>Y (rho k m r))=sgn m * det n Y
 | 0,Y,_=>by
   have:(λr=>Y (rho k 0 r))=Y:=by
     funext r
     congr 1
     unfold rho
     split
     · rfl
     · split
       · omega
       · split <;> omega
   rw [this]
   show _=1 * _
   rw [Rat.one_mul]
 | m + 1,Y,h=>by
   have ih:=ql (n:=n) m (aw (aw Y (k + m) (Y (k + m + 1))) (k + m + 1) (Y (k + m))) (by omega)
   have s:=(ju n).nb Y (p:=k + m) (by omega) (Y (k + m + 1)) (Y (k + m))
   rw [bI,bI] at s
   rw [s] at ih
   rw [jT]
   have e:(λr=>aw (aw Y (k + m) (Y (k + m + 1))) (k + m + 1) (Y (k + m)) (rho k m r))=λr=>Y (rho k (m + 1) r):=by
     funext r
     by_cases z:rho k m r=k + m + 1
     · rw [z,b7]
       congr 1
       unfold rho at z ⊢
       split at z
       · omega
       · split at z
         · omega
         · split at z
           · omega
           · rename_i a b c
             rw [if_neg a,if_neg b,if_pos (by omega)]
             omega
     · rw [b6 z]
       by_cases y:rho k m r=k + m
       · rw [y,b7]
         congr 1
         unfold rho at y z ⊢
         split at y
         · omega
         · split at y
           · rename_i a b
             rw [if_neg a,if_pos b]
             omega
           · split at y
             · omega
             · omega
       · rw [b6 y]
         congr 1
         unfold rho at y z ⊢
         split at y
         · rename_i a
           rw [if_pos a,if_pos a]
         · rename_i a
           rw [if_neg a] at z
           split at y
           · omega
           · rename_i b
             rw [if_neg b] at z
             rw [if_neg a,if_neg b,if_neg a,if_neg b]
             split at y
             · rename_i c
               rw [if_pos c,if_pos (by omega)]
             · rename_i c
               rw [if_neg c] at z
               rw [if_neg c,if_neg (by omega)]
   rw [e] at ih
   rw [ih]
   grind
theorem yB {m:Nat}:bm (λr=>Y (rho k m r)) k p q=bm Y k (rho k m p) q:=by
 refine bF λr hr c hc=>?_
 dsimp only
 congr 1
 by_cases z:r < k
 · rw [if_pos z,if_pos z]
   unfold rho
   rw [if_pos z]
 · rw [if_neg z,if_neg z]
theorem kS {m:Nat}:(det k λr=>Y (rho k m r))=det k Y:=bF λr hr c hc=>by
 unfold rho
 rw [if_pos hr]
end
noncomputable def ZB (b:Nat) (x:Rat):Prop:=∃ z:Int,x=(z:Rat)/\z.natAbs<=2 ^ b
theorem ZB.mono {b c:Nat} {x:Rat} (h:ZB b x) (hc:b<=c):ZB c x:=by
 obtain ⟨z,e,l⟩:=h
 exact ⟨z,e,Nat.le_trans l (Nat.pow_le_pow_right (by decide) hc)⟩
theorem ZB.mul {b c:Nat} {x y:Rat} (h:ZB b x) (g:ZB c y):ZB (b + c) (x * y):=by
 obtain ⟨u,rfl,l⟩:=h
 obtain ⟨v,rfl,k⟩:=g
 exact ⟨u * v,(Rat.intCast_mul u v).symm,by rw [Int.natAbs_mul,Nat.pow_add]; exact Nat.mul_le_mul l k⟩
theorem ZB.sgn (i:Nat):ZB 0 (sgn i):=by
 show ZB 0 (if i % 2=0 then 1 else -1)
 split
 · exact ⟨1,rfl,by decide⟩
 · exact ⟨-1,rfl,by decide⟩
theorem ZB.sum {b:Nat} {f:Nat->Rat}:∀ {n:Nat},(∀ i < n,ZB b (f i))->∃ z:Int,aM f n=(z:Rat)/\z.natAbs<=n * 2 ^ b
 | 0,_=>⟨0,rfl,Nat.zero_le _⟩
 | n + 1,h=>by
   obtain ⟨u,e,l⟩:=ZB.sum λi hi=>h i (Nat.lt_succ_of_lt hi)
   obtain ⟨v,e',l'⟩:=h n (Nat.lt_succ_self n)
   refine ⟨u + v,by rw [aM,e,e',Rat.intCast_add],?_⟩
   rw [Nat.succ_mul]
   exact Nat.le_trans (Int.natAbs_add_le _ _) (Nat.add_le_add l l')
theorem vG {b:Nat}:∀ {n:Nat} {M:Nat->Nat->Rat},n<=8->(∀ i < n,∀ j < n,ZB b (M i j))->ZB (n * (b + 3)) (det n M)
 | 0,_,_,_=>⟨1,rfl,Nat.one_le_two_pow⟩
 | n + 1,M,hn,h=>by
   obtain ⟨z,e,l⟩:=ZB.sum (b:=b + n * (b + 3)) (f:=λi=>sgn i * M i 0 * det n (minor M i)) (n:=n + 1) λi hi=>by
     have:=((ZB.sgn i).mul (h i hi 0 (by omega))).mul (vG (n:=n) (M:=minor M i) (by omega) λr hr c hc=>h _ (mE hr) _ (by omega))
     exact this.mono (by omega)
   refine ⟨z,e,Nat.le_trans l ?_⟩
   rw [show (n + 1) * (b + 3)=3 + (b + n * (b + 3)) by rw [Nat.succ_mul]; omega,Nat.pow_add 2 3]
   exact Nat.mul_le_mul_right _ (by omega)
theorem ZB.num {b:Nat} {x:Rat} (h:ZB b x):x=(x.num:Rat)/\x.num.natAbs<=2 ^ b:=by
 obtain ⟨z,rfl,l⟩:=h
 rw [Rat.num_intCast]
 exact ⟨rfl,l⟩
noncomputable def lim:Nat:=2 ^ 3900
noncomputable def above (n j S:Nat):List Nat:=((List.range (n - (j + 1))).map (j + 1 + ·)).filter λk=>S.testBit k
section
variable {P:Program} {w:World} {K:PySem.W.Frag} {mg:Str->Option Value} {base:Heap} {k:Nat} {f:Addr} {fd:FuncData} {qual:Str}
end
noncomputable def jg:Int->List Int->List Int
 | _,[]=>[]
 | c,b :: r=>c.fmod b :: jg (c.fdiv b) r
noncomputable def wc (c:Int) (bs:List Int):Int:=bs.foldl (λc b=>c.fdiv b) c
noncomputable def yw (c:Int) (k:Nat) (b:Int):Int:=(((((c * 48271 + (k:Int) * k * 69621 + (k:Int) * 16807 + 11).fmod 2147483647) * 40692 + c + 31 * (k:Int)).fmod 2147483399).fdiv 7).fmod b
noncomputable def vN (c:Int) (bs:List Int):List Int:=(List.range bs.length).map λk=>yw c k (bs.getD k 0)
noncomputable def nums (c:Int) (bs:List Int):List Int:=if (10:Int) ^ (18:Int).toNat<=kn c then jg c bs else vN c bs
theorem kL:∀ (bs:List Int) (c b:Int),jg c (bs++[b])=jg c bs++[(wc c bs).fmod b]
 | [],_,_=>rfl
 | a :: bs,c,b=>by rw [List.cons_append,jg,jg,kL bs]; rfl
theorem ji:∀ (bs:List Int) (c:Int),(jg c bs).length=bs.length
 | [],_=>rfl
 | _ :: bs,c=>congrArg (· + 1) (ji bs _)
theorem ig (c:Int) (bs:List Int):(nums c bs).length=bs.length:=by
 unfold nums
 split
 · exact ji bs c
 · simp [vN]
theorem qU:∀ (bs:List Int) (c:Int),(∀ b ∈ bs,0 < b)->∀ (i:Nat),i < bs.length->0<=(jg c bs).getD i 0/\(jg c bs).getD i 0 < bs.getD i 0
 | b :: bs,c,h,0,_=>by
   have:=h b (List.mem_cons_self ..)
   exact ⟨Int.fmod_nonneg_of_pos c this,Int.fmod_lt_of_pos c this⟩
 | b :: bs,c,h,i + 1,hi=>by
   have:=qU bs (c.fdiv b) (λx hx=>h x (List.mem_cons_of_mem _ hx)) i (by simpa using hi)
   simpa [jg] using this
theorem me {c:Int} {bs:List Int} (h:∀ b ∈ bs,0 < b) {i:Nat} (hi:i < bs.length):0<=(nums c bs).getD i 0/\(nums c bs).getD i 0 < bs.getD i 0:=by
 unfold nums
 split
 · exact qU bs c h i hi
 · have hp:0 < bs.getD i 0:=h _ (by simp [hi])
   have e:(vN c bs).getD i 0=yw c i (bs.getD i 0):=by simp [vN,hi]
   rw [e]
   exact ⟨Int.fmod_nonneg_of_pos _ hp,Int.fmod_lt_of_pos _ hp⟩
theorem take_snoc {α:Type} {xs:List α} {i:Nat} (d:α) (h:i < xs.length):xs.take (i + 1)=xs.take i++[xs.getD i d]:=by
 rw [List.take_add_one,List.getElem?_eq_getElem h]
 simp [h]
theorem nJ {b:Int} (h0:0 < b) (h:b < 2 ^ 60):0 < b/\aE b:=⟨h0,mkD (by omega) (by omega)⟩
noncomputable def b8 (ds:List D) (r:Sl):Prop:=∃ (c:Int) (bs:List Int),ds=[.int c,.lst (bs.map .int)]/\bs.length<=10000/\(∀ b ∈ bs,0 < b/\aE b)/\r=.o ((nums c bs).map .int)
section
variable {P:Program} {w:World} {K:PySem.W.Frag} {mg:Str->Option Value} {base:Heap} {k:Nat} {f:Addr} {fd:FuncData} {qual:Str}
theorem lW (F:Fun K "_law_numbers" qual (top 68) f fd) (hb:∀ x ∈ aj,mg x=none):aJ P w K mg base CX0 (k + 1) f fd ["_law_cell_here","_law_bases"] (spD K b8):=by
 refine fnD F iq hb (by rintro _ _ ⟨_,_,rfl,_⟩; rfl) ?_
 rintro _ _ ⟨c,bs,rfl,hl,hbs,rfl⟩ cdv A outer s H E b
 have nd:=iq.nd
 have hp:∀ i,i < bs.length->0 < bs.getD i 0/\aE (bs.getD i 0):=λi hi=>hbs _ (by simp [hi])
 refine av 2 nd (br ah) ?_
 refine aY (aF (a5 b (ae (aa 0) ah) jL) (aA af af (gh ⟨by decide,by decide,by decide⟩)) yg) (λh=>?_) λh=>?_
 · refine cM 3 (λi τ=>∃ s3,τ=[.d (.int (wc c (bs.take i))),.d (.lst (bs.map .int)),.o ((jg c (bs.take i)).map .int),s3,.un,.un]) b nd (aV (aa 1)) wY ⟨_,rfl⟩ (λi hi τ h=>?_) λτ h=>?_
   · obtain ⟨s3,rfl⟩:=h
     have hi:i < bs.length:=by simpa using hi
     obtain ⟨p1,p2⟩:=hp i hi
     refine qR 2 (aA (aa 0) (aa 3) (cc (by omega))) ?_ ?_
     · rw [List.length_map,ji,List.length_take]; omega
     refine av 0 nd (aA (aa 0) (aa 3) (bW p2)) (aR ?_)
     apply ex1
     show [Sl.d (.int ((wc c (bs.take i)).fdiv (bs.getD i 0))),_,Sl.o _,_,_,_]=_
     rw [take_snoc 0 hi,kL,List.map_append]
     unfold wc
     rw [List.foldl_append]
     rfl
   · obtain ⟨s3,rfl⟩:=h
     refine j4 2 ?_
     rw [List.length_map,List.take_of_length_le (Nat.le_refl _)]
     unfold nums
     rw [if_pos (of_decide_eq_true h)]
 · refine pG 4 3 (λi τ=>∃ s3 s4 s5,τ=[.d (.int c),.d (.lst (bs.map .int)),.o (((List.range i).map λk=>yw c k (bs.getD k 0)).map .int),s3,s4,s5]) b nd (qv b (aa 1)) tV ⟨_,_,_,rfl⟩ (λi hi τ h=>?_) λτ h=>?_
   · obtain ⟨s3,s4,s5,rfl⟩:=h
     have hi:i < bs.length:=by rw [cb,List.length_map] at hi; exact hi
     obtain ⟨p1,p2⟩:=hp i hi
     refine av 5 nd (aA (aA (aA (aA (aA (aa 0) af (bC (mkR (by decide)))) (aA (aA (aa 4) (aa 4) (bC (mkL (by omega)))) af (bC (mkR (by decide)))) bj) (aA (aa 4) af (bC (mkR (by decide)))) bj) af bj) af (cc (by decide))) ?_
     refine qR 2 (aA (aA (aA (aA (aA (aA (aa 5) af (bC (mkR (by decide)))) (aa 0) bj) (aA af (aa 4) (bC (mkL (by decide)))) bj) af (cc (by decide))) af (bW (mkD (by decide) (by decide)))) (aa 3) (cc (by omega))) ?_ (aR ?_)
     · rw [List.length_map,List.length_map,List.length_range]; omega
     apply ex3
     rw [List.range_succ,List.map_append,List.map_append]
     rfl
   · obtain ⟨s3,s4,s5,rfl⟩:=h
     refine j4 2 ?_
     rw [cb,List.length_map]
     unfold nums
     rw [if_neg (of_decide_eq_false h)]
     rfl
end
noncomputable def dtR (r:List Int):D:=.lst (r.map .int)
noncomputable def dtM (Ms:List (List Int)) (i j:Nat):Rat:=(((Ms.getD i []).getD j 0:Int):Rat)
theorem atR {row:List Int} {j:Nat} (h:j < row.length):atI (row.map D.int) (j:Int)=some (.int (row.getD j 0)):=pM (i:=(j:Int)) (by omega) (by omega)
section
variable {P:Program} {w:World} {K:PySem.W.Frag} {mg:Str->Option Value} {base:Heap} {k:Nat} {f:Addr} {fd:FuncData} {qual:Str}
end
noncomputable def frD (q:Rat):D:=.tup [.int q.num,.int (q.den:Nat)]
theorem qp (x:Rat):x * (((x.den:Nat):Int):Rat)=(x.num:Rat):=by
 have h:mkRat x.num x.den=x:=by rw [<- Rat.normalize_eq_mkRat x.den_nz]; exact Rat.normalize_self x
 rw [Rat.mkRat_eq_div] at h
 have hd:((x.den:Nat):Rat) ≠ 0:=λz=>x.den_nz (Rat.natCast_eq_zero_iff.mp z)
 rw [Rat.intCast_natCast]
 conv=>lhs; lhs; rw [<- h]
 exact Rat.div_mul_cancel hd
theorem ml {t b:Int} {x:Rat} (hb:0 < b) (h:(t:Rat)=x * (b:Rat)):x.num=t / (Int.gcd t b:Int)/\((x.den:Nat):Int)=b / (Int.gcd t b:Int):=by
 have hb0:((b.toNat:Nat):Rat) ≠ 0:=λz=>by have:=Rat.natCast_eq_zero_iff.mp z; omega
 have hbb:((b:Int):Rat)=((b.toNat:Nat):Rat):=by rw [<- Rat.intCast_natCast,Int.toNat_of_nonneg (by omega)]
 have e:x=mkRat t b.toNat:=by
   rw [Rat.mkRat_eq_div,h,hbb,Rat.mul_div_cancel hb0]
 have g:b.toNat.gcd t.natAbs=Int.gcd t b:=by
   rw [Int.gcd,Nat.gcd_comm,show b.natAbs=b.toNat by omega]
 have nz:¬ b.toNat=0:=by omega
 constructor
 · rw [e,Rat.num_mkRat,if_neg nz,g]
 · rw [e,Rat.den_mkRat,if_neg nz,g,Int.natCast_ediv,Int.toNat_of_nonneg (by omega)]
theorem den_pos (q:Rat):0 < ((q.den:Nat):Int):=by have:=q.den_pos; omega
theorem xN {b:Int} (hb:0 < b):(b:Rat) ≠ 0:=λz=>by have:=Rat.intCast_eq_zero_iff.mp z; omega
noncomputable def Bd (n:Nat) (i:Int):Prop:=i.natAbs < 2 ^ n
theorem Bd.mono {m n:Nat} {i:Int} (h:Bd m i) (hm:m<=n):Bd n i:=Nat.lt_of_lt_of_le h (Nat.pow_le_pow_right (by decide) hm)
theorem Bd.log {n:Nat} {i:Int} (h:Bd n i) (hn:0 < n):i.natAbs.log2 < n:=by
 rcases Nat.eq_zero_or_pos i.natAbs with z | z
 · rw [z]; exact hn
 · exact (Nat.log2_lt (by omega)).mpr h
theorem Bd.mul {m n:Nat} {i j:Int} (h:Bd m i) (g:Bd n j):Bd (m + n) (i * j):=by
 unfold Bd at *
 rw [Int.natAbs_mul,Nat.pow_add]
 rcases Nat.eq_zero_or_pos j.natAbs with z | z
 · rw [z,Nat.mul_zero]; exact Nat.mul_pos (Nat.two_pow_pos m) (Nat.two_pow_pos n)
 · exact Nat.lt_of_lt_of_le (Nat.mul_lt_mul_of_pos_right h z) (Nat.mul_le_mul_left _ (Nat.le_of_lt g))
theorem Bd.aG {m n:Nat} {i j:Int} (h:Bd m i) (g:Bd n j) (hm:m<=1000000) (hn:n<=1000000):aG i j:=
 .inr (.inr ⟨(h.mono (Nat.le_succ_of_le hm)).log (by omega) |> λz=>by
   rcases Nat.eq_zero_or_pos i.natAbs with q | q
   · rw [q]; decide
   · exact Nat.lt_of_lt_of_le ((Nat.log2_lt (by omega)).mpr h) hm,by
   rcases Nat.eq_zero_or_pos j.natAbs with q | q
   · rw [q]; decide
   · exact Nat.lt_of_lt_of_le ((Nat.log2_lt (by omega)).mpr g) hn⟩)
theorem Bd.aE {n:Nat} {j:Int} (h:Bd n j) (h0:j ≠ 0) (hn:n<=9000):aE j:=⟨h0,Nat.lt_of_lt_of_le ((Nat.log2_lt (by omega)).mpr h) hn⟩
theorem Bd.of_dvd {n:Nat} {i j:Int} (h:Bd n j) (hd:i ∣ j) (h0:j ≠ 0):Bd n i:=Nat.lt_of_le_of_lt (Nat.le_of_dvd (by omega) (Int.natAbs_dvd_natAbs.mpr hd)) h
theorem Bd.ediv {n:Nat} {i:Int} (h:Bd n i) (j:Int):Bd n (i / j):=Nat.lt_of_le_of_lt (Int.natAbs_ediv_le_natAbs i j) h
theorem Bd.gcd {n:Nat} {i j:Int} (h:Bd n j) (h0:j ≠ 0):Bd n (Int.gcd i j:Int):=h.of_dvd (Int.gcd_dvd_right ..) h0
theorem jR {i j:Int} (h0:j ≠ 0):(Int.gcd i j:Int) ≠ 0:=λz=>h0 (by have:=Int.gcd_eq_zero_iff.mp (Int.ofNat_eq_zero.mp z); exact this.2)
theorem eF {i j:Int} (t:Int):t.fdiv (Int.gcd i j:Int)=t / (Int.gcd i j:Int):=Int.fdiv_eq_ediv_of_nonneg _ (Int.natCast_nonneg _)
structure Sq (n:Nat) (q:Rat):Prop where
 num:Bd n q.num
 den:Bd n (q.den:Nat)
noncomputable def whl (x:D):Bool:=cw .int x && !cw .bool x
noncomputable def eJ (ds:List D) (r:Sl):Prop:=∃ x,ds=[x]/\r=.d (.bl (whl x))
noncomputable def bu (ds:List D) (r:Sl):Prop:=∃ a b:Int,ds=[.int a,.int b]/\r=.d (.int (Int.gcd a b:Int))
theorem gN (i:Int):kn i=(i.natAbs:Int):=by unfold kn; omega
noncomputable def cV:D->Bool
 | .tup [.int a,.int b]=>decide (1<=b) && decide ((Int.gcd a b:Int)=1)
 | _=>false
theorem vC (q:Rat):cV (frD q)=true:=by
 have h1:=den_pos q
 have h2:Int.gcd q.num (q.den:Nat)=1:=q.reduced
 show (decide ((1:Int)<=(q.den:Nat)) && decide ((Int.gcd q.num (q.den:Nat):Int)=1))=true
 rw [h2,decide_eq_true (show (1:Int)<=(q.den:Nat) by omega)]
 rfl
theorem ou {xs:List D} (h:xs.length ≠ 2):cV (.tup xs)=false:=by
 unfold cV
 split
 · rename_i e; cases e; exact absurd rfl h
 · rfl
noncomputable def cF (ds:List D) (r:Sl):Prop:=∃ x,ds=[x]/\r=.d (.bl (cV x))
noncomputable def cu (ds:List D) (r:Sl):Prop:=∃ (t b:Int) (q:Rat),ds=[.int t,.int b]/\0 < b/\Bd 8999 b/\(t:Rat)=q * (b:Rat)/\r=.d (frD q)
noncomputable def gx (ds:List D) (r:Sl):Prop:=∃ (t b:Int) (q:Rat),ds=[.int t,.int b]/\0 < b/\Bd 8999 b/\(t:Rat)=q * (b:Rat)/\r=.d (frD q)
noncomputable def bR (ds:List D) (r:Sl):Prop:=∃ xs,ds=[.lst xs]/\r=.d (.bl (decide ((1:Int)<=(xs.length:Nat)) && decide (((xs.length:Nat):Int)<=7)))
section
variable {P:Program} {w:World} {K:PySem.W.Frag} {mg:Str->Option Value} {base:Heap} {k:Nat} {f:Addr} {fd:FuncData} {qual:Str}
theorem oD (F:Fun K "is_whole" qual (top 22) f fd) (hb:∀ x ∈ aj,mg x=none):aJ P w K mg base CX0 (k + 1) f fd ["thing"] (spD K eJ):=by
 refine fnD F oK hb (by rintro _ _ ⟨_,rfl,_⟩; rfl) ?_
 rintro _ _ ⟨x,rfl,rfl⟩ cdv A outer s H E b
 exact ax (fb (cx .int b (aa 0)) λh=>(ir (wL (cx .bool b (aa 0))))) rfl
theorem gW (F:Fun K "common_divisor" qual (top 24) f fd) (hb:∀ x ∈ aj,mg x=none):aJ P w K mg base CX0 (k + 1) f fd ["one","other"] (spD K bu):=by
 refine fnD F dh hb (by rintro _ _ ⟨_,_,rfl,_⟩; rfl) ?_
 rintro _ _ ⟨x,y,rfl,rfl⟩ cdv A outer s H E b
 have nd:=dh.nd
 refine av 2 nd (a5 b (ae (aa 0) ah) jL) (av 3 nd (a5 b (ae (aa 1) ah) jL) ?_)
 rw [gN,gN]
 refine mr (λn t τ=>∃ (g:Nat) (s4:Sl),Nat.gcd g n=Int.gcd x y/\t=(!decide ((n:Int)=0))/\τ=[.d (.int x),.d (.int y),.d (.int g),.d (.int n),s4]) b ⟨_,_,_,_,rfl,rfl,rfl⟩ (λn t τ h=>?_) (λn τ h=>?_) λn τ h=>?_
 · obtain ⟨g,s4,_,rfl,rfl⟩:=h
   exact aF (aa 3) af gD
 · obtain ⟨g,s4,hg,ht,rfl⟩:=h
   have hl:n ≠ 0:=λz=>by simp [z] at ht
   have e:(g:Int).fmod n=((g % n:Nat):Int):=by rw [Int.fmod_eq_emod_of_nonneg _ (by omega)]; rfl
   refine av 4 nd (aA (aa 2) (aa 3) (cc (by omega))) ?_
   rw [e]
   refine av 2 nd (aa 3) (av 3 nd (aa 4) (aR ⟨g % n,_,Nat.mod_lt g (Nat.pos_of_ne_zero hl),n,_,?_,rfl,rfl⟩))
   rw [<- hg,Nat.gcd_comm n,<- Nat.gcd_rec,Nat.gcd_comm]
 · obtain ⟨g,s4,hg,ht,rfl⟩:=h
   have hl:n=0:=by simpa using ht
   refine ax (aa 2) ?_
   rw [<- hg,hl,Nat.gcd_zero_right]
theorem jK (F:Fun K "is_fraction" qual (top 23) f fd) (hb:∀ x ∈ aj,mg x=none) (c_is_whole:Cal P w K mg base k "is_whole" eJ) (c_common_divisor:Cal P w K mg base k "common_divisor" bu):aJ P w K mg base CX0 (k + 1) f fd ["thing"] (spD K cF):=by
 refine fnD F jm hb (by rintro _ _ ⟨_,rfl,_⟩; rfl) ?_
 rintro _ _ ⟨x,rfl,rfl⟩ cdv A outer s H E b
 by_cases ht:cw .tuple x=true
 · obtain ⟨xs,rfl⟩:∃ xs,x=.tup xs:=by cases x <;> first | exact ⟨_,rfl⟩ | cases ht
   refine aY (PW.pt (fO (bB (bo (cx .tuple b (aa 0)))) λh=>(hU (aF (a5 b (ae (aa 0) ah) jl) af gD)))) (λh=>?_) λh=>?_
   · refine ax i4 ?_
     have h:(!decide ((xs.length:Int)=2))=true:=h
     have:xs.length ≠ 2:=λz=>by rw [z] at h; cases h
     rw [ou this]
   · have h:(!decide ((xs.length:Int)=2))=false:=h
     have h2:xs.length=2:=by simp at h; omega
     obtain ⟨u,v,rfl⟩:∃ u v,xs=[u,v]:=by
       match xs,h2 with
       | [u,v],_=>exact ⟨u,v,rfl⟩
     refine aY (PW.pt (fO (bB (bo (x_call b c_is_whole (ae (aQ (aa 0) af (bK (aT (i:=0) rfl))) ah) ⟨_,rfl,rfl⟩))) λh=>(hU (bB (bo (x_call b c_is_whole (ae (aQ (aa 0) af (bK (aT (i:=1) rfl))) ah) ⟨_,rfl,rfl⟩)))))) (λh=>?_) λh=>?_
     · refine ax i4 ?_
       have:cV (.tup [u,v])=false:=by cases u <;> cases v <;> first | rfl | cases h
       rw [this]
     · obtain ⟨i,j,rfl,rfl⟩:∃ i j,u=.int i/\v=.int j:=by cases u <;> cases v <;> first | exact ⟨_,_,rfl,rfl⟩ | cases h
       exact ax (fb (d9 (aQ (aa 0) af (bK (aT (i:=1) rfl))) af yg) λh=>(ir (d9 (x_call b c_common_divisor (ae (aQ (aa 0) af (bK (aT (i:=0) rfl))) (ae (aQ (aa 0) af (bK (aT (i:=1) rfl))) ah)) ⟨_,_,rfl,rfl⟩) af bJ))) rfl
 · have e:cw .tuple x=false:=by simpa using ht
   have ef:cV x=false:=by cases x <;> first | rfl | cases e
   refine aY (PW.pt (fO (q:=true) (bB (bo (cx .tuple b (aa 0)))) λh=>(by rw [e] at h; cases h))) (λh=>?_) λh=>?_
   · refine ax i4 ?_
     rw [ef]
   · rw [Bool.or_true] at h; cases h
theorem gv (F:Fun K "in_lowest_terms" qual (top 25) f fd) (hb:∀ x ∈ aj,mg x=none) (c_common_divisor:Cal P w K mg base k "common_divisor" bu):aJ P w K mg base CX0 (k + 1) f fd ["top","bottom"] (spD K cu):=by
 refine fnD F dg hb (by rintro _ _ ⟨_,_,_,rfl,_⟩; rfl) ?_
 rintro _ _ ⟨t,c,q,rfl,h0,h1,hq,rfl⟩ cdv A outer s H E b
 have nd:=dg.nd
 refine av 2 nd (x_call b c_common_divisor (ae (aa 0) (ae (aa 1) ah)) ⟨_,_,rfl,rfl⟩) ?_
 have dv:aE (Int.gcd t c:Int):=(h1.gcd (by omega)).aE (jR (by omega)) (by decide)
 obtain ⟨e1,e2⟩:=ml h0 hq
 refine dZ (aF (aa 1) af pv) (decide_eq_false (by omega)) (ax (cf (ae (aA (aa 0) (aa 2) (bW dv)) (ae (aA (aa 1) (aa 2) (bW dv)) ah))) ?_)
 rw [eF,eF,<- e1,<- e2]
 rfl
theorem nM (F:Fun K "fraction" qual (top 26) f fd) (hb:∀ x ∈ aj,mg x=none) (c_in_lowest_terms:Cal P w K mg base k "in_lowest_terms" cu) (c_is_whole:Cal P w K mg base k "is_whole" eJ):aJ P w K mg base CX0 (k + 1) f fd ["top","bottom"] (spD K gx):=by
 refine fnD F oF hb (by rintro _ _ ⟨_,_,_,rfl,_⟩; rfl) ?_
 rintro _ _ ⟨t,c,q,rfl,h0,h1,hq,rfl⟩ cdv A outer s H E b
 refine dZ (PW.pt (fO (bB (bo (x_call b c_is_whole (ae (aa 0) ah) ⟨_,rfl,rfl⟩))) λh=>(hU (bB (bo (x_call b c_is_whole (ae (aa 1) ah) ⟨_,rfl,rfl⟩)))))) rfl ?_
 refine dZ (aF (aa 1) af bJ) (decide_eq_false (by omega)) ?_
 exact ax (x_call b c_in_lowest_terms (ae (aa 0) (ae (aa 1) ah)) ⟨t,c,q,rfl,h0,h1,hq,rfl⟩) rfl
theorem iR (F:Fun K "is_short_list" qual (top 29) f fd) (hb:∀ x ∈ aj,mg x=none) (y_MOST:∃ t,mg "MOST" = some (.int 7 t)):aJ P w K mg base CX0 (k + 1) f fd ["thing"] (spD K bR):=by
 refine fnD F d8 hb (by rintro _ _ ⟨_,rfl,_⟩; rfl) ?_
 rintro _ _ ⟨xs,rfl,rfl⟩ cdv A outer s H E b
 exact ax (fb (cx .list b (aa 0)) λh=>(ir (mR af (a5 b (ae (aa 0) ah) cX) (uD y_MOST) v8 v8).1)) rfl
end
noncomputable def rwQ (r:List Rat):D:=.lst (r.map frD)
noncomputable def tbQ (M:List (List Rat)):D:=.lst (M.map rwQ)
structure Tq (R C:Nat) (M:List (List Rat)):Prop where
 r1:1<=R
 r7:R<=7
 c1:1<=C
 c7:C<=7
 len:M.length=R
 row:∀ r ∈ M,r.length=C
theorem b5 {α:Type} {f:α->D} {xs:List α} (d:α):∀ i (h:i < (xs.map f).length),(xs.map f)[i]=f (xs.getD i d):=λi h=>by
 have:i < xs.length:=by simpa using h
 simp [this]
theorem cR {α:Type} {f:α->D} {xs:List α} (d:α) {i:Nat} (h:i < xs.length):atI (xs.map f) (i:Int)=some (f (xs.getD i d)):=aT (by simp [h])
theorem aX {α:Type} {xs:List α} {d:α} {i:Nat} (h:i < xs.length):xs.getD i d ∈ xs:=by simp [h]
theorem Tq.at_ {R C:Nat} {M:List (List Rat)} (h:Tq R C M) {i:Nat} (hi:i < R):(M.getD i []).length=C:=h.row _ (aX (by rw [h.len]; exact hi))
theorem sF (n:Nat) (f:Nat->Bool) (h:∀ i,i < n->f i=true):((List.range n).map f).all id=true:=by
 rw [List.all_map,List.all_eq_true]
 intro i hi
 exact h i (List.mem_range.mp hi)
structure Qs (d v:Nat) (q:Rat):Prop where
 den:Bd d (q.den:Nat)
 val:q.num.natAbs<=2 ^ v * q.den
theorem eC {X:Cx} {xs:List D} {n:Nat} (h:xs.length=n):gp X (.builtin "len") [.lst xs] (.d (.int n)):=h ▸ cX
theorem bG {α:Type} (f:α->D) (xs:List α) (d:α) {m:Nat} (h:m=xs.length):(List.range m).map (λi=>f (xs.getD i d))=xs.map f:=by
 subst h
 refine List.ext_getElem (by simp) λi h1 h2=>?_
 have:i < xs.length:=by simpa using h2
 simp [this]
theorem pE {m:Int} {n:Nat} (i:Nat) (h:i < (iF m n).length):(iF m n)[i]=.int (m + (i:Nat)):=gQ m n i h
noncomputable def g9 (ds:List D) (r:Sl):Prop:=∃ q:List Rat,ds=[rwQ q]/\1<=q.length/\q.length<=7/\r=.d (.bl true)
noncomputable def gE (ds:List D) (r:Sl):Prop:=∃ (R C:Nat) (M:List (List Rat)),ds=[tbQ M]/\Tq R C M/\r=.d (.bl true)
noncomputable def bz (ds:List D) (r:Sl):Prop:=∃ (R C:Nat) (M:List (List Rat)),ds=[tbQ M]/\Tq R C M/\r=.d .non
section
variable {P:Program} {w:World} {K:PySem.W.Frag} {mg:Str->Option Value} {base:Heap} {k:Nat} {f:Addr} {fd:FuncData} {qual:Str}
theorem rN (F:Fun K "is_row" qual (top 30) f fd) (hb:∀ x ∈ aj,mg x=none) (c_is_short_list:Cal P w K mg base k "is_short_list" bR) (c_is_fraction:Cal P w K mg base k "is_fraction" cF):aJ P w K mg base CX0 (k + 1) f fd ["thing"] (spD K g9):=by
 refine fnD F k9 hb (by rintro _ _ ⟨_,rfl,_⟩; rfl) ?_
 rintro _ _ ⟨q,rfl,h1,h7,rfl⟩ cdv A outer s H E b
 refine ax (fb (x_call b c_is_short_list (ae (aa 0) ah) ⟨_,rfl,rfl⟩) λh=>(ir (a5 b (ae (aH (bH (cmp 0 (f:=λ_=>.bl true) b (aV (aa 0)) (b5 (f:=frD) (xs:=q) 0) (by rw [List.length_map]; omega) λi hi s0 H0 fp=>(x_call (b.comp s0 H0 _ fp) c_is_fraction (ae (aa 0) ah) ⟨_,rfl,by rw [vC]⟩)))) ah) (jY b.calm ((List.range (q.map frD).length).map λ_=>true) (by rw [List.map_map]; rfl))))) ?_
 rw [List.length_map,decide_eq_true (by omega),decide_eq_true (by omega),sF _ _ λ_ _=>rfl]
 rfl
theorem oJ (F:Fun K "is_table" qual (top 31) f fd) (hb:∀ x ∈ aj,mg x=none) (c_is_short_list:Cal P w K mg base k "is_short_list" bR) (c_is_row:Cal P w K mg base k "is_row" g9):aJ P w K mg base CX0 (k + 1) f fd ["thing"] (spD K gE):=by
 refine fnD F iU hb (by rintro _ _ ⟨_,_,_,rfl,_⟩; rfl) ?_
 rintro _ _ ⟨R,C,M,rfl,t,rfl⟩ cdv A outer s H E b
 have hl:(M.map rwQ).length=R:=by rw [List.length_map,t.len]
 have r1:=t.r1
 have r7:=t.r7
 have c1:=t.c1
 have c7:=t.c7
 refine dZ (PW.pt (fO (bB (bo (x_call b c_is_short_list (ae (aa 0) ah) ⟨_,rfl,rfl⟩))) λh=>(hU (bB (bo (a5 b (ae (aH (bH (cmp 0 (f:=λ_=>.bl true) b (aV (aa 0)) (b5 (f:=rwQ) (xs:=M) []) (by rw [hl]; omega) λi hi s0 H0 fp=>(x_call (b.comp s0 H0 _ fp) c_is_row (ae (aa 0) ah) ⟨_,rfl,?_,?_,rfl⟩)))) ah) (jY b.calm ((List.range (M.map rwQ).length).map λ_=>true) (by rw [List.map_map]; rfl)))))))) ?_ ?_
 · rw [t.at_ (by rw [hl] at hi; exact hi)]; exact c1
 · rw [t.at_ (by rw [hl] at hi; exact hi)]; exact c7
 · rw [hl,decide_eq_true (by omega),decide_eq_true (by omega),sF _ _ λ_ _=>rfl]; rfl
 have e0:atI (M.map rwQ) 0=some (rwQ (M.getD 0 [])):=cR [] (i:=0) (by rw [t.len]; omega)
 refine ax (a5 b (ae (aH (bH (cmp 0 (f:=λ_=>.bl (decide ((C:Int)=(C:Int)))) b (aV (aa 0)) (b5 (f:=rwQ) (xs:=M) []) (by rw [hl]; omega) λi hi s0 H0 fp=>(d9 (a5 (b.comp s0 H0 _ fp) (ae (aa 0) ah) (eC (n:=C) (by rw [List.length_map]; exact t.at_ (by rw [hl] at hi; exact hi)))) (a5 (b.comp s0 H0 _ fp) (ae (aQ (aa 1) af (aO e0)) ah) (eC (n:=C) (by rw [List.length_map]; exact t.at_ (by omega)))) bJ)))) ah) (jY b.calm ((List.range (M.map rwQ).length).map λ_=>decide ((C:Int)=(C:Int))) (by rw [List.map_map]; rfl))) ?_
 rw [sF _ _ λ_ _=>decide_eq_true rfl]
theorem kB (F:Fun K "look_table" qual (top 32) f fd) (hb:∀ x ∈ aj,mg x=none) (c_is_table:Cal P w K mg base k "is_table" gE):aJ P w K mg base CX0 (k + 1) f fd ["thing"] (spD K bz):=by
 refine fnD F gk hb (by rintro _ _ ⟨_,_,_,rfl,_⟩; rfl) ?_
 rintro _ _ ⟨R,C,M,rfl,t,rfl⟩ cdv A outer s H E b
 exact dZ (bB (bo (x_call b c_is_table (ae (aa 0) ah) ⟨R,C,M,rfl,t,rfl⟩))) rfl (aR rfl)
end
noncomputable def scS (s:Int) (q:Rat):Int:=s / (Int.gcd s (q.den:Nat):Int) * (q.den:Nat)
noncomputable def scL (r:List Rat):Int:=r.foldl scS 1
theorem y9 {s:Int} (hs:0 < s) (q:Rat):0 < scS s q/\s ∣ scS s q/\((q.den:Nat):Int) ∣ scS s q:=by
 have hq:=den_pos q
 have g0:0 < (Int.gcd s (q.den:Nat):Int):=by
   have:=jR (i:=s) (j:=(q.den:Nat)) (by omega)
   have:=Int.natCast_nonneg (Int.gcd s (q.den:Nat))
   omega
 have d1:(Int.gcd s (q.den:Nat):Int) ∣ s:=Int.gcd_dvd_left ..
 have d2:(Int.gcd s (q.den:Nat):Int) ∣ ((q.den:Nat):Int):=Int.gcd_dvd_right ..
 have p1:0 < s / (Int.gcd s (q.den:Nat):Int):=Int.ediv_pos_of_pos_of_dvd hs (by omega) d1
 refine ⟨Int.mul_pos p1 hq,?_,Int.dvd_mul_left ..⟩
 obtain ⟨k,hk⟩:=d2
 refine ⟨k,?_⟩
 unfold scS
 conv=>lhs; rhs; rw [hk]
 rw [<- Int.mul_assoc,Int.ediv_mul_cancel d1]
theorem t4 (r:List Rat) (q:Rat):scL (r++[q])=scS (scL r) q:=by unfold scL; rw [List.foldl_append]; rfl
theorem pA:∀ (r:List Rat) (s:Int),0 < s->0 < r.foldl scS s/\s ∣ r.foldl scS s/\∀ q ∈ r,((q.den:Nat):Int) ∣ r.foldl scS s
 | [],s,h=>⟨h,Int.dvd_refl _,λ_ z=>nomatch z⟩
 | q :: r,s,h=>by
   obtain ⟨a1,a2,a3⟩:=y9 h q
   obtain ⟨b1,b2,b3⟩:=pA r _ a1
   exact ⟨b1,Int.dvd_trans a2 b2,λx hx=>(List.mem_cons.mp hx).elim (λe=>by rw [e]; exact Int.dvd_trans a3 b2) (b3 x)⟩
theorem fv (r:List Rat):0 < scL r/\∀ q ∈ r,((q.den:Nat):Int) ∣ scL r:=⟨(pA r 1 (by decide)).1,(pA r 1 (by decide)).2.2⟩
theorem sE {d:Nat}:∀ (r:List Rat) (s:Int) (n:Nat),Bd n s->(∀ q ∈ r,Bd d (q.den:Nat))->Bd (n + r.length * d) (r.foldl scS s)
 | [],s,n,h,_=>by simpa using h
 | q :: r,s,n,h,hd=>by
   have h1:Bd (n + d) (scS s q):=(h.ediv _).mul (hd q (List.mem_cons_self ..))
   have:=sE r _ _ h1 λx hx=>hd x (List.mem_cons_of_mem _ hx)
   rw [List.length_cons,Nat.succ_mul]
   rwa [show n + d + r.length * d=n + (r.length * d + d) by omega] at this
theorem e8 {d:Nat} {r:List Rat} (h:∀ q ∈ r,Bd d (q.den:Nat)):Bd (1 + r.length * d) (scL r):=sE r 1 1 (by unfold Bd; decide) h
noncomputable def cE (ds:List D) (r:Sl):Prop:=∃ (q:List Rat) (d:Nat),ds=[rwQ q]/\q.length<=1000/\(∀ x ∈ q,Bd d (x.den:Nat))/\1 + q.length * d<=8999/\d<=8999/\r=.d (.int (scL q))
noncomputable def whR (r:List Rat) (s:Int):List Int:=r.map λq=>q.num * (s / (q.den:Nat))
theorem zP {q:Rat} {s:Int} (h:((q.den:Nat):Int) ∣ s):((q.num * (s / (q.den:Nat)):Int):Rat)=q * (s:Rat):=by
 obtain ⟨k,rfl⟩:=h
 have:=den_pos q
 rw [Int.mul_ediv_cancel_left _ (by omega),Rat.intCast_mul,Rat.intCast_mul,<- Rat.mul_assoc,qp]
theorem tj {d v n:Nat} {q:Rat} {s:Int} (hq:Qs d v q) (h:((q.den:Nat):Int) ∣ s) (hs:Bd n s):Bd (v + n) (q.num * (s / (q.den:Nat))):=by
 obtain ⟨k,rfl⟩:=h
 have hd:=den_pos q
 rw [Int.mul_ediv_cancel_left _ (by omega)]
 unfold Bd at hs ⊢
 rw [Int.natAbs_mul,Nat.pow_add]
 rw [Int.natAbs_mul,Int.natAbs_natCast] at hs
 have h1:q.num.natAbs * k.natAbs<=2 ^ v * q.den * k.natAbs:=Nat.mul_le_mul_right _ hq.val
 rw [Nat.mul_assoc] at h1
 exact Nat.lt_of_le_of_lt h1 (Nat.mul_lt_mul_of_pos_left hs (Nat.two_pow_pos v))
noncomputable def dB (ds:List D) (r:Sl):Prop:=∃ (q:List Rat) (s:Int) (n:Nat),ds=[rwQ q,.int s]/\q.length<=1000/\(∀ x ∈ q,Sq n x)/\n<=8999/\Bd 8999 s/\r=.o ((whR q s).map .int)
noncomputable def whM (M:List (List Rat)) (ss:List Int):List (List Int):=(List.range M.length).map λi=>whR (M.getD i []) (ss.getD i 0)
theorem lX {α β:Type} {f:α->D} {g:β->D} {xs:List α} {ys:List β} (d:α) (e:β) (i:Nat) (h:i < (ie (xs.map f) (ys.map g)).length):(ie (xs.map f) (ys.map g))[i]=.tup [f (xs.getD i d),g (ys.getD i e)]:=by
 rw [cL,List.length_map,List.length_map] at h
 have h1:i < xs.length:=by omega
 have h2:i < ys.length:=by omega
 simp [ie,h1,h2]
noncomputable def cg (ds:List D) (r:Sl):Prop:=∃ (M:List (List Rat)) (ss:List Int) (n:Nat),ds=[tbQ M,.lst (ss.map .int)]/\M.length=ss.length/\M.length<=1000/\(∀ r ∈ M,r.length<=1000/\∀ x ∈ r,Sq n x)/\n<=8999/\(∀ s ∈ ss,Bd 8999 s)/\r=.o ((whM M ss).map dtR)
noncomputable def tpD (c:List Int):D:=.tup (c.map .int)
noncomputable def mq (cs:List (List Int)):D:=.lst (cs.map tpD)
noncomputable def i6 (c:List Int):Int:=c.getD (c.length - 1) 0
noncomputable def lea (t:Nat) (c:List Int):Int:=if 0 < t then i6 c + 1 else 0
noncomputable def onC (n t:Nat) (c:List Int):List (List Int):=(List.range ((n:Int) - lea t c).toNat).map λk=>c++[lea t c + (k:Nat)]
noncomputable def chs (n:Nat):Nat->List (List Int)
 | 0=>[[]]
 | t + 1=>(chs n t).flatMap (onC n t)
structure Chs (n t:Nat) (c:List Int):Prop where
 len:c.length=t
 at_:∀ i,i < t->0<=c.getD i 0/\c.getD i 0 < n
theorem sX {c:List Int} {x:Int} {i:Nat}:(c++[x]).getD i 0=if i < c.length then c.getD i 0 else if i=c.length then x else 0:=by
 by_cases h:i < c.length
 · rw [if_pos h]; simp [List.getD,List.getElem?_append_left h]
 · rw [if_neg h]
   by_cases e:i=c.length
   · subst e; simp
   · rw [if_neg e]
     simp [List.getD]
     rw [List.getElem?_eq_none (by simp; omega)]
     rfl
theorem pR {n t:Nat} {c:List Int} (h:Chs n t c):0<=lea t c/\lea t c<=n:=by
 unfold lea
 by_cases ht:0 < t
 · have:=h.at_ (t - 1) (by omega)
   rw [if_pos ht,i6,h.len]
   omega
 · rw [if_neg ht]; omega
theorem eQ (n:Nat):∀ t,∀ c ∈ chs n t,Chs n t c
 | 0,c,h=>by
   rw [chs,List.mem_singleton] at h
   subst h
   exact ⟨rfl,λi hi=>absurd hi (by omega)⟩
 | t + 1,c,h=>by
   rw [chs,List.mem_flatMap] at h
   obtain ⟨d,hd,hc⟩:=h
   have ih:=eQ n t d hd
   have hl:=pR ih
   unfold onC at hc
   obtain ⟨k,hk,rfl⟩:=List.mem_map.mp hc
   rw [List.mem_range] at hk
   refine ⟨by rw [List.length_append,ih.len]; rfl,λi hi=>?_⟩
   rw [sX,ih.len]
   by_cases e:i < t
   · rw [if_pos e]; exact ih.at_ i e
   · rw [if_neg e,if_pos (by omega)]; omega
theorem lQ {n t:Nat} {c:List Int} (h:Chs n t c):(onC n t c).length<=n:=by
 have:=pR h
 simp [onC]
 omega
theorem fA {α β:Type} (f:α->List β) (m:Nat):∀ xs:List α,(∀ x ∈ xs,(f x).length<=m)->(xs.flatMap f).length<=xs.length * m
 | [],_=>by simp
 | x :: xs,h=>by
   rw [List.flatMap_cons,List.length_append,List.length_cons,Nat.succ_mul]
   have:=h x (List.mem_cons_self ..)
   have:=fA f m xs λy hy=>h y (List.mem_cons_of_mem _ hy)
   omega
theorem qg {n:Nat} (hn:n<=7):∀ t,(chs n t).length<=7 ^ t
 | 0=>by simp [chs]
 | t + 1=>by
   rw [chs]
   have:=fA (onC n t) 7 (chs n t) λc hc=>Nat.le_trans (lQ (eQ n t c hc)) hn
   have:=qg hn t
   rw [Nat.pow_succ]
   omega
noncomputable def eR (ds:List D) (r:Sl):Prop:=∃ n t:Nat,ds=[.int n,.int t]/\n<=7/\t<=7/\r=.d (mq (chs n t))
theorem vY {cs:List (List Int)} (i:Nat) (h:i < (cs.map tpD).length):(cs.map tpD)[i]=tpD (cs.getD i []):=by
 have:i < cs.length:=by simpa using h
 simp [this]
theorem eZ {α:Type} {xs:List α} {i:Nat} {d:α} (h:i < xs.length):xs.getD i d ∈ xs:=by simp [h]
theorem qL {c:List Int} (h:c ≠ []):atI (c.map D.int) (-1)=some (.int (i6 c)):=by
 have hl:0 < c.length:=List.length_pos_iff.mpr h
 unfold atI ixN i6
 rw [if_neg (by decide),if_pos (by rw [List.length_map]; omega),List.length_map]
 simp only [Option.bind_some]
 have e:(-1 + (c.length:Int)).toNat=c.length - 1:=by omega
 rw [e]
 simp [(by omega:c.length - 1 < c.length)]
section
variable {P:Program} {w:World} {K:PySem.W.Frag} {mg:Str->Option Value} {base:Heap} {k:Nat} {f:Addr} {fd:FuncData} {qual:Str}
theorem oM (F:Fun K "scale_of" qual (top 39) f fd) (hb:∀ x ∈ aj,mg x=none) (c_common_divisor:Cal P w K mg base k "common_divisor" bu):aJ P w K mg base CX0 (k + 1) f fd ["row"] (spD K cE):=by
 refine fnD F iW hb (by rintro _ _ ⟨_,_,rfl,_⟩; rfl) ?_
 rintro _ _ ⟨q,d,rfl,hl,hd,hb1,hd1,rfl⟩ cdv A outer s H E b
 have nd:=iW.nd
 refine av 1 nd af ?_
 refine cM 2 (g:=λi=>frD (q.getD i 0)) (λi τ=>i<=q.length/\∃ s2,τ=[.d (rwQ q),.d (.int (scL (q.take i))),s2]) b nd (aV (aa 0)) (b5 (f:=frD) (xs:=q) 0) ⟨Nat.zero_le _,.un,rfl⟩ (λi hi τ h=>?_) λτ h=>?_
 · obtain ⟨_,s2,rfl⟩:=h
   have hi:i < q.length:=by simpa using hi
   have mm:=aX (d:=(0:Rat)) hi
   have hs:=(fv (q.take i)).1
   have bs:Bd (1 + q.length * d) (scL (q.take i)):=(e8 λx hx=>hd x (List.mem_of_mem_take hx)).mono (by
     have:(q.take i).length * d<=q.length * d:=Nat.mul_le_mul_right _ (by rw [List.length_take]; omega)
     omega)
   have et:q.take (i + 1)=q.take i++[q.getD i 0]:=by rw [List.take_succ,List.getElem?_eq_getElem hi]; simp [hi]
   rw [et,t4]
   generalize scL (q.take i)=sc at hs bs ⊢
   generalize q.getD i 0=x at mm ⊢
   have hx:=den_pos x
   have dv:aE (Int.gcd sc (x.den:Nat):Int):=((hd x mm).gcd (by omega)).aE (jR (by omega)) (by omega)
   refine av 1 nd (aA (aA (aa 1) (x_call b c_common_divisor (ae (aa 1) (ae (aQ (aa 2) af (bK (aT (i:=1) rfl))) ah)) ⟨_,_,rfl,rfl⟩) (bW dv)) (aQ (aa 2) af (bK (aT (i:=1) rfl))) (bC ?_)) (aR ⟨hi,.d (frD x),?_⟩)
   · rw [eF]; exact (bs.ediv _).aG (hd x mm) (by omega) (by omega)
   · rw [eF]; rfl
 · obtain ⟨_,s2,rfl⟩:=h
   rw [List.length_map,List.take_length]
   exact ax (aa 1) rfl
theorem my (F:Fun K "whole_row" qual (top 40) f fd) (hb:∀ x ∈ aj,mg x=none):aJ P w K mg base CX0 (k + 1) f fd ["row","scale"] (spD K dB):=by
 refine fnD F mx hb (by rintro _ _ ⟨_,_,_,rfl,_⟩; rfl) ?_
 rintro _ _ ⟨q,s0,n,rfl,hl,hq,hn,hs,rfl⟩ cdv A outer s H E b
 refine ax (bH (cmp 0 (f:=λi=>.int ((q.getD i 0).num * (s0.fdiv ((q.getD i 0).den:Nat)))) b (aV (aa 0)) (b5 (f:=frD) (xs:=q) 0) (by rw [List.length_map]; omega) λi hi s1 H0 fp=>?_)) ?_
 · have sq:=hq _ (aX (d:=(0:Rat)) (by simpa using hi))
   generalize q.getD i 0=x at sq ⊢
   have hx:=den_pos x
   have e:s0.fdiv (x.den:Nat)=s0 / (x.den:Nat):=Int.fdiv_eq_ediv_of_nonneg _ (by omega)
   exact aA (aQ (aa 0) af (bK (aT (i:=0) rfl))) (aA (aa 1) (aQ (aa 0) af (bK (aT (i:=1) rfl))) (bW (sq.den.aE (by omega) (by omega)))) (bC (by rw [e]; exact sq.num.aG (hs.ediv _) (by omega) (by omega)))
 · refine congrArg Sl.o ((bG (λx:Rat=>D.int (x.num * (s0.fdiv (x.den:Nat)))) q 0 (List.length_map ..)).trans ?_)
   unfold whR
   rw [List.map_map]
   refine List.map_congr_left λx _=>?_
   simp only [Function.comp]
   rw [Int.fdiv_eq_ediv_of_nonneg _ (by have:=den_pos x; omega)]
theorem ku (F:Fun K "whole_rows" qual (top 41) f fd) (hb:∀ x ∈ aj,mg x=none) (c_whole_row:Cal P w K mg base k "whole_row" dB):aJ P w K mg base CX0 (k + 1) f fd ["table","scales"] (spD K cg):=by
 refine fnD F ko hb (by rintro _ _ ⟨_,_,_,rfl,_⟩; rfl) ?_
 rintro _ _ ⟨M,ss,n,rfl,hl,h1,hM,hn,hs,rfl⟩ cdv A outer s H E b
 have zl:(ie (M.map rwQ) (ss.map D.int)).length=M.length:=by rw [cL,List.length_map,List.length_map]; omega
 refine ax (bH (tY 0 1 (g:=λi=>rwQ (M.getD i [])) (g':=λi=>.int (ss.getD i 0)) (f:=λi=>dtR (whR (M.getD i []) (ss.getD i 0))) b (qt b (aa 0) (aa 1)) (lX [] 0) (by rw [zl]; omega) λi hi s0 H0 fp=>?_)) ?_
 · rw [zl] at hi
   obtain ⟨g1,g2⟩:=hM _ (aX (d:=[]) hi)
   exact aH (x_call (b.comp s0 H0 _ fp) c_whole_row (ae (aa 0) (ae (aa 1) ah)) ⟨_,_,n,rfl,g1,g2,hn,hs _ (aX (by omega)),rfl⟩)
 · unfold whM
   rw [zl,List.map_map]
   rfl
theorem j7 (F:Fun K "choices_of" qual (top 33) f fd) (hb:∀ x ∈ aj,mg x=none):aJ P w K mg base CX0 (k + 1) f fd ["many","size"] (spD K eR):=by
 refine fnD F gi hb (by rintro _ _ ⟨_,_,rfl,_⟩; rfl) ?_
 rintro _ _ ⟨n,t,rfl,hn,ht,rfl⟩ cdv A outer s H E b
 have nd:=gi.nd
 refine av 2 nd (aH (br (ae (cf ah) ah))) ?_
 refine cM 3 (λi τ=>∃ s3 s4 s5 s6,τ=[.d (.int n),.d (.int t),.d (mq (chs n i)),s3,s4,s5,s6]) b nd (eG b (aa 1) (by omega) (by omega)) dr ⟨.un,.un,.un,.un,rfl⟩ (λi hi τ h=>?_) λτ h=>?_
 · obtain ⟨s3,s4,s5,s6,rfl⟩:=h
   have hi:i < t:=by rw [ay] at hi; omega
   have l1:=qg hn i
   have l2:7 ^ i<=7 ^ 6:=Nat.pow_le_pow_right (by decide) (by omega)
   refine av 4 nd (br ah) ?_
   refine cM 5 (g:=λl=>tpD ((chs n i).getD l [])) (λl τ=>∃ s5 s6,τ=[.d (.int n),.d (.int t),.d (mq (chs n i)),.d (.int (i:Nat)),.o ((((chs n i).take l).flatMap (onC n i)).map tpD),s5,s6]) b nd (aV (aa 2)) vY ⟨s5,s6,rfl⟩ (λl hl τ h=>?_) λτ h=>?_
   · obtain ⟨s5,s6,rfl⟩:=h
     have hl:l < (chs n i).length:=by simpa using hl
     have ok:=eQ n i _ (eZ (d:=[]) hl)
     have hle:=pR ok
     have len1:=fA (onC n i) 7 ((chs n i).take l) λc hc=>Nat.le_trans (lQ (eQ n i c (List.mem_of_mem_take hc))) hn
     rw [List.length_take] at len1
     have len2:=lQ ok
     refine av 6 nd (oE (s:=.d (.int (lea i ((chs n i).getD l [])))) (aF (aa 3) af mW) (λh=>?_) λh=>?_) ?_
     · have h:=of_decide_eq_true h
       have h0:0 < i:=by omega
       rw [show lea i ((chs n i).getD l [])=i6 ((chs n i).getD l []) + 1 from if_pos h0]
       exact aA (aQ (aa 5) (fS af) (bK (qL λz=>by have:=ok.len; rw [z] at this; simp at this; omega))) af bj
     · have h:=of_decide_eq_false h
       rw [show lea i ((chs n i).getD l [])=0 from if_neg (by omega)]
       exact af
     refine Av 4 (bH (cmp 0 (f:=λk=>tpD (((chs n i).getD l [])++[lea i ((chs n i).getD l []) + (k:Nat)])) b (jF b (aa 6) (aa 0) ⟨by omega,by omega,by omega,by omega⟩) (λk hk=>gQ _ _ k hk) (by rw [ay]; omega) λk hk s0 H0 fp=>?_)) ?_ (aR ⟨.d (tpD ((chs n i).getD l [])),.d (.int (lea i ((chs n i).getD l []))),?_⟩)
     · have e:tpD (((chs n i).getD l [])++[lea i ((chs n i).getD l []) + (k:Nat)])=.tup ((((chs n i).getD l []).map D.int)++[.int (lea i ((chs n i).getD l []) + (k:Nat))]):=by unfold tpD; rw [List.map_append]; rfl
       rw [e]
       exact aA (aa 1) (cf (ae (aa 0) ah)) (sC (by rw [List.length_map,ok.len]; show _ + 1 < _; omega))
     · rw [List.length_map,List.length_map,List.length_range,ay]; omega
     · rw [take_snoc [] hl,List.flatMap_append,List.map_append,ay]
       show [_,_,_,_,Sl.o (_++(List.range ((n:Int) - lea i ((chs n i).getD l [])).toNat).map _),_,_]=_
       simp [onC]
   · obtain ⟨s5,s6,rfl⟩:=h
     refine mV 4 (av 2 nd (aa 4) (aR ⟨.d (.int (i:Nat)),.d (mq (chs n (i + 1))),s5,s6,?_⟩))
     rw [List.length_map,List.take_of_length_le (Nat.le_refl _)]
     rfl
 · obtain ⟨s3,s4,s5,s6,rfl⟩:=h
   refine ax (aa 2) ?_
   rw [ay,Int.toNat_natCast]
end
noncomputable def qM (M:List (List Rat)) (i j:Nat):Rat:=(M.getD i []).getD j 0
theorem Qs.sq {d v:Nat} {q:Rat} (h:Qs d v q):Sq (v + d) q:=by
 refine ⟨?_,h.den.mono (by omega)⟩
 have h1:=h.den
 unfold Bd at h1 ⊢
 rw [Int.natAbs_natCast] at h1
 rw [Nat.pow_add]
 exact Nat.lt_of_le_of_lt h.val (Nat.mul_lt_mul_of_pos_left h1 (Nat.two_pow_pos v))
noncomputable def lP (t:List (List Rat)) (j:Nat):List Rat:=t.map λr=>r.getD j 0
noncomputable def cK (ds:List D) (r:Sl):Prop:=∃ (R C:Nat) (t:List (List Rat)) (j:Nat),ds=[tbQ t,.int (j:Nat)]/\Tq R C t/\j < C/\r=.o ((lP t j).map frD)
noncomputable def bO (t:List (List Rat)) (C:Nat):List (List Rat):=(List.range C).map (lP t)
theorem jt {R C:Nat} {t:List (List Rat)} (h:Tq R C t):Tq C R (bO t C):=⟨h.c1,h.c7,h.r1,h.r7,by simp [bO],λr hr=>by
 unfold bO at hr
 obtain ⟨j,_,rfl⟩:=List.mem_map.mp hr
 unfold lP
 rw [List.length_map,h.len]⟩
theorem si {R C:Nat} {t:List (List Rat)} (h:Tq R C t) {i j:Nat} (hi:i < R) (hj:j < C):qM (bO t C) j i=qM t i j:=by
 have:i < t.length:=by rw [h.len]; exact hi
 unfold qM bO lP
 simp [hj,this]
theorem sU {R C d v:Nat} {t:List (List Rat)} (h:Tq R C t) (hq:∀ r ∈ t,∀ x ∈ r,Qs d v x):∀ r ∈ bO t C,∀ x ∈ r,Qs d v x:=λr hr x hx=>by
 unfold bO at hr
 obtain ⟨j,hj,rfl⟩:=List.mem_map.mp hr
 rw [List.mem_range] at hj
 unfold lP at hx
 obtain ⟨q,hq',rfl⟩:=List.mem_map.mp hx
 exact hq q hq' _ (aX (by rw [h.row q hq']; exact hj))
noncomputable def eP (ds:List D) (r:Sl):Prop:=∃ (R C:Nat) (t:List (List Rat)),ds=[tbQ t]/\Tq R C t/\r=.o ((bO t C).map rwQ)
noncomputable def lK (ns ms:List Int):List Int:=(List.range (min ns.length ms.length)).map λi=>ns.getD i 0 * ms.getD i 0
noncomputable def cj (ds:List D) (r:Sl):Prop:=∃ (ns ms:List Int) (B:Nat),ds=[dtR ns,dtR ms]/\ns.length<=1000/\(∀ x ∈ ns,Bd B x)/\(∀ x ∈ ms,Bd B x)/\B<=900000/\r=.d (.int (lK ns ms).sum)
noncomputable def eX (q c:List Rat):Rat:=aM (λk=>q.getD k 0 * c.getD k 0) q.length
theorem Bc (a s b t:Rat):a * s * (b * t)=a * b * (s * t):=by rw [Rat.mul_assoc,<- Rat.mul_assoc s b t,Rat.mul_comm s b,Rat.mul_assoc b s t,<- Rat.mul_assoc a b]
theorem wW {d v:Nat} {q:Rat} {s:Int} (hq:Qs d v q) (h:((q.den:Nat):Int) ∣ s):(q.num * (s / (q.den:Nat))).natAbs<=2 ^ v * s.natAbs:=by
 obtain ⟨k,rfl⟩:=h
 have hd:=den_pos q
 rw [Int.mul_ediv_cancel_left _ (by omega),Int.natAbs_mul,Int.natAbs_mul,Int.natAbs_natCast,<- Nat.mul_assoc]
 exact Nat.mul_le_mul_right _ hq.val
theorem lN {q:List Rat} {s:Int} {i:Nat} (h:i < q.length):(whR q s).getD i 0=(q.getD i 0).num * (s / ((q.getD i 0).den:Nat)):=by unfold whR; simp [h]
theorem sh {B:Nat} {f:Nat->Int}:∀ n,(∀ i < n,(f i).natAbs<=B)->((List.range n).map f).sum.natAbs<=n * B
 | 0,_=>by simp
 | n + 1,h=>by
   rw [List.range_succ,List.map_append,List.sum_append]
   have h1:=sh n λi hi=>h i (by omega)
   have h2:=h n (by omega)
   rw [Nat.succ_mul]
   simp only [List.map_cons,List.map_nil,List.sum_cons,List.sum_nil,Int.add_zero]
   omega
theorem w4 {K d v:Nat} {q c:List Rat} (h1:q.length=K) (h2:c.length=K) (k7:K<=7) (hq:∀ x ∈ q,Qs d v x) (hc:∀ x ∈ c,Qs d v x):(((lK (whR q (scL q)) (whR c (scL c))).sum:Int):Rat)=eX q c * ((scL q * scL c:Int):Rat)/\Qs (2 + 2 * (K * d)) (2 * v + 3) (eX q c):=by
 obtain ⟨p1,d1⟩:=fv q
 obtain ⟨p2,d2⟩:=fv c
 have l1:(whR q (scL q)).length=K:=by unfold whR; rw [List.length_map,h1]
 have l2:(whR c (scL c)).length=K:=by unfold whR; rw [List.length_map,h2]
 have e:(((lK (whR q (scL q)) (whR c (scL c))).sum:Int):Rat)=eX q c * ((scL q * scL c:Int):Rat):=by
   unfold lK eX
   rw [l1,l2,Nat.min_self,lz,h1,jW]
   refine aN λi hi=>?_
   have mi:=aX (xs:=q) (d:=(0:Rat)) (i:=i) (by omega)
   have ni:=aX (xs:=c) (d:=(0:Rat)) (i:=i) (by omega)
   rw [lN (by omega),lN (by omega),Rat.intCast_mul,zP (d1 _ mi),zP (d2 _ ni),Rat.intCast_mul]
   exact Bc _ _ _ _
 refine ⟨e,?_⟩
 have S0:0 < scL q * scL c:=Int.mul_pos p1 p2
 obtain ⟨f1,f2⟩:=ml S0 e
 have b1:=e8 (d:=d) (r:=q) λx hx=>(hq x hx).den
 have b2:=e8 (d:=d) (r:=c) λx hx=>(hc x hx).den
 rw [h1] at b1
 rw [h2] at b2
 refine ⟨?_,?_⟩
 · rw [f2]
   exact ((b1.mul b2).ediv _).mono (by omega)
 · have zl:(lK (whR q (scL q)) (whR c (scL c))).sum.natAbs<=K * (2 ^ v * (scL q).natAbs * (2 ^ v * (scL c).natAbs)):=by
     unfold lK
     rw [l1,l2,Nat.min_self]
     refine sh K λi hi=>?_
     have mi:=aX (xs:=q) (d:=(0:Rat)) (i:=i) (by omega)
     have ni:=aX (xs:=c) (d:=(0:Rat)) (i:=i) (by omega)
     rw [lN (by omega),lN (by omega),Int.natAbs_mul]
     exact Nat.mul_le_mul (wW (hq _ mi) (d1 _ mi)) (wW (hc _ ni) (d2 _ ni))
   generalize (lK (whR q (scL q)) (whR c (scL c))).sum=z at f1 f2 zl
   generalize hS:scL q * scL c=S at f1 f2 S0
   have sS:(scL q).natAbs * (scL c).natAbs=S.natAbs:=by rw [<- hS,Int.natAbs_mul]
   generalize hg:(Int.gcd z S:Int)=g at f1 f2
   have g0:0 < g:=by
     have:=jR (i:=z) (j:=S) (by omega)
     rw [hg] at this
     have:=Int.natCast_nonneg (Int.gcd z S)
     omega
   have gz:g ∣ z:=by rw [<- hg]; exact Int.gcd_dvd_left ..
   have gS:g ∣ S:=by rw [<- hg]; exact Int.gcd_dvd_right ..
   have ez:(eX q c).num * g=z:=by rw [f1]; exact Int.ediv_mul_cancel gz
   have eS:((eX q c).den:Int) * g=S:=by rw [f2]; exact Int.ediv_mul_cancel gS
   have nz:(eX q c).num.natAbs * g.natAbs=z.natAbs:=by rw [<- Int.natAbs_mul,ez]
   have nS:(eX q c).den * g.natAbs=S.natAbs:=by rw [<- eS,Int.natAbs_mul,Int.natAbs_natCast]
   have key:(eX q c).num.natAbs * g.natAbs<=2 ^ (2 * v + 3) * (eX q c).den * g.natAbs:=by
     rw [nz,Nat.mul_assoc,nS,<- sS]
     refine Nat.le_trans zl ?_
     have e3:(2:Nat) ^ (2 * v + 3)=2 ^ v * 2 ^ v * 8:=by rw [Nat.pow_add,Nat.two_mul,Nat.pow_add]
     rw [e3]
     have:K * (2 ^ v * (scL q).natAbs * (2 ^ v * (scL c).natAbs))=K * (2 ^ v * 2 ^ v * ((scL q).natAbs * (scL c).natAbs)):=by
       congr 1
       rw [Nat.mul_mul_mul_comm]
     rw [this,Nat.mul_comm (2 ^ v * 2 ^ v) 8,Nat.mul_assoc 8]
     exact Nat.mul_le_mul_right _ (by omega)
   exact Nat.le_of_mul_le_mul_right key (by omega)
noncomputable def dJ (ds:List D) (r:Sl):Prop:=∃ (K d v:Nat) (q:List Rat) (cl:List (List Rat)),ds=[rwQ q,.lst ((whM cl (cl.map scL)).map dtR),.lst ((cl.map scL).map .int)]/\q.length=K/\K<=7/\(∀ x ∈ q,Qs d v x)/\cl.length<=1000/\(∀ c ∈ cl,c.length=K/\∀ x ∈ c,Qs d v x)/\2 + 2 * (K * d)<=8999/\v + (1 + K * d)<=8999/\v + d<=8999/\r=.o ((cl.map (eX q)).map frD)
noncomputable def pdM (A B:List (List Rat)) (C:Nat):List (List Rat):=A.map λr=>(bO B C).map (eX r)
theorem uu {R K C:Nat} {A B:List (List Rat)} (h1:Tq R K A) (h2:Tq K C B):Tq R C (pdM A B C):=⟨h1.r1,h1.r7,h2.c1,h2.c7,by unfold pdM; rw [List.length_map,h1.len],λr hr=>by
 unfold pdM at hr
 obtain ⟨x,_,rfl⟩:=List.mem_map.mp hr
 rw [List.length_map]
 exact (jt h2).len⟩
theorem xB {R K C:Nat} {A B:List (List Rat)} (h1:Tq R K A) (h2:Tq K C B) {i j:Nat} (hi:i < R) (hj:j < C):qM (pdM A B C) i j=mulQ K (qM A) (qM B) i j:=by
 have a1:i < A.length:=by rw [h1.len]; exact hi
 have e:qM (pdM A B C) i j=eX (A.getD i []) ((bO B C).getD j []):=by
   have a2:j < (bO B C).length:=by rw [(jt h2).len]; exact hj
   unfold qM pdM
   simp [a1,a2]
 rw [e]
 unfold eX mulQ
 rw [h1.at_ hi]
 refine aN λk hk=>?_
 rw [<- si h2 hk hj]
 rfl
noncomputable def iB (ds:List D) (r:Sl):Prop:=∃ (R K C d v:Nat) (A B:List (List Rat)),ds=[tbQ A,tbQ B]/\Tq R K A/\Tq K C B/\(∀ r ∈ A,∀ x ∈ r,Qs d v x)/\(∀ r ∈ B,∀ x ∈ r,Qs d v x)/\2 + 2 * (K * d)<=8999/\v + (1 + K * d)<=8999/\v + d<=8999/\r=.o ((pdM A B C).map rwQ)
section
variable {P:Program} {w:World} {K:PySem.W.Frag} {mg:Str->Option Value} {base:Heap} {k:Nat} {f:Addr} {fd:FuncData} {qual:Str}
theorem mv (F:Fun K "column_of" qual (top 37) f fd) (hb:∀ x ∈ aj,mg x=none):aJ P w K mg base CX0 (k + 1) f fd ["table","j"] (spD K cK):=by
 refine fnD F l4 hb (by rintro _ _ ⟨_,_,_,_,rfl,_⟩; rfl) ?_
 rintro _ _ ⟨R,C,t,j,rfl,h,hj,rfl⟩ cdv A outer s H E b
 have r7:=h.r7
 refine ax (bH (cmp 0 (g:=λi=>rwQ (t.getD i [])) (f:=λi=>frD ((t.getD i []).getD j 0)) b (aV (aa 0)) (b5 (f:=rwQ) (xs:=t) []) (by rw [List.length_map,h.len]; omega) λi hi s0 H0 fp=>(aQ (aa 0) (aa 1) (aO (cR (f:=frD) (xs:=t.getD i []) 0 (i:=j) ?_))))) ?_
 · rw [h.at_ (by rw [List.length_map,h.len] at hi; exact hi)]; exact hj
 · refine congrArg Sl.o ((bG (λr:List Rat=>frD (r.getD j 0)) t [] (List.length_map ..)).trans ?_)
   unfold lP
   rw [List.map_map]
   rfl
theorem kf (F:Fun K "columns_of" qual (top 36) f fd) (hb:∀ x ∈ aj,mg x=none) (c_column_of:Cal P w K mg base k "column_of" cK):aJ P w K mg base CX0 (k + 1) f fd ["table"] (spD K eP):=by
 refine fnD F j6 hb (by rintro _ _ ⟨_,_,_,rfl,_⟩; rfl) ?_
 rintro _ _ ⟨R,C,t,rfl,h,rfl⟩ cdv A outer s H E b
 have r1:=h.r1
 have c7:=h.c7
 have e0:atI (t.map rwQ) 0=some (rwQ (t.getD 0 [])):=cR [] (i:=0) (by rw [h.len]; omega)
 refine ax (bH (cmp 0 (f:=λj=>rwQ (lP t j)) b (eG (n:=(C:Nat)) b (a5 b (ae (aQ (aa 0) af (aO e0)) ah) (eC (n:=C) (by rw [List.length_map]; exact h.at_ (by omega)))) (by omega) (by omega)) dr (by rw [ay]; omega) λj hj s0 H0 fp=>aH (x_call (b.comp s0 H0 _ fp) c_column_of (ae (aa 1) (ae (aa 0) ah)) ⟨R,C,t,j,rfl,h,by rw [ay] at hj; omega,rfl⟩))) ?_
 unfold bO
 rw [ay,Int.toNat_natCast,List.map_map]
 rfl
theorem gn (F:Fun K "sum_of_products" qual (top 47) f fd) (hb:∀ x ∈ aj,mg x=none):aJ P w K mg base CX0 (k + 1) f fd ["numbers","others"] (spD K cj):=by
 refine fnD F gH hb (by rintro _ _ ⟨_,_,_,rfl,_⟩; rfl) ?_
 rintro _ _ ⟨ns,ms,B,rfl,hl,h1,h2,hB,rfl⟩ cdv A outer s H E b
 have zl:(ie (ns.map D.int) (ms.map D.int)).length=min ns.length ms.length:=by rw [cL,List.length_map,List.length_map]
 refine ax (a5 b (ae (aH (bH (tY 0 1 (g:=λi=>.int (ns.getD i 0)) (g':=λi=>.int (ms.getD i 0)) (f:=λi=>.int (ns.getD i 0 * ms.getD i 0)) b (qt b (aa 0) (aa 1)) (lX 0 0) (by rw [zl]; omega) λi hi s0 H0 fp=>?_))) ah) (zT b.calm (lK ns ms) ?_)) rfl
 · rw [zl] at hi
   exact aA (aa 0) (aa 1) (bC ((h1 _ (aX (by omega))).aG (h2 _ (aX (by omega))) (by omega) (by omega)))
 · unfold lK
   rw [zl,List.map_map]
   rfl
theorem jr (F:Fun K "product_row" qual (top 46) f fd) (hb:∀ x ∈ aj,mg x=none) (c_scale_of:Cal P w K mg base k "scale_of" cE) (c_whole_row:Cal P w K mg base k "whole_row" dB) (c_fraction:Cal P w K mg base k "fraction" gx) (c_sum_of_products:Cal P w K mg base k "sum_of_products" cj):aJ P w K mg base CX0 (k + 1) f fd ["row","whole_columns","scales"] (spD K dJ):=by
 refine fnD F fD hb (by rintro _ _ ⟨_,_,_,_,_,rfl,_⟩; rfl) ?_
 rintro _ _ ⟨K0,d,v,q,cl,rfl,hk,k7,hq,hl,hc,z1,z2,z3,rfl⟩ cdv A outer s H E b
 have nd:=fD.nd
 have bq:=e8 (d:=d) (r:=q) λx hx=>(hq x hx).den
 rw [hk] at bq
 have pq:=(fv q).1
 have lw:(whM cl (cl.map scL)).length=cl.length:=by simp [whM]
 have zl:(ie ((whM cl (cl.map scL)).map dtR) ((cl.map scL).map D.int)).length=cl.length:=by rw [cL,List.length_map,List.length_map,List.length_map,lw,Nat.min_self]
 refine av 3 nd (x_call b c_scale_of (ae (aa 0) ah) ⟨q,d,rfl,by omega,λx hx=>(hq x hx).den,by rw [hk]; omega,by omega,rfl⟩) ?_
 refine av 4 nd (aH (x_call b c_whole_row (ae (aa 0) (ae (aa 3) ah)) ⟨q,scL q,v + d,rfl,by omega,λx hx=>(hq x hx).sq,z3,bq.mono (by omega),rfl⟩)) ?_
 refine ax (bH (tY 0 1 (g:=λi=>dtR (whR (cl.getD i []) (scL (cl.getD i [])))) (g':=λi=>.int (scL (cl.getD i []))) (f:=λi=>frD (eX q (cl.getD i []))) b (qt b (aa 1) (aa 2)) (λi hi=>?_) (by rw [zl]; omega) λi hi s0 H0 fp=>?_)) ?_
 · have hi':i < cl.length:=by rw [zl] at hi; exact hi
   rw [lX [] 0 i hi]
   have e1:(cl.map scL).getD i 0=scL (cl.getD i []):=by simp [hi']
   have e2:(whM cl (cl.map scL)).getD i []=whR (cl.getD i []) ((cl.map scL).getD i 0):=by unfold whM; simp [hi']
   rw [e2,e1]
 · rw [zl] at hi
   have mi:=aX (xs:=cl) (d:=[]) hi
   generalize cl.getD i []=c at mi ⊢
   obtain ⟨lc,qc⟩:=hc c mi
   obtain ⟨o1,o2⟩:=w4 hk lc k7 hq qc
   have pc:=(fv c).1
   have bc:=e8 (d:=d) (r:=c) λx hx=>(qc x hx).den
   rw [lc] at bc
   refine x_call (b.comp s0 H0 _ fp) c_fraction (ae (x_call (b.comp s0 H0 _ fp) c_sum_of_products (ae (aa 2) (ae (aa 0) ah)) ⟨whR q (scL q),whR c (scL c),8999,rfl,by unfold whR; rw [List.length_map]; omega,λx hx=>?_,λx hx=>?_,by decide,rfl⟩) (ae (aA (aa 3) (aa 1) (bC (bq.aG bc (by omega) (by omega)))) ah)) ⟨_,_,eX q c,rfl,Int.mul_pos pq pc,(bq.mul bc).mono (by omega),o1,rfl⟩
   · unfold whR at hx
     obtain ⟨y,hy,rfl⟩:=List.mem_map.mp hx
     exact (tj (hq y hy) ((fv q).2 y hy) bq).mono z2
   · unfold whR at hx
     obtain ⟨y,hy,rfl⟩:=List.mem_map.mp hx
     exact (tj (qc y hy) ((fv c).2 y hy) bc).mono z2
 · rw [zl]
   refine congrArg Sl.o ((bG (λc:List Rat=>frD (eX q c)) cl [] rfl).trans ?_)
   rw [List.map_map]
   rfl
theorem pL (F:Fun K "product" qual (top 45) f fd) (hb:∀ x ∈ aj,mg x=none) (c_look_table:Cal P w K mg base k "look_table" bz) (c_columns_of:Cal P w K mg base k "columns_of" eP) (c_whole_rows:Cal P w K mg base k "whole_rows" cg) (c_scale_of:Cal P w K mg base k "scale_of" cE) (c_product_row:Cal P w K mg base k "product_row" dJ):aJ P w K mg base CX0 (k + 1) f fd ["one","other"] (spD K iB):=by
 refine fnD F gA hb (by rintro _ _ ⟨_,_,_,_,_,_,_,rfl,_⟩; rfl) ?_
 rintro _ _ ⟨R,K0,C,d,v,A0,B,rfl,h1,h2,q1,q2,z1,z2,z3,rfl⟩ cdv A outer s H E b
 have nd:=gA.nd
 have r1:=h1.r1
 have r7:=h1.r7
 have k7:=h1.c7
 have c7:=h2.c7
 have hT:=jt h2
 have qT:=sU h2 q2
 have e0:atI (A0.map rwQ) 0=some (rwQ (A0.getD 0 [])):=cR [] (i:=0) (by rw [h1.len]; omega)
 refine b9 (x_call b c_look_table (ae (aa 0) ah) ⟨R,K0,A0,rfl,h1,rfl⟩) ?_
 refine b9 (x_call b c_look_table (ae (aa 1) ah) ⟨K0,C,B,rfl,h2,rfl⟩) ?_
 refine dZ (aF (a5 b (ae (aQ (aa 0) af (aO e0)) ah) (eC (n:=K0) (by rw [List.length_map]; exact h1.at_ (by omega)))) (a5 b (ae (aa 1) ah) (eC (n:=K0) (by rw [List.length_map]; exact h2.len))) gD) (by rw [decide_eq_true rfl]; rfl) ?_
 refine av 2 nd (aH (x_call b c_columns_of (ae (aa 1) ah) ⟨K0,C,B,rfl,h2,rfl⟩)) ?_
 refine av 3 nd (s:=.d (.lst (((bO B C).map scL).map .int))) (aH (bH (cmp 0 (g:=λi=>rwQ ((bO B C).getD i [])) (f:=λi=>.int (scL ((bO B C).getD i []))) b (aV (aa 2)) (b5 (f:=rwQ) (xs:=bO B C) []) (by rw [List.length_map,hT.len]; omega) λi hi s0 H0 fp=>(x_call (b.comp s0 H0 _ fp) c_scale_of (ae (aa 0) ah) ⟨_,d,rfl,?_,?_,?_,?_,rfl⟩))) ?hx) ?_
 · rw [hT.at_ (by simpa [hT.len] using hi)]; omega
 · exact λx hx=>(qT _ (aX (by simpa using hi)) x hx).den
 · rw [hT.at_ (by simpa [hT.len] using hi)]; omega
 · omega
 case hx=>exact congrArg (λl=>some (D.lst l)) ((bG (λr:List Rat=>D.int (scL r)) (bO B C) [] (List.length_map ..)).trans (by rw [List.map_map]; rfl))
 refine av 4 nd (aH (x_call b c_whole_rows (ae (aa 2) (ae (aa 3) ah)) ⟨bO B C,(bO B C).map scL,v + d,rfl,by rw [List.length_map],by rw [hT.len]; omega,λr hr=>⟨by rw [hT.row r hr]; omega,λx hx=>(qT r hr x hx).sq⟩,z3,?_,rfl⟩)) ?_
 · intro s hs
   obtain ⟨r,hr,rfl⟩:=List.mem_map.mp hs
   have:=e8 (d:=d) (r:=r) λx hx=>(qT _ hr x hx).den
   rw [hT.row r hr] at this
   exact this.mono (by omega)
 refine ax (bH (cmp 0 (g:=λi=>rwQ (A0.getD i [])) (f:=λi=>rwQ ((bO B C).map (eX (A0.getD i [])))) b (aV (aa 0)) (b5 (f:=rwQ) (xs:=A0) []) (by rw [List.length_map,h1.len]; omega) λi hi s0 H0 fp=>aH (x_call (b.comp s0 H0 _ fp) c_product_row (ae (aa 0) (ae (aa 2) (ae (aa 1) ah))) ⟨K0,d,v,_,bO B C,rfl,?_,k7,?_,by rw [hT.len]; omega,λc hc=>⟨hT.row c hc,qT c hc⟩,z1,z2,z3,rfl⟩))) ?_
 · exact h1.at_ (by simpa [h1.len] using hi)
 · exact q1 _ (aX (by simpa using hi))
 · refine congrArg Sl.o ((bG (λr:List Rat=>rwQ ((bO B C).map (eX r))) A0 [] (List.length_map ..)).trans ?_)
   unfold pdM
   rw [List.map_map]
   rfl
end
theorem yW {x y:Rat} (hx:0 < x) (h:0 < x * y):0 < y:=by
 refine Rat.not_le.mp λz=>?_
 have:=Rat.mul_nonneg (Rat.le_of_lt hx) (show 0<=-y by grind)
 rw [Rat.mul_neg] at this
 grind
theorem tX (q:Rat):q.num > 0 ↔ 0 < q:=by
 have d:(0:Rat) < (((q.den:Nat):Int):Rat):=(show ((0:Int):Rat) < _ from Rat.intCast_lt_intCast.mpr (den_pos q))
 have e:=qp q
 constructor
 · intro h
   refine yW d ?_
   rw [Rat.mul_comm,e]
   exact (show ((0:Int):Rat) < _ from Rat.intCast_lt_intCast.mpr h)
 · intro h
   have:=Rat.mul_pos h d
   rw [e] at this
   exact Rat.intCast_lt_intCast.mp (show ((0:Int):Rat) < _ from this)
noncomputable def sgR (x:Rat):Int:=if x=0 then 0 else if 0 < x then 1 else -1
noncomputable def chg:List Int->Nat
 | []=>0
 | [_]=>0
 | a :: b :: l=>(if a=b then 0 else 1) + chg (b :: l)
noncomputable def nzS (xs:List Rat):List Int:=(xs.map sgR).filter λs=>decide (s ≠ 0)
noncomputable def mcS (s:Nat->Int):Nat->Nat × Int
 | 0=>(0,0)
 | k + 1=>(if 0 < k/\((mcS s k).2=0\/(if s k ≠ 0 then s k else -(mcS s k).2) ≠ (mcS s k).2) then (mcS s k).1 + 1 else (mcS s k).1,if s k ≠ 0 then s k else -(mcS s k).2)
theorem v7 {α:Type} (t:α->Bool) (xs:List α) (d:α):((List.range xs.length).filter λi=>t (xs.getD i d)).map (λi=>xs.getD i d)=xs.filter t:=by
 induction xs with
 | nil=>rfl
 | cons x xs ih=>
   rw [List.length_cons,List.range_succ_eq_map,List.filter_cons,List.filter_map,List.filter_cons]
   have e:((List.range xs.length).filter ((λi=>t ((x :: xs).getD i d)) ∘ Nat.succ)).map (λi=>(x :: xs).getD (Nat.succ i) d)=xs.filter t:=ih
   by_cases h:t x=true
   · rw [if_pos (show t ((x :: xs).getD 0 d)=true from h),if_pos h,List.map_cons,List.map_map]
     congr 1
   · rw [if_neg (show ¬ t ((x :: xs).getD 0 d)=true from h),if_neg h,List.map_map]
     exact e
theorem qk:∀ l:List Int,((List.range (l.length - 1)).filter λi=>decide (l.getD (i + 1) 0 ≠ l.getD i 0)).length=chg l
 | []=>rfl
 | [_]=>rfl
 | a :: b :: l=>by
   have ih:=qk (b :: l)
   rw [chg,<- ih]
   show ((List.range (l.length + 1)).filter _).length=_
   rw [List.range_succ_eq_map,List.filter_cons,List.filter_map]
   have e:(((List.range l.length).filter ((λi=>decide ((a :: b :: l).getD (i + 1) 0 ≠ (a :: b :: l).getD i 0)) ∘ Nat.succ)).map Nat.succ).length=((List.range ((b :: l).length - 1)).filter λi=>decide ((b :: l).getD (i + 1) 0 ≠ (b :: l).getD i 0)).length:=by
     rw [List.length_map]
     rfl
   by_cases h:a=b
   · subst h
     rw [if_neg (by simp),if_pos rfl,Nat.zero_add]
     exact e
   · rw [if_pos (by simpa using λz=>h z.symm),if_neg h,List.length_cons,e,Nat.add_comm]
noncomputable def bY (ds:List D) (r:Sl):Prop:=∃ q:List Rat,ds=[rwQ q]/\1<=q.length/\q.length<=7/\r=.d .non
noncomputable def iM (ds:List D) (r:Sl):Prop:=∃ q:Rat,ds=[frD q]/\r=.d (.int (sgR q))
noncomputable def c8 (ds:List D) (r:Sl):Prop:=∃ q:List Rat,ds=[rwQ q]/\q.length<=1000/\r=.o ((q.map sgR).map .int)
noncomputable def bD (ds:List D) (r:Sl):Prop:=∃ q:List Rat,ds=[rwQ q]/\1<=q.length/\q.length<=7/\r=.d (.int (chg (nzS q):Nat))
theorem xY (q:List Rat):(nzS q).length<=q.length:=by
 unfold nzS
 exact Nat.le_trans (List.length_filter_le ..) (by rw [List.length_map]; exact Nat.le_refl _)
noncomputable def cq (ds:List D) (r:Sl):Prop:=∃ q:List Rat,ds=[rwQ q]/\1<=q.length/\q.length<=7/\r=.d (.int ((mcS (λk=>sgR (q.getD k 0)) q.length).1:Nat))
section
variable {P:Program} {w:World} {K:PySem.W.Frag} {mg:Str->Option Value} {base:Heap} {k:Nat} {f:Addr} {fd:FuncData} {qual:Str}
theorem om (F:Fun K "look_row" qual (top 55) f fd) (hb:∀ x ∈ aj,mg x=none) (c_is_row:Cal P w K mg base k "is_row" g9):aJ P w K mg base CX0 (k + 1) f fd ["thing"] (spD K bY):=by
 refine fnD F iV hb (by rintro _ _ ⟨_,rfl,_⟩; rfl) ?_
 rintro _ _ ⟨q,rfl,h1,h7,rfl⟩ cdv A outer s H E b
 exact dZ (bB (bo (x_call b c_is_row (ae (aa 0) ah) ⟨q,rfl,h1,h7,rfl⟩))) rfl (aR rfl)
theorem pF (F:Fun K "sign_of" qual (top 56) f fd) (hb:∀ x ∈ aj,mg x=none):aJ P w K mg base CX0 (k + 1) f fd ["number"] (spD K iM):=by
 refine fnD F o3 hb (by rintro _ _ ⟨_,rfl,_⟩; rfl) ?_
 rintro _ _ ⟨q,rfl,rfl⟩ cdv A outer s H E b
 unfold sgR
 refine aY (aF (aQ (aa 0) af (bK (aT (i:=0) rfl))) af bJ) (λh=>?_) λh=>?_
 · rw [if_pos (Rat.num_eq_zero.mp (of_decide_eq_true h))]
   exact ax af rfl
 · rw [if_neg λz=>of_decide_eq_false h (by rw [z]; rfl)]
   refine ax (oE (aF (aQ (aa 0) af (bK (aT (i:=0) rfl))) af mW) (λh=>?_) λh=>?_) rfl
   · rw [if_pos ((tX q).mp (of_decide_eq_true h))]
     exact af
   · rw [if_neg λz=>of_decide_eq_false h ((tX q).mpr z)]
     exact fS af
theorem nP (F:Fun K "signs_of" qual (top 57) f fd) (hb:∀ x ∈ aj,mg x=none) (c_sign_of:Cal P w K mg base k "sign_of" iM):aJ P w K mg base CX0 (k + 1) f fd ["row"] (spD K c8):=by
 refine fnD F nX hb (by rintro _ _ ⟨_,rfl,_⟩; rfl) ?_
 rintro _ _ ⟨q,rfl,h7,rfl⟩ cdv A outer s H E b
 refine ax (bH (cmp 0 (g:=λi=>frD (q.getD i 0)) (f:=λi=>.int (sgR (q.getD i 0))) b (aV (aa 0)) (b5 (f:=frD) (xs:=q) 0) (by rw [List.length_map]; omega) λi hi s0 H0 fp=>(x_call (b.comp s0 H0 _ fp) c_sign_of (ae (aa 0) ah) ⟨_,rfl,rfl⟩))) ?_
 rw [List.map_map]
 exact congrArg Sl.o (bG (λx:Rat=>D.int (sgR x)) q 0 (List.length_map ..))
set_option maxHeartbeats 1000000 in
theorem iC (F:Fun K "least_changes" qual (top 58) f fd) (hb:∀ x ∈ aj,mg x=none) (c_look_row:Cal P w K mg base k "look_row" bY) (c_signs_of:Cal P w K mg base k "signs_of" c8):aJ P w K mg base CX0 (k + 1) f fd ["row"] (spD K bD):=by
 refine fnD F cB hb (by rintro _ _ ⟨_,rfl,_⟩; rfl) ?_
 rintro _ _ ⟨q,rfl,h1,h7,rfl⟩ cdv A outer s H E b
 have nd:=cB.nd
 refine b9 (x_call b c_look_row (ae (aa 0) ah) ⟨q,rfl,h1,h7,rfl⟩) ?_
 refine av 1 nd (aH (x:=.lst ((nzS q).map .int)) (bH (wy 0 (g:=λi=>.int ((q.map sgR).getD i 0)) (f:=λi=>.int ((q.map sgR).getD i 0)) (t:=λi=>decide ((q.map sgR).getD i 0 ≠ 0)) b (aV (aH (x_call b c_signs_of (ae (aa 0) ah) ⟨q,rfl,by omega,rfl⟩))) wY (by rw [List.length_map,List.length_map]; omega) (λi hi s0 H0 fp=>?_) λi hi _ s0 H0 fp=>aa 0)) ?_) ?_
 · have e:decide ((q.map sgR).getD i 0 ≠ 0)=!decide ((q.map sgR).getD i 0=0):=by simp
   rw [e]
   exact aF (aa 0) af gD
 · refine congrArg (λl=>some (D.lst l)) ?_
   have e:((q.map sgR).map D.int).length=(q.map sgR).length:=List.length_map ..
   unfold nzS
   rw [e,<- v7 (λs=>decide (s ≠ 0)) (q.map sgR) 0]
   generalize q.map sgR=l
   rw [List.map_map]
   rfl
 have ln:=xY q
 generalize nzS q=l at ln ⊢
 refine ax (a5 b (ae (aH (x:=.lst (((List.range (l.length - 1)).filter λi=>decide (l.getD (i + 1) 0 ≠ l.getD i 0)).map λi=>.int (1 + (i:Nat)))) (bH (wy 0 (g:=λi=>.int (1 + (i:Nat))) (f:=λi=>.int (1 + (i:Nat))) (t:=λi=>decide (l.getD (i + 1) 0 ≠ l.getD i 0)) b (jF b af (a5 b (ae (aa 1) ah) (eC (n:=l.length) (List.length_map ..))) (by omega)) pE (by rw [ay]; omega) (λi hi s0 H0 fp=>?_) λi hi _ s0 H0 fp=>aa 0)) ?_) ah) cX) ?_
 · have hi:i + 1 < l.length:=by rw [ay] at hi; omega
   have e:decide (l.getD (i + 1) 0 ≠ l.getD i 0)=!decide (l.getD (i + 1) 0=l.getD i 0):=by simp
   rw [e]
   exact aF (aQ (aa 1) (aa 0) (aO (by rw [show 1 + ((i:Nat):Int)=((i + 1:Nat):Int) by omega]; exact atR hi))) (aQ (aa 1) (aA (aa 0) af fj) (aO (by rw [show 1 + ((i:Nat):Int) - 1=((i:Nat):Int) by omega]; exact atR (by omega)))) gD
 · rw [ay,show (((l.length:Nat):Int) - 1).toNat=l.length - 1 by omega]
   rfl
 · rw [List.length_map,qk]
set_option maxHeartbeats 1000000 in
theorem i7 (F:Fun K "most_changes" qual (top 59) f fd) (hb:∀ x ∈ aj,mg x=none) (c_look_row:Cal P w K mg base k "look_row" bY) (c_signs_of:Cal P w K mg base k "signs_of" c8):aJ P w K mg base CX0 (k + 1) f fd ["row"] (spD K cq):=by
 refine fnD F cO hb (by rintro _ _ ⟨_,rfl,_⟩; rfl) ?_
 rintro _ _ ⟨q,rfl,h1,h7,rfl⟩ cdv A outer s H E b
 have nd:=cO.nd
 refine b9 (x_call b c_look_row (ae (aa 0) ah) ⟨q,rfl,h1,h7,rfl⟩) ?_
 refine av 1 nd af ?_
 refine av 2 nd af ?_
 have lq:(ja ((q.map sgR).map D.int)).length=q.length:=by rw [cb,List.length_map,List.length_map]
 refine pG 3 4 (g:=λi=>.int (i:Nat)) (g':=λi=>.int ((q.map sgR).getD i 0)) (λi τ=>∃ s3 s4 s5,τ=[.d (rwQ q),.d (.int ((mcS (λk=>sgR (q.getD k 0)) i).1:Nat)),.d (.int (mcS (λk=>sgR (q.getD k 0)) i).2),s3,s4,s5]) b nd (qv b (aH (x_call b c_signs_of (ae (aa 0) ah) ⟨q,rfl,by omega,rfl⟩))) tV ⟨_,_,_,rfl⟩ (λi hi τ h=>?_) λτ h=>?_
 · obtain ⟨s3,s4,s5,rfl⟩:=h
   rw [lq] at hi
   have es:(q.map sgR).getD i 0=sgR (q.getD i 0):=by simp [hi]
   rw [es]
   have e2:(mcS (λk=>sgR (q.getD k 0)) (i + 1)).2=if sgR (q.getD i 0) ≠ 0 then sgR (q.getD i 0) else -(mcS (λk=>sgR (q.getD k 0)) i).2:=rfl
   have e1:(mcS (λk=>sgR (q.getD k 0)) (i + 1)).1=if 0 < i/\((mcS (λk=>sgR (q.getD k 0)) i).2=0\/(mcS (λk=>sgR (q.getD k 0)) (i + 1)).2 ≠ (mcS (λk=>sgR (q.getD k 0)) i).2) then (mcS (λk=>sgR (q.getD k 0)) i).1 + 1 else (mcS (λk=>sgR (q.getD k 0)) i).1:=by rw [mcS]
   rw [e1]
   generalize (mcS (λk=>sgR (q.getD k 0)) (i + 1)).2=t at e2 ⊢
   generalize mcS (λk=>sgR (q.getD k 0)) i=st at e2 ⊢
   generalize sgR (q.getD i 0)=sg at e2 ⊢
   obtain ⟨c,l⟩:=st
   simp only at e2 ⊢
   refine av 5 nd (s:=.d (.int t)) (oE (aF (aa 4) af gD) (λh=>?_) λh=>?_) ?_
   · have h:sg ≠ 0:=by simpa using h
     rw [e2,if_pos h]
     exact aa 4
   · have h:¬ sg ≠ 0:=by simpa using h
     rw [e2,if_neg h]
     exact fS (aa 2)
   refine fU (M:=λτ=>∃ s3 s4,τ=[.d (rwQ q),.d (.int ((if 0 < i/\(l=0\/t ≠ l) then c + 1 else c:Nat):Int)),.d (.int l),s3,s4,.d (.int t)]) (PW.pt (lb (aF (aa 3) af mW) λh=>(jH (PW.pt (fO (aF (aa 2) af bJ) λh=>(hU (aF (aa 5) (aa 2) gD))))))) (λh=>?_) (λh=>?_) λτ h=>?_
   · have h:0 < i/\(l=0\/t ≠ l):=by simpa using h
     rw [if_pos h]
     exact av 1 nd (aA (aa 1) af bj) (aR ⟨_,_,rfl⟩)
   · have h:¬ (0 < i/\(l=0\/t ≠ l)):=by
       intro z
       have:(decide ((i:Int) > 0) && (decide (l=0) || !decide (t=l)))=true:=by simpa using z
       rw [this] at h
       cases h
     rw [if_neg h]
     exact aR ⟨_,_,rfl⟩
   · obtain ⟨s3',s4',rfl⟩:=h
     exact av 2 nd (aa 5) (aR ⟨_,_,_,rfl⟩)
 · obtain ⟨s3,s4,s5,rfl⟩:=h
   rw [lq]
   exact ax (aa 1) rfl
end
noncomputable def fsS (l:List Int):Int:=l.getD 0 0
theorem qx (x y:List Rat):nzS (x++y)=nzS x++nzS y:=by
 unfold nzS
 rw [List.map_append,List.filter_append]
theorem xi (a:Rat):nzS [a]=if sgR a=0 then [] else [sgR a]:=by
 unfold nzS
 rw [List.map_cons,List.map_nil,List.filter_cons]
 by_cases h:sgR a=0
 · rw [if_neg (by simp [h]),if_pos h]; rfl
 · rw [if_pos (by simp [h]),if_neg h]; rfl
section
variable {P:Program} {w:World} {K:PySem.W.Frag} {mg:Str->Option Value} {base:Heap} {k:Nat} {f:Addr} {fd:FuncData} {qual:Str}
end
noncomputable def mi (M:Nat->Nat->Rat) (k:Nat) (ρ γ:Nat->Nat):Rat:=det k λr c=>M (ρ r) (γ c)
section
variable {A:Nat->Nat->Rat} {k:Nat}
end
noncomputable def tlS (y x:List Int):Bool:=if chg y=chg x then !(([0,fsS x]:List Int).any λw=>decide (w=fsS y)) else decide (chg x < chg y)
section
variable {P:Program} {w:World} {K:PySem.W.Frag} {mg:Str->Option Value} {base:Heap} {k:Nat} {f:Addr} {fd:FuncData} {qual:Str}
end
noncomputable def bhQ (R C:Nat) (M:List (List Rat)) (x:List Rat):List Rat:=(List.range R).map λi=>aM (λj=>qM M i j * x.getD j 0) C
noncomputable def fN (ds:List D) (r:Sl):Prop:=∃ (R C d v:Nat) (M:List (List Rat)) (x:List Rat),ds=[tbQ M,rwQ x]/\Tq R C M/\x.length=C/\(∀ r ∈ M,∀ q ∈ r,Qs d v q)/\(∀ q ∈ x,Qs d v q)/\2 + 2 * (C * d)<=8999/\v + (1 + C * d)<=8999/\v + d<=8999/\r=.o ((bhQ R C M x).map frD)
theorem sG {C:Nat} {x:List Rat} (h:x.length=C) (c1:1<=C) (c7:C<=7):Tq C 1 (x.map λq=>[q]):=⟨c1,c7,Nat.le_refl 1,by omega,by rw [List.length_map,h],λr hr=>by
 obtain ⟨q,_,rfl⟩:=List.mem_map.mp hr
 rfl⟩
theorem Ap {R C:Nat} {M:List (List Rat)} {x:List Rat} (t:Tq R C M) (h:x.length=C):lP (pdM M (x.map λq=>[q]) 1) 0=bhQ R C M x:=by
 have t2:=sG h t.c1 t.c7
 have tp:=uu t t2
 unfold lP bhQ
 refine List.ext_getElem (by rw [List.length_map,tp.len,List.length_map,List.length_range]) λi h1 h2=>?_
 have hi:i < R:=by simpa using h2
 have e:=xB t t2 hi (j:=0) (by omega)
 have e1:((pdM M (x.map λq=>[q]) 1).map λr=>r.getD 0 0)[i]=qM (pdM M (x.map λq=>[q]) 1) i 0:=by
   unfold qM
   have:i < (pdM M (x.map λq=>[q]) 1).length:=by rw [tp.len]; exact hi
   simp [this]
 rw [e1,e]
 simp only [List.getElem_map,List.getElem_range]
 unfold mulQ
 refine aN λk hk=>?_
 congr 1
 unfold qM
 simp [show k < x.length by omega]
section
variable {P:Program} {w:World} {K:PySem.W.Frag} {mg:Str->Option Value} {base:Heap} {k:Nat} {f:Addr} {fd:FuncData} {qual:Str}
theorem rL (F:Fun K "behind" qual (top 61) f fd) (hb:∀ x ∈ aj,mg x=none) (c_look_table:Cal P w K mg base k "look_table" bz) (c_look_row:Cal P w K mg base k "look_row" bY) (c_column_of:Cal P w K mg base k "column_of" cK) (c_product:Cal P w K mg base k "product" iB):aJ P w K mg base CX0 (k + 1) f fd ["table","row"] (spD K fN):=by
 refine fnD F lj hb (by rintro _ _ ⟨_,_,_,_,_,_,rfl,_⟩; rfl) ?_
 rintro _ _ ⟨R,C,d,v,M,x,rfl,t,hx,hq,hq2,z1,z2,z3,rfl⟩ cdv A outer s H E b
 have c1:=t.c1
 have c7:=t.c7
 have t2:=sG hx c1 c7
 refine b9 (x_call b c_look_table (ae (aa 0) ah) ⟨R,C,M,rfl,t,rfl⟩) ?_
 refine b9 (x_call b c_look_row (ae (aa 1) ah) ⟨x,rfl,by omega,by omega,rfl⟩) ?_
 refine ax (x_call b c_column_of (ae (aH (x:=tbQ (pdM M (x.map λq=>[q]) 1)) (x_call b c_product (ae (aa 0) (ae (aH (x:=tbQ (x.map λq=>[q])) (bH (cmp 0 (g:=λi=>frD (x.getD i 0)) (f:=λi=>rwQ [x.getD i 0]) b (aV (aa 1)) (b5 (f:=frD) (xs:=x) 0) (by rw [List.length_map]; omega) λi hi s0 H0 fp=>aH (br (ae (aa 0) ah)))) ?_) ah)) ⟨R,C,1,d,v,M,_,rfl,t,t2,hq,?_,z1,z2,z3,rfl⟩)) (ae af ah)) ⟨R,1,_,0,rfl,uu t t2,by omega,rfl⟩) ?_
 · refine congrArg (λl=>some (D.lst l)) ((bG (λq:Rat=>rwQ [q]) x 0 (List.length_map ..)).trans ?_)
   rw [List.map_map]
   rfl
 · intro r hr q hq'
   obtain ⟨y,hy,rfl⟩:=List.mem_map.mp hr
   rw [List.mem_singleton.mp hq']
   exact hq2 y hy
 · rw [Ap t hx]
end
noncomputable abbrev kT:Ev.KD (List Int):=Ev.yG Ev.zK
noncomputable abbrev kTT:Ev.KD (List Int × List Int):=Ev.zd kT kT
theorem hdT:kT.dep<=7:=by show 1<=7; decide
theorem kC:kTT.dep<=7:=by show 2<=7; decide
theorem fL {F:PySem.W.Frag} (c:List Int) (H:Hp) (v:V) (h:Den F H v (kT.toD c)):∃ b,v=.ref b:=by
 generalize e:kT.toD c=x at h
 cases h with
 | tup=>exact ⟨_,rfl⟩
 | _=>cases e
theorem p7 {F:PySem.W.Frag} (c:List Int × List Int) (H:Hp) (v:V) (h:Den F H v (kTT.toD c)):∃ b,v=.ref b:=by
 generalize e:kTT.toD c=x at h
 cases h with
 | tup=>exact ⟨_,rfl⟩
 | _=>cases e
section
variable {κ:Type} [DecidableEq κ]
theorem iE (p:κ × D) (m:List (κ × D)) (k:κ):getM (p :: m) k=if p.1=k then some p.2 else getM m k:=by
 unfold getM
 rw [List.find?_cons]
 by_cases e:p.1=k
 · simp [e]
 · simp [e]
theorem kI (k k':κ) (x:D):∀ m:List (κ × D),getM (m.map λy=>if y.1=k then (y.1,x) else y) k'=if k=k'/\(getM m k).isSome then some x else getM m k'
 | []=>by simp [getM]
 | p :: m=>by
   rw [List.map_cons,iE,kI k k' x m,iE,iE]
   by_cases e:p.1=k
   · rw [if_pos e,if_pos e]
     by_cases e':k=k'
     · simp [e,e']
     · simp [e,e']
   · rw [if_neg e,if_neg e]
     by_cases e':p.1=k'
     · simp [e',show ¬ k=k' from λz=>e (e'.trans z.symm)]
     · simp [e']
theorem ny (m:List (κ × D)) (k k':κ) (x:D):getM (fu m k x) k'=if k=k' then some x else getM m k':=by
 unfold fu
 by_cases h:(getM m k).isSome
 · rw [if_pos h,kI]
   simp [h]
 · rw [if_neg h]
   have h:getM m k=none:=by simpa using h
   unfold getM at *
   rw [List.find?_append]
   by_cases e:k=k'
   · subst e
     have h:m.find? (λx=>decide (x.1=k))=none:=by simpa using h
     rw [h]
     simp
   · simp [e]
noncomputable def mkM (v:κ->D) (ks:List κ):List (κ × D):=ks.foldl (λm k=>fu m k (v k)) []
theorem js (v:κ->D) (ks:List κ) (k:κ):mkM v (ks++[k])=fu (mkM v ks) k (v k):=by unfold mkM; rw [List.foldl_append]; rfl
theorem kJ (v:κ->D) (k:κ):∀ (ks:List κ) (m:List (κ × D)),getM (ks.foldl (λm k=>fu m k (v k)) m) k=if k ∈ ks then some (v k) else getM m k
 | [],m=>by simp
 | k0 :: ks,m=>by
   rw [List.foldl_cons,kJ v k ks,ny]
   by_cases h:k ∈ ks
   · simp [h]
   · by_cases e:k0=k
     · simp [e]
     · simp [h,e,show ¬ k=k0 from λz=>e z.symm]
theorem jd {v:κ->D} {ks:List κ} {k:κ} (h:k ∈ ks):getM (mkM v ks) k=some (v k):=by unfold mkM; rw [kJ,if_pos h]
theorem sA (m:List (κ × D)) (k:κ) (x:D):(fu m k x).length<=m.length + 1:=by
 unfold fu
 split <;> simp
theorem lC (v:κ->D):∀ (ks:List κ) (m:List (κ × D)),(ks.foldl (λm k=>fu m k (v k)) m).length<=m.length + ks.length
 | [],m=>by simp
 | k :: ks,m=>by
   rw [List.foldl_cons]
   have:=lC v ks (fu m k (v k))
   have:=sA m k (v k)
   rw [List.length_cons]
   omega
theorem ma (v:κ->D) (ks:List κ):(mkM v ks).length<=ks.length:=by unfold mkM; simpa using lC v ks []
theorem tS {m:List (κ × D)} {k:κ} {x:D} {p:κ × D} (h:p ∈ fu m k x):p=(k,x)\/p ∈ m:=by
 unfold fu at h
 split at h
 · obtain ⟨q,hq,e⟩:=List.mem_map.mp h
   by_cases z:q.1=k
   · rw [if_pos z] at e; exact .inl (by rw [<- e,z])
   · rw [if_neg z] at e; exact .inr (e ▸ hq)
 · rcases List.mem_append.mp h with h | h
   · exact .inr h
   · exact .inl (List.mem_singleton.mp h)
theorem kO (v:κ->D) {p:κ × D}:∀ (ks:List κ) (m:List (κ × D)),p ∈ ks.foldl (λm k=>fu m k (v k)) m->(p.1 ∈ ks/\p.2=v p.1)\/p ∈ m
 | [],m,h=>.inr h
 | k :: ks,m,h=>by
   rw [List.foldl_cons] at h
   rcases kO v ks _ h with ⟨h1,h2⟩ | h
   · exact .inl ⟨List.mem_cons_of_mem _ h1,h2⟩
   · rcases tS h with e | h
     · exact .inl (by rw [e]; exact ⟨List.mem_cons_self ..,rfl⟩)
     · exact .inr h
theorem qj {v:κ->D} {ks:List κ} {p:κ × D} (h:p ∈ mkM v ks):p.1 ∈ ks/\p.2=v p.1:=(kO v ks [] h).elim id λz=>nomatch z
end
noncomputable def ers (c:List Int) (k:Nat):List Int:=c.take k++c.drop (k + 1)
noncomputable def alP (f:List Int->Int) (row c:List Int) (k:Nat):Int:=row.getD (c.getD k 0).toNat 0 * f (ers c k)
noncomputable def alS (f:List Int->Int) (row c:List Int):Nat->Int
 | 0=>0
 | k + 1=>if Int.fmod ((c.length:Int) - (k:Nat)) 2=0 then alS f row c k - alP f row c k else alS f row c k + alP f row c k
noncomputable def alR (f:List Int->Int) (row c:List Int):Int:=alS f row c c.length
theorem zZ (c:List Int) (k:Nat):kT.toD (ers c k)=.tup (Hy.cutD (c.map D.int) none (some (k:Int))++Hy.cutD (c.map D.int) (some ((k:Int) + 1)) none):=by
 rw [show ((k:Int) + 1)=((k + 1:Nat):Int) from rfl,jQ]
 have e:Hy.cutD (c.map D.int) (some ((k + 1:Nat):Int)) none=(c.map D.int).drop (k + 1):=by
   unfold Hy.cutD
   rw [HT.fW,HT.jk]
   rcases Nat.le_total (k + 1) (c.map D.int).length with h | h
   · rw [Nat.min_eq_left h,List.take_of_length_le (by rw [List.length_drop]; exact Nat.le_refl _)]
   · rw [Nat.min_eq_right h,List.drop_of_length_le (Nat.le_refl _),List.drop_of_length_le h,List.take_nil]
 rw [e]
 show D.tup ((ers c k).map D.int)=_
 unfold ers
 rw [List.map_append,List.map_take,List.map_drop]
noncomputable def cy (P:Program) (w:World) (ds:List D) (r:Sl):Prop:=∃ (m:List (List Int × D)) (f:List Int->Int) (row c:List Int) (n p:Nat),ds=[bxD kT hdT P w m,dtR row,tpD c]/\c.length<=7/\(∀ k,k < c.length->0<=c.getD k 0/\c.getD k 0 < row.length)/\(∀ k,k < c.length->getM m (ers c k)=some (.int (f (ers c k)))/\Bd p (f (ers c k)))/\(∀ x ∈ row,Bd n x)/\n<=10000/\p<=10000/\r=.d (.int (alR f row c))
section
variable {P:Program} {w:World} {K:PySem.W.Frag} {mg:Str->Option Value} {base:Heap} {k:Nat} {f:Addr} {fd:FuncData} {qual:Str}
theorem ic (F:Fun K "along_last_row" qual (top 51) f fd) (hb:∀ x ∈ aj,mg x=none):aJ P w K mg base CX0 (k + 1) f fd ["known","row","columns"] (spD K (cy P w)):=by
 refine fnD F dn hb (by rintro _ _ ⟨_,_,_,_,_,_,rfl,_⟩; rfl) ?_
 rintro _ _ ⟨m,g,row,c,n,p,rfl,h7,hc,hg,hr,hn,hp,rfl⟩ cdv A outer s H E b
 have nd:=dn.nd
 have hu:(Xc P w K mg base ["known","row","columns","total","k","part"] qual (top 51) f cdv A outer s H E).A.units + 16 < cLine:=Nat.lt_of_le_of_lt (Nat.add_le_add_left (by decide:16<=64) _) b.room.units
 have lc:(c.map D.int).length=c.length:=List.length_map ..
 refine av 3 nd af ?_
 refine cM 4 (λi τ=>i<=c.length/\∃ s4 s5,τ=[.d (bxD kT hdT P w m),.d (dtR row),.d (tpD c),.d (.int (alS g row c i)),s4,s5]) b nd (eG b (a5 b (ae (aa 2) ah) jl) (by omega) (by omega)) dr ⟨Nat.zero_le _,.un,.un,rfl⟩ (λi hi τ h=>?_) λτ h=>?_
 · obtain ⟨_,s4,s5,rfl⟩:=h
   have hi:i < c.length:=by rw [ay,lc] at hi; omega
   obtain ⟨c1,c2⟩:=hc i hi
   obtain ⟨g1,g2⟩:=hg i hi
   have ht:(c.getD i 0).toNat < row.length:=by omega
   refine av 5 nd (aA (aQ (aa 1) (aQ (aa 2) (aa 4) (bK (atR hi))) (aO (pM c1 ht))) (px (a:=kT) (hd:=hdT) (m:=m) (key:=ers c i) hu (aa 0) (by
     rw [zZ]
     exact aA (uh (aa 2) dH (cP (aa 4)) (by rw [HT.fW,lc]; omega)) (uh (aa 2) (cP (aA (aa 4) af bj)) dH (by rw [show ((i:Int) + 1)=((i + 1:Nat):Int) from rfl,HT.fW,lc]; omega)) (sC (by
       have l1:∀ l u,(Hy.cutD (c.map D.int) l u).length<=7:=λl u=>by unfold Hy.cutD; rw [List.length_take,List.length_drop,lc]; omega
       have:=l1 none (some (i:Int))
       have:=l1 (some ((i:Int) + 1)) none
       omega))) g1 (fL _) se) (bC ((hr _ (eZ ht)).aG g2 (by omega) (by omega)))) ?_
   refine av 3 nd (oE (s:=.d (.int (alS g row c (i + 1)))) (aF (aA (aA (a5 b (ae (aa 2) ah) jl) (aa 4) fj) af (cc (by decide))) af bJ) (λh=>?_) λh=>?_) (aR ⟨hi,_,_,rfl⟩)
   · have h:=of_decide_eq_true h
     rw [lc] at h
     rw [alS,if_pos h]
     exact aA (aa 3) (aa 5) fj
   · have h:=of_decide_eq_false h
     rw [lc] at h
     rw [alS,if_neg h]
     exact aA (aa 3) (aa 5) bj
 · obtain ⟨_,s4,s5,rfl⟩:=h
   refine ax (aa 3) ?_
   rw [ay,lc,Int.toNat_natCast]
   rfl
end
noncomputable def orM (f:List Int->Int) (row:List Int) (cs:List (List Int)):List (List Int × D):=mkM (λc=>D.int (alR f row c)) cs
noncomputable def da (P:Program) (w:World) (ds:List D) (r:Sl):Prop:=∃ (m:List (List Int × D)) (f:List Int->Int) (row:List Int) (cs:List (List Int)) (n p:Nat),ds=[bxD kT hdT P w m,dtR row,mq cs]/\cs.length<=100000/\(∀ c ∈ cs,c.length<=7/\(∀ k,k < c.length->0<=c.getD k 0/\c.getD k 0 < row.length)/\(∀ k,k < c.length->getM m (ers c k)=some (.int (f (ers c k)))/\Bd p (f (ers c k))))/\(∀ x ∈ row,Bd n x)/\n<=10000/\p<=10000/\r=.d (bxD kT hdT P w (orM f row cs))
section
variable {P:Program} {w:World} {K:PySem.W.Frag} {mg:Str->Option Value} {base:Heap} {k:Nat} {f:Addr} {fd:FuncData} {qual:Str}
theorem i5 (F:Fun K "one_row_more" qual (top 50) f fd) (hb:∀ x ∈ aj,mg x=none) (c_along_last_row:Cal P w K mg base k "along_last_row" (cy P w)):aJ P w K mg base CX0 (k + 1) f fd ["known","row","column_choices"] (spD K (da P w)):=by
 refine fnD F fg hb (by rintro _ _ ⟨_,_,_,_,_,_,rfl,_⟩; rfl) ?_
 rintro _ _ ⟨m,g,row,cs,n,p,rfl,h1,hc,hr,hn,hp,rfl⟩ cdv A outer s H E b
 have nd:=fg.nd
 have hu:(Xc P w K mg base ["known","row","column_choices","found","columns"] qual (top 50) f cdv A outer s H E).A.units + 16 < cLine:=Nat.lt_of_le_of_lt (Nat.add_le_add_left (by decide:16<=64) _) b.room.units
 refine av 3 nd (pg (a:=kT) (hd:=hdT)) ?_
 refine cM 4 (g:=λi=>tpD (cs.getD i [])) (λi τ=>∃ s4,τ=[.d (bxD kT hdT P w m),.d (dtR row),.d (mq cs),.x (exK kT hdT P w (orM g row (cs.take i))),s4]) b nd (aV (aa 2)) vY ⟨.un,rfl⟩ (λi hi τ h=>?_) λτ h=>?_
 · obtain ⟨s4,rfl⟩:=h
   have hi:i < cs.length:=by simpa using hi
   obtain ⟨c1,c2,c3⟩:=hc _ (eZ (d:=[]) hi)
   have ln:=ma (λc=>D.int (alR g row c)) (cs.take i)
   rw [List.length_take] at ln
   refine pC 3 (a:=kT) (hd:=hdT) (key:=cs.getD i []) (x:=.int (alR g row (cs.getD i []))) hu rfl (aa 4) (x_call b c_along_last_row (ae (aa 0) (ae (aa 1) (ae (aa 4) ah))) ⟨m,g,row,_,n,p,rfl,c1,c2,c3,hr,hn,hp,rfl⟩) (Nat.le_trans ln (by unfold sizeLine; omega)) (fL _) (aR ⟨.d (tpD (cs.getD i [])),?_⟩)
   rw [take_snoc [] hi]
   unfold orM
   rw [js]
   rfl
 · obtain ⟨s4,rfl⟩:=h
   refine wF 3 (a:=kT) (hd:=hdT) (ax (aa 3) ?_)
   rw [List.length_map,List.take_of_length_le (Nat.le_refl _)]
   rfl
end
theorem xj:∀ n,n < 8->∀ t,t < 7->((chs n (t + 1)).all λc=>(chs n t).contains (c.take t) && (List.range (t + 1)).all λk=>(chs n t).contains (ers c k))=true:=by decide +kernel
theorem lH:∀ n,n < 8->∀ t,t < 8->(chs n t).length<=35:=by decide +kernel
theorem mj {n t:Nat} {c:List Int} (hn:n<=7) (ht:t < 7) (h:c ∈ chs n (t + 1)):c.take t ∈ chs n t/\∀ k,k < t + 1->ers c k ∈ chs n t:=by
 have:=List.all_eq_true.mp (xj n (by omega) t ht) c h
 rw [Bool.and_eq_true] at this
 obtain ⟨h1,h2⟩:=this
 refine ⟨by simpa using h1,λk hk=>?_⟩
 have:=List.all_eq_true.mp h2 k (List.mem_range.mpr hk)
 simpa using this
noncomputable def dtm (R:List (List Int)):Nat->List Int->List Int->Int
 | 0,_,_=>1
 | t + 1,ls,c=>alR (dtm R t (ls.take t)) (R.getD (i6 ls).toNat []) c
structure Rw (m n b:Nat) (R:List (List Int)):Prop where
 len:R.length=m
 row:∀ r ∈ R,r.length=n/\∀ x ∈ r,Bd b x
 m1:1<=m/\m<=7
 n1:1<=n/\n<=7
 b1:b<=1400
theorem sT {f:List Int->Int} {row c:List Int} {N:Nat}:∀ k,(∀ i,i < k->(alP f row c i).natAbs<=N)->(alS f row c k).natAbs<=k * N
 | 0,_=>by simp [alS]
 | k + 1,h=>by
   have ih:=sT k λi hi=>h i (by omega)
   have h1:=h k (by omega)
   rw [alS,Nat.succ_mul]
   split <;> omega
theorem yF {f:List Int->Int} {row c:List Int} {n p:Nat} (h7:c.length<=7) (hr:∀ x ∈ row,Bd n x) (hf:∀ k,k < c.length->Bd p (f (ers c k))):Bd (n + p + 3) (alR f row c):=by
 have h:=sT (f:=f) (row:=row) (c:=c) (N:=2 ^ (n + p)) c.length λi hi=>by
   have h1:Bd n (row.getD (c.getD i 0).toNat 0):=by
     by_cases h:(c.getD i 0).toNat < row.length
     · exact hr _ (eZ h)
     · rw [getD_none (by omega)]
       exact Nat.two_pow_pos n
   exact Nat.le_of_lt (h1.mul (hf i hi))
 unfold Bd alR
 have e:2 ^ (n + p + 3)=8 * 2 ^ (n + p):=by rw [Nat.pow_add]; omega
 have p0:=Nat.two_pow_pos (n + p)
 have:c.length * 2 ^ (n + p)<=7 * 2 ^ (n + p):=Nat.mul_le_mul_right _ h7
 omega
theorem sL {m n b:Nat} {R:List (List Int)} (h:Rw m n b R):∀ t,t<=7->∀ ls c,c ∈ chs n t->Bd (1 + t * (b + 3)) (dtm R t ls c)
 | 0,_,_,_,_=>by unfold Bd dtm; rw [Nat.zero_mul]; decide
 | t + 1,ht,ls,c,hc=>by
   have l:=(eQ n _ c hc).len
   have:=yF (f:=dtm R t (ls.take t)) (row:=R.getD (i6 ls).toNat []) (c:=c) (n:=b) (p:=1 + t * (b + 3)) (by omega) (λx hx=>by
     by_cases hl:(i6 ls).toNat < R.length
     · exact (h.row _ (eZ hl)).2 x hx
     · rw [getD_none (by omega)] at hx
       cases hx) λk hk=>sL h t (by omega) _ _ ((mj h.n1.2 (by omega) hc).2 k (by omega))
   rw [dtm]
   refine this.mono ?_
   rw [Nat.succ_mul]
   omega
noncomputable def km (P:Program) (w:World) (R:List (List Int)) (n t:Nat) (ls:List Int):D:=bxD kT hdT P w (mkM (λc=>D.int (dtm R t ls c)) (chs n t))
noncomputable def knM (P:Program) (w:World) (R:List (List Int)) (m n t:Nat):List (List Int × D):=mkM (km P w R n t) (chs m t)
noncomputable def ky1 (n t:Nat) (ls:List Int):List (List Int × List Int):=(chs n t).map λc=>(ls,c)
noncomputable def kys (m n i:Nat):List (List Int × List Int):=(List.range i).flatMap λt=>(chs m (t + 1)).flatMap (ky1 n (t + 1))
noncomputable def vD (R:List (List Int)) (p:List Int × List Int):Int:=dtm R p.1.length p.1 p.2
noncomputable def fdM (R:List (List Int)) (ks:List (List Int × List Int)):List ((List Int × List Int) × D):=mkM (λp=>D.int (vD R p)) ks
theorem sP {n t:Nat} (hn:n<=7) (ht:t<=7):∀ ls:List (List Int),ls.length<=35->(ls.flatMap (ky1 n t)).length<=1225:=λls hl=>by
 have:=fA (ky1 n t) 35 ls λx _=>by unfold ky1; rw [List.length_map]; exact lH n (by omega) t (by omega)
 omega
theorem kys_len {m n i:Nat} (hm:m<=7) (hn:n<=7) (hi:i<=7):(kys m n i).length<=8575:=by
 have:=fA (λt=>(chs m (t + 1)).flatMap (ky1 n (t + 1))) 1225 (List.range i) λt ht=>sP hn (by have:=List.mem_range.mp ht; omega) _ (lH m (by omega) _ (by have:=List.mem_range.mp ht; omega))
 rw [List.length_range] at this
 unfold kys
 omega
noncomputable def bT (P:Program) (w:World) (ds:List D) (r:Sl):Prop:=∃ (R:List (List Int)) (m n b:Nat),ds=[.lst (R.map dtR)]/\Rw m n b R/\r=.d (.box (bxW kTT kC P w (fdM R (kys m n (min m n)))))
theorem uJ {R:List (List Int)} {i:Int} (h0:0<=i) (h:i.toNat < R.length):atI (R.map dtR) i=some (dtR (R.getD i.toNat [])):=by
 obtain ⟨n,rfl⟩:=Int.eq_ofNat_of_zero_le h0
 exact aT (by
   have h:n < R.length:=h
   simp [h])
theorem xR (c:List Int) (t:Nat) (h:c.length=t + 1):D.tup (Hy.cutD (c.map D.int) none (some (-1)))=kT.toD (c.take t):=by
 unfold Hy.cutD
 have e:HT.sIx (c.map D.int).length (c.map D.int).length (some (-1))=t:=by
   unfold HT.sIx
   simp only []
   rw [if_pos (by decide),List.length_map,h]
   omega
 rw [e,HT.jk,List.drop_zero,Nat.sub_zero,<- List.map_take]
 rfl
theorem kn0 (P:Program) (w:World) (R:List (List Int)) (m n:Nat):knM P w R m n 0=[([],bxD kT hdT P w [([],.int 1)])]:=rfl
section
variable {P:Program} {w:World} {K:PySem.W.Frag} {mg:Str->Option Value} {base:Heap} {k:Nat} {f:Addr} {fd:FuncData} {qual:Str}
set_option maxHeartbeats 1000000 in
theorem gf (F:Fun K "all_determinants" qual (top 49) f fd) (hb:∀ x ∈ aj,mg x=none) (c_choices_of:Cal P w K mg base k "choices_of" eR) (c_one_row_more:Cal P w K mg base k "one_row_more" (da P w)):aJ P w K mg base CX0 (k + 1) f fd ["rows"] (spD K (bT P w)):=by
 refine fnD F cT hb (by rintro _ _ ⟨_,_,_,_,rfl,_⟩; rfl) ?_
 rintro _ _ ⟨R,m,n,b0,rfl,ok,rfl⟩ cdv A outer s H E b
 have nd:=cT.nd
 have hu:(Xc P w K mg base ["rows","found","known","size","fresh","column_choices","some","columns"] qual (top 49) f cdv A outer s H E).A.units + 16 < cLine:=Nat.lt_of_le_of_lt (Nat.add_le_add_left (by decide:16<=64) _) b.room.units
 obtain ⟨⟨m1,m7⟩,n1,n7⟩:=And.intro ok.m1 ok.n1
 have lR:(R.map dtR).length=m:=by rw [List.length_map,ok.len]
 have r0:(R.getD 0 []).length=n:=(ok.row _ (eZ (by rw [ok.len]; omega))).1
 have lr0:((R.getD 0 []).map D.int).length=n:=by rw [List.length_map,r0]
 have a0:atI (R.map dtR) 0=some (dtR (R.getD 0 [])):=uJ (i:=0) (by decide) (by rw [ok.len]; show 0 < m; omega)
 have hmin:(if ((((R.getD 0 []).map D.int).length:Nat):Int) < ((R.map dtR).length:Nat) then ((((R.getD 0 []).map D.int).length:Nat):Int) else ((R.map dtR).length:Nat))=((min m n:Nat):Int):=by
   rw [lR,lr0]
   split <;> omega
 refine av 1 nd (pg (a:=kTT) (hd:=kC)) ?_
 generalize e:Expr.Dict [some (Expr.Tuple [] 0 _)] _ _=ex
 refine av 2 nd (s:=.d (bxD kT hdT P w [([],bxD kT hdT P w [([],.int 1)])])) ?_ ?_ (hs:=by subst e; rfl)
 · subst e
   generalize e:Expr.Dict [some (Expr.Tuple [] 0 _)] [Expr.Constant _ _ _] _=ex
   refine wR (a:=kT) (hd:=hdT) (uE (a:=kT) (hd:=hdT) (key:=[]) (x:=bxD kT hdT P w [([],.int 1)]) hu ?_ ?_ (fL []))
   · show PE _ _ (dE _ _ _ (.d (.tup [])))
     exact cf ah
   · subst e
     refine wR (a:=kT) (hd:=hdT) (m:=[([],.int 1)]) (uE (a:=kT) (hd:=hdT) (key:=[]) (x:=.int 1) hu ?_ af (fL []))
     show PE _ _ (dE _ _ _ (.d (.tup [])))
     exact cf ah
 refine cM 3 (g:=λi=>.int (1 + (i:Nat))) (λi τ=>i<=min m n/\∃ s3 s4 s5 s6 s7,τ=[.d (.lst (R.map dtR)),.x (exK kTT kC P w (fdM R (kys m n i))),.d (bxD kT hdT P w (knM P w R m n i)),s3,s4,s5,s6,s7]) b nd (jF b af (aA (a5 b (ae (a5 b (ae (aa 0) ah) cX) (ae (a5 b (ae (aQ (aa 0) af (aO a0)) ah) cX) ah)) (qE b.calm)) af bj) (by rw [hmin]; omega)) (λk hk=>gQ _ _ k hk) ⟨Nat.zero_le _,.un,.un,.un,.un,.un,by rw [kn0]; rfl⟩ (λi hi τ h=>?_) λτ h=>?_
 · obtain ⟨_,s3,s4,s5,s6,s7,rfl⟩:=h
   have hi:i < min m n:=by rw [ay,hmin] at hi; omega
   have e1:(1 + (i:Nat):Int)=((i + 1:Nat):Int):=by omega
   rw [e1]
   refine av 4 nd (pg (a:=kT) (hd:=hdT)) ?_
   refine av 5 nd (x_call b c_choices_of (ae (a5 b (ae (aQ (aa 0) af (aO a0)) ah) cX) (ae (aa 3) ah)) ⟨n,i + 1,by rw [lr0],n7,by omega,rfl⟩) ?_
   refine cM 6 (g:=λl=>tpD ((chs m (i + 1)).getD l [])) (λl τ=>∃ s6 s7,τ=[.d (.lst (R.map dtR)),.x (exK kTT kC P w (fdM R (kys m n i++((chs m (i + 1)).take l).flatMap (ky1 n (i + 1))))),.d (bxD kT hdT P w (knM P w R m n i)),.d (.int ((i + 1:Nat):Int)),.x (exK kT hdT P w (mkM (km P w R n (i + 1)) ((chs m (i + 1)).take l))),.d (mq (chs n (i + 1))),s6,s7]) b nd (aV (x_call b c_choices_of (ae (a5 b (ae (aa 0) ah) cX) (ae (aa 3) ah)) ⟨m,i + 1,by rw [lR],m7,by omega,rfl⟩)) vY ⟨s6,s7,by simp [mkM]; rfl⟩ (λl hl τ h=>?_) λτ h=>?_
   · obtain ⟨s6,s7,rfl⟩:=h
     have hl:l < (chs m (i + 1)).length:=by simpa using hl
     have hs:=eZ (d:=[]) hl
     generalize hls:(chs m (i + 1)).getD l []=ls at hs
     have okl:=eQ m _ ls hs
     have l35:=lH m (by omega) (i + 1) (by omega)
     have n35:=lH n (by omega) (i + 1) (by omega)
     have lf:=ma (km P w R n (i + 1)) ((chs m (i + 1)).take l)
     rw [List.length_take] at lf
     have ne:ls ≠ []:=λz=>by have:=okl.len; rw [z] at this; cases this
     have last:0<=i6 ls/\i6 ls < m:=by
       have:=okl.at_ i (by omega)
       unfold i6
       rw [okl.len]
       exact this
     have hlr:(i6 ls).toNat < R.length:=by rw [ok.len]; omega
     have hrow:=ok.row _ (eZ (d:=[]) hlr)
     have pre:=(mj m7 (by omega) hs).1
     have key:kT.toD (ls.take i)=D.tup (Hy.cutD (ls.map D.int) none (some (-1))):=(xR ls i okl.len).symm
     refine pC 4 (a:=kT) (hd:=hdT) (key:=ls) (x:=km P w R n (i + 1) ls) hu rfl (aa 6) (x_call b c_one_row_more (ae (px (a:=kT) (hd:=hdT) (m:=knM P w R m n i) (key:=ls.take i) (x:=km P w R n i (ls.take i)) hu (aa 2) (by
       rw [key]
       refine uh (aa 6) dH (cP (fS af)) ?_
       rintro ⟨_,z⟩
       have e:HT.sIx (ls.map D.int).length (ls.map D.int).length (some (-1))=i:=by
         unfold HT.sIx
         simp only []
         rw [if_pos (by decide),List.length_map,okl.len]
         omega
       rw [e,List.length_map,okl.len] at z
       omega) (jd pre) (fL _) λ_ _=>rfl) (ae (aQ (aa 0) (aQ (aa 6) (fS af) (bK (qL ne))) (aO (uJ last.1 hlr))) (ae (aa 5) ah))) ⟨_,dtm R i (ls.take i),_,_,b0,1 + i * (b0 + 3),rfl,by omega,λc hc=>?_,hrow.2,by have:=ok.b1; omega,?_,rfl⟩) (Nat.le_trans lf (by unfold sizeLine; omega)) (fL _) ?_
     · have okc:=eQ n _ c hc
       refine ⟨by rw [okc.len]; omega,λk hk=>?_,λk hk=>?_⟩
       · rw [hrow.1]
         exact okc.at_ k (by rw [okc.len] at hk; exact hk)
       · have hk:k < i + 1:=by rw [okc.len] at hk; exact hk
         have:=(mj n7 (by omega) hc).2 k hk
         exact ⟨jd this,sL ok i (by omega) _ _ this⟩
     · have:=ok.b1
       have:i * (b0 + 3)<=6 * (b0 + 3):=Nat.mul_le_mul_right _ (by omega)
       omega
     have kl:=kys_len (i:=i) m7 n7 (by omega)
     have kk:=sP (t:=i + 1) n7 (by omega) ((chs m (i + 1)).take l) (by rw [List.length_take]; omega)
     refine cM 7 (g:=λj=>tpD ((chs n (i + 1)).getD j [])) (λj τ=>∃ s7,τ=[.d (.lst (R.map dtR)),.x (exK kTT kC P w (fdM R (kys m n i++((chs m (i + 1)).take l).flatMap (ky1 n (i + 1))++((chs n (i + 1)).take j).map λc=>(ls,c)))),.d (bxD kT hdT P w (knM P w R m n i)),.d (.int ((i + 1:Nat):Int)),.x (exK kT hdT P w (fu (mkM (km P w R n (i + 1)) ((chs m (i + 1)).take l)) ls (km P w R n (i + 1) ls))),.d (mq (chs n (i + 1))),.d (tpD ls),s7]) b nd (aV (aa 5)) vY ⟨s7,by simp; rfl⟩ (λj hj τ h=>?_) λτ h=>?_
     · obtain ⟨s7,rfl⟩:=h
       have hj:j < (chs n (i + 1)).length:=by simpa using hj
       have hc:=eZ (d:=[]) hj
       generalize hcs:(chs n (i + 1)).getD j []=c at hc
       have gF:getM (fu (mkM (km P w R n (i + 1)) ((chs m (i + 1)).take l)) ls (km P w R n (i + 1) ls)) ls=some (km P w R n (i + 1) ls):=by rw [ny,if_pos rfl]
       refine pC 1 (a:=kTT) (hd:=kC) (key:=(ls,c)) (x:=.int (vD R (ls,c))) hu rfl (cf (ae (aa 6) (ae (aa 7) ah))) (px (a:=kT) (hd:=hdT) (key:=c) hu (yN 4 (a:=kT) (hd:=hdT) (key:=ls) hu rfl (aa 6) gF (fL _) l3) (aa 7) ?_ (fL _) l3) ?_ (p7 _) (aR ⟨.d (tpD c),?_⟩)
       · rw [jd hc]
         show _=some (D.int (dtm R ls.length ls c))
         rw [okl.len]
       · refine Nat.le_trans (ma _ _) ?_
         rw [List.length_append,List.length_append,List.length_map,List.length_take]
         unfold sizeLine
         omega
       · rw [take_snoc [] hj,hcs,List.map_append,<- List.append_assoc]
         unfold fdM
         rw [List.map_singleton,js]
         rfl
     · obtain ⟨s7,rfl⟩:=h
       refine aR ⟨.d (tpD ls),s7,?_⟩
       rw [take_snoc [] hl,hls,js,List.flatMap_append,List.length_map,List.take_of_length_le (Nat.le_refl _),List.append_assoc]
       simp [ky1]
   · obtain ⟨s6,s7,rfl⟩:=h
     refine wF 4 (a:=kT) (hd:=hdT) (av 2 nd (aa 4) (aR ⟨hi,.d (.int ((i + 1:Nat):Int)),.d (bxD kT hdT P w (knM P w R m n (i + 1))),.d (mq (chs n (i + 1))),s6,s7,?_⟩))
     rw [List.length_map,List.take_of_length_le (Nat.le_refl _)]
     have e:kys m n (i + 1)=kys m n i++(chs m (i + 1)).flatMap (ky1 n (i + 1)):=by unfold kys; rw [List.range_succ,List.flatMap_append]; simp
     rw [e]
     rfl
 · obtain ⟨_,s3,s4,s5,s6,s7,rfl⟩:=h
   refine zq 1 (a:=kTT) (hd:=kC) (ax (aa 1) ?_)
   rw [ay,hmin]
   show Sl.d (.box (bxW kTT kC P w (fdM R (kys m n ((((min m n:Nat):Int) + 1) - 1).toNat))))=_
   rw [Int.add_sub_cancel,Int.toNat_natCast]
end
noncomputable def rwN (r:List Int):Nd:=.l ((r.map D.int).map .d)
theorem rw_ok {m n d v:Nat} {M:List (List Rat)} (t:Tq m n M) (hq:∀ r ∈ M,∀ x ∈ r,Qs d v x) (hb:v + (1 + n * d)<=1400):Rw m n (v + (1 + n * d)) (whM M (M.map scL)):=by
 refine ⟨by unfold whM; simp [t.len],λr hr=>?_,⟨t.r1,t.r7⟩,⟨t.c1,t.c7⟩,hb⟩
 unfold whM at hr
 obtain ⟨i,hi,rfl⟩:=List.mem_map.mp hr
 rw [List.mem_range] at hi
 have mi:M.getD i [] ∈ M:=aX hi
 refine ⟨by unfold whR; rw [List.length_map]; exact t.row _ mi,λx hx=>?_⟩
 unfold whR at hx
 obtain ⟨q,hq',rfl⟩:=List.mem_map.mp hx
 have e:(M.map scL).getD i 0=scL (M.getD i []):=by simp [hi]
 rw [e]
 have:=e8 (d:=d) (r:=M.getD i []) λx hx=>(hq _ mi x hx).den
 rw [t.row _ mi] at this
 exact tj (hq _ mi q hq') ((fv _).2 q hq') this
noncomputable def fuO (R:List (List Int)) (m n:Nat) (t:Int):Option (List Int × List Int):=(((fdM R (kys m n (min m n))).map (·.1)).find? λp=>decide (vD R p < t))
noncomputable def fuD:Option (List Int × List Int)->D
 | none=>.non
 | some p=>.tup [.lst (p.1.map .int),.lst (p.2.map .int)]
theorem pN {X:Cx} {o:Option (List Int × List Int)}:cQ X (compareOp .Is) (fuD o) .non (.bl o.isNone):=⟨_,pj,λ_ v w H Q _ d1 d2 k=>by
 cases d2
 cases o with
 | none=>cases d1; exact ⟨rfl,by rw [decide_eq_true rfl]; exact k _ H (aq.refl _) .bl⟩
 | some i=>cases d1; exact ⟨rfl,by rw [decide_eq_false (by intro z; cases z)]; exact k _ H (aq.refl _) .bl⟩⟩
noncomputable def fuS:Option (List Int × List Int)->Sl
 | none=>.d .non
 | some p=>.n (.t [rwN p.1,rwN p.2])
noncomputable def dF (ds:List D) (r:Sl):Prop:=∃ (m n d v:Nat) (M:List (List Rat)) (t:Int),ds=[tbQ M,.int t]/\Tq m n M/\(∀ r ∈ M,∀ x ∈ r,Qs d v x)/\v + (1 + n * d)<=1400/\r=fuS (fuO (whM M (M.map scL)) m n t)
noncomputable def cH (ds:List D) (r:Sl):Prop:=∃ (m n d v:Nat) (M:List (List Rat)),ds=[tbQ M]/\Tq m n M/\(∀ r ∈ M,∀ x ∈ r,Qs d v x)/\v + (1 + n * d)<=1400/\r=fuS (fuO (whM M (M.map scL)) m n 0)
section
variable {P:Program} {w:World} {K:PySem.W.Frag} {mg:Str->Option Value} {base:Heap} {k:Nat} {f:Addr} {fd:FuncData} {qual:Str}
set_option maxHeartbeats 1000000 in
theorem jB (F:Fun K "first_under" qual (top 48) f fd) (hb:∀ x ∈ aj,mg x=none) (c_all_determinants:Cal P w K mg base k "all_determinants" (bT P w)) (c_whole_rows:Cal P w K mg base k "whole_rows" cg) (c_scale_of:Cal P w K mg base k "scale_of" cE):aJ P w K mg base CX0 (k + 1) f fd ["table","bound"] (spD K dF):=by
 refine fnD F fQ hb (by rintro _ _ ⟨_,_,_,_,_,_,rfl,_⟩; rfl) ?_
 rintro _ _ ⟨m,n,d,v,M,t,rfl,tq,hq,hz,rfl⟩ cdv A outer s H E b
 have nd:=fQ.nd
 have hu:(Xc P w K mg base ["table","bound","found","choices"] qual (top 48) f cdv A outer s H E).A.units + 16 < cLine:=Nat.lt_of_le_of_lt (Nat.add_le_add_left (by decide:16<=64) _) b.room.units
 have r7:=tq.r7
 have c7:=tq.c7
 have nd1:d<=n * d:=Nat.le_mul_of_pos_left d tq.c1
 have ok:=rw_ok tq hq hz
 generalize hRR:whM M (M.map scL)=R at ok
 have es:(D.lst ((M.map scL).map .int))=.lst ((List.range (M.map rwQ).length).map λi=>D.int (scL (M.getD i []))):=by
   exact congrArg D.lst (((bG (λr:List Rat=>D.int (scL r)) M [] (List.length_map ..)).trans (by rw [List.map_map]; rfl)).symm)
 refine av 2 nd (x_call b c_all_determinants (ae (aH (x_call b c_whole_rows (ae (aa 0) (ae (aH (bH (cmp 0 (g:=λi=>rwQ (M.getD i [])) (f:=λi=>.int (scL (M.getD i []))) b (aV (aa 0)) (b5 (f:=rwQ) (xs:=M) []) (by rw [List.length_map,tq.len]; omega) λi hi s0 H0 fp=>(x_call (b.comp s0 H0 _ fp) c_scale_of (ae (aa 0) ah) ⟨_,d,rfl,?_,?_,?_,?_,rfl⟩)))) ah)) ⟨M,M.map scL,v + d,by rw [es],by rw [List.length_map],by rw [tq.len]; omega,λr hr=>⟨by rw [tq.row r hr]; omega,λx hx=>(hq r hr x hx).sq⟩,by omega,?_,rfl⟩)) ah) ⟨R,m,n,_,by rw [hRR],ok,rfl⟩) ?_
 · rw [tq.row _ (aX (by simpa using hi))]; omega
 · exact λx hx=>(hq _ (aX (by simpa using hi)) x hx).den
 · rw [tq.row _ (aX (by simpa using hi))]; omega
 · omega
 · intro s hs
   obtain ⟨r,hr,rfl⟩:=List.mem_map.mp hs
   have:=e8 (d:=d) (r:=r) λx hx=>(hq _ hr x hx).den
   rw [tq.row r hr] at this
   exact this.mono (by omega)
 have hall:∀ p ∈ (fdM R (kys m n (min m n))).map (·.1),getM (fdM R (kys m n (min m n))) p=some (.int (vD R p)):=λp hp=>by
   obtain ⟨q,hq,rfl⟩:=List.mem_map.mp hp
   exact jd (qj hq).1
 unfold fuO
 generalize hks:(fdM R (kys m n (min m n))).map (·.1)=ks at hall
 have em:(fdM R (kys m n (min m n))).map (λp=>kTT.toD p.1)=ks.map kTT.toD:=by rw [<- hks,List.map_map]; rfl
 refine cM 3 (g:=λi=>kTT.toD (ks.getD i ([],[]))) (λi τ=>(ks.take i).find? (λp=>decide (vD R p < t))=none/\∃ s3,τ=[.d (tbQ M),.d (.int t),.d (.box (bxW kTT kC P w (fdM R (kys m n (min m n))))),s3]) b nd (em ▸ vZ (aa 2)) (b5 (f:=kTT.toD) (xs:=ks) ([],[])) ⟨rfl,.un,rfl⟩ (λi hi τ h=>?_) λτ h=>?_
 · obtain ⟨h0,s3,rfl⟩:=h
   have hi:i < ks.length:=by simpa using hi
   have mi:ks.getD i ([],[]) ∈ ks:=aX hi
   have g:=hall _ mi
   have es:ks.take (i + 1)=ks.take i++[ks.getD i ([],[])]:=take_snoc _ hi
   generalize hp:ks.getD i ([],[])=p at g es
   refine aY (aF (yU (a:=kTT) (hd:=kC) (key:=p) hu (aa 2) (aa 3) g (p7 _) l3) (aa 1) pv) (λh=>?_) λh=>?_
   · have e:ks.find? (λp=>decide (vD R p < t))=some p:=by
       have e1:ks=ks.take i++p :: ks.drop (i + 1):=by
         have:=List.take_append_drop (i + 1) ks
         rw [es,List.append_assoc] at this
         exact this.symm
       rw [e1,List.find?_append,h0,List.find?_cons,h]
       rfl
     rw [e]
     exact ax (xm (tD (mZ b (ae (aQ (aa 3) af (bK rfl)) ah) qK) rfl (tD (mZ b (ae (aQ (aa 3) af (bK rfl)) ah) qK) rfl Aw))) rfl
   · refine aR ⟨?_,_,rfl⟩
     rw [es,List.find?_append,h0,List.find?_cons,h]
     rfl
 · obtain ⟨h0,s3,rfl⟩:=h
   rw [List.length_map,List.take_of_length_le (Nat.le_refl _)] at h0
   rw [h0]
   exact ax gj rfl
theorem jG (F:Fun K "first_below" qual (top 53) f fd) (hb:∀ x ∈ aj,mg x=none) (c_look_table:Cal P w K mg base k "look_table" bz) (c_first_under:Cal P w K mg base k "first_under" dF):aJ P w K mg base CX0 (k + 1) f fd ["table"] (spD K cH):=by
 refine fnD F fG hb (by rintro _ _ ⟨_,_,_,_,_,rfl,_⟩; rfl) ?_
 rintro _ _ ⟨m,n,d,v,M,rfl,tq,hq,hz,rfl⟩ cdv A outer s H E b
 refine b9 (x_call b c_look_table (ae (aa 0) ah) ⟨m,n,M,rfl,tq,rfl⟩) ?_
 exact ax (x_call b c_first_under (ae (aa 0) (ae af ah)) ⟨m,n,d,v,M,0,rfl,tq,hq,hz,rfl⟩) rfl
end
structure Pk (n:Nat) (ps:List Int):Prop where
 len:ps.length<=1000
 at_:∀ i,i < ps.length->0<=ps.getD i 0/\ps.getD i 0 < n
noncomputable def pkL {α:Type} (xs:List α) (ps:List Int) (d:α):List α:=ps.map λp=>xs.getD p.toNat d
noncomputable def jE (ds:List D) (r:Sl):Prop:=∃ (q:List Rat) (ps:List Int),ds=[rwQ q,.lst (ps.map .int)]/\Pk q.length ps/\r=.o ((pkL q ps 0).map frD)
theorem wV {α:Type} {f:α->D} {xs:List α} (d:α) {p:Int} (h:0<=p/\p < xs.length):atI (xs.map f) p=some (f (xs.getD p.toNat d)):=by
 obtain ⟨n,rfl⟩:=Int.eq_ofNat_of_zero_le h.1
 rw [Int.toNat_natCast]
 exact cR d (by omega)
theorem xZ {α:Type} (f:α->D) (xs:List α) (ps:List Int) (d:α) {m:Nat} (h:m=ps.length):(List.range m).map (λi=>f (xs.getD (ps.getD i 0).toNat d))=(pkL xs ps d).map f:=by
 unfold pkL
 rw [List.map_map]
 exact bG (λp:Int=>f (xs.getD p.toNat d)) ps 0 h
noncomputable def chM (M:List (List Rat)) (rs cs:List Int):List (List Rat):=rs.map λr=>pkL (M.getD r.toNat []) cs 0
noncomputable def jI (ds:List D) (r:Sl):Prop:=∃ (R C:Nat) (M:List (List Rat)) (rs cs:List Int),ds=[tbQ M,.lst (rs.map .int),.lst (cs.map .int)]/\Tq R C M/\Pk R rs/\Pk C cs/\r=.o ((chM M rs cs).map rwQ)
noncomputable def pvF (G:List (List Int)) (k:Nat):Nat->Option Nat
 | 0=>none
 | t + 1=>match pvF G k t with
   | some i=>some i
   | none=>if (G.getD (k + t) []).getD k 0 ≠ 0 then some (k + t) else none
noncomputable def pvP (G:List (List Int)) (k:Nat):Option Nat:=pvF G k (G.length - k)
noncomputable def pvD:Option Nat->D
 | none=>.non
 | some i=>.int (i:Nat)
theorem nL {G:List (List Int)} {k:Nat}:∀ t,pvF G k t=none->∀ i,i < t->(G.getD (k + i) []).getD k 0=0
 | t + 1,h,i,hi=>by
   rw [pvF] at h
   cases e:pvF G k t with
   | some j=>rw [e] at h; cases h
   | none=>
     rw [e] at h
     have h:(if (G.getD (k + t) []).getD k 0 ≠ 0 then some (k + t) else none)=none:=h
     by_cases z:i < t
     · exact nL t e i z
     · obtain rfl:i=t:=by omega
       by_cases y:(G.getD (k + i) []).getD k 0=0
       · exact y
       · rw [if_pos y] at h; cases h
theorem nW {G:List (List Int)} {k:Nat}:∀ t j,pvF G k t=some j->k<=j/\j < k + t/\(G.getD j []).getD k 0 ≠ 0
 | t + 1,j,h=>by
   rw [pvF] at h
   cases e:pvF G k t with
   | some i=>
     rw [e] at h
     cases h
     have:=nW t _ e
     exact ⟨this.1,by omega,this.2.2⟩
   | none=>
     rw [e] at h
     have h:(if (G.getD (k + t) []).getD k 0 ≠ 0 then some (k + t) else none)=some j:=h
     split at h
     · rename_i y
       cases h
       exact ⟨by omega,by omega,y⟩
     · cases h
theorem oH {G:List (List Int)} {k:Nat} {t j:Nat} (h:pvF G k t=some j):∀ u,pvF G k (t + u)=some j
 | 0=>h
 | u + 1=>by rw [<- Nat.add_assoc,pvF,oH h u]
noncomputable def dC (ds:List D) (r:Sl):Prop:=∃ (n:Nat) (G:List (List Int)) (k:Nat),ds=[.lst (G.map dtR),.int (k:Nat)]/\G.length=n/\n<=1000/\(∀ r ∈ G,r.length=n)/\k < n/\r=.d (pvD (pvP G k))
noncomputable def clR (r p:List Int) (k:Nat) (l:Int) (n:Nat):List Int:=(List.range n).map λj=>((r.getD j 0 * p.getD k 0) - (p.getD j 0 * r.getD k 0)).fdiv l
noncomputable def iL (ds:List D) (r:Sl):Prop:=∃ (n:Nat) (q p:List Int) (k:Nat) (l:Int) (B:Nat),ds=[dtR q,dtR p,.int (k:Nat),.int l]/\q.length=n/\p.length=n/\n<=1000/\k < n/\(∀ x ∈ q,Bd B x)/\(∀ x ∈ p,Bd B x)/\B<=900000/\l ≠ 0/\Bd 8999 l/\r=.o ((clR q p k l n).map .int)
section
variable {P:Program} {w:World} {K:PySem.W.Frag} {mg:Str->Option Value} {base:Heap} {k:Nat} {f:Addr} {fd:FuncData} {qual:Str}
theorem rz (F:Fun K "picked" qual (top 34) f fd) (hb:∀ x ∈ aj,mg x=none):aJ P w K mg base CX0 (k + 1) f fd ["things","places"] (spD K jE):=by
 refine fnD F rD hb (by rintro _ _ ⟨_,_,rfl,_⟩; rfl) ?_
 rintro _ _ ⟨q,ps,rfl,h,rfl⟩ cdv A outer s H E b
 refine ax (bH (cmp 0 (f:=λi=>frD (q.getD (ps.getD i 0).toNat 0)) b (aV (aa 1)) (b5 (f:=D.int) (xs:=ps) 0) (by rw [List.length_map]; have:=h.len; omega) λi hi s0 H0 fp=>(aQ (aa 1) (aa 0) (aO (wV 0 (h.at_ i (by simpa using hi))))))) ?_
 rw [xZ frD q ps 0 (List.length_map ..)]
theorem rZ (F:Fun K "chosen" qual (top 35) f fd) (hb:∀ x ∈ aj,mg x=none) (c_picked:Cal P w K mg base k "picked" jE):aJ P w K mg base CX0 (k + 1) f fd ["table","rows","columns"] (spD K jI):=by
 refine fnD F rR hb (by rintro _ _ ⟨_,_,_,_,_,rfl,_⟩; rfl) ?_
 rintro _ _ ⟨R,C,M,rs,cs,rfl,t,hr,hc,rfl⟩ cdv A outer s H E b
 refine ax (bH (cmp 0 (f:=λi=>rwQ (pkL (M.getD (rs.getD i 0).toNat []) cs 0)) b (aV (aa 1)) (b5 (f:=D.int) (xs:=rs) 0) (by rw [List.length_map]; have:=hr.len; omega) λi hi s0 H0 fp=>?_)) ?_
 · have hi:=hr.at_ i (by simpa using hi)
   exact aH (x_call (b.comp s0 H0 _ fp) c_picked (ae (aQ (aa 2) (aa 0) (aO (wV [] (by rw [t.len]; exact hi)))) (ae (aa 1) ah)) ⟨_,cs,rfl,by rw [t.at_ (by omega)]; exact hc,rfl⟩)
 · refine congrArg Sl.o ((bG (λr:Int=>rwQ (pkL (M.getD r.toNat []) cs 0)) rs 0 (List.length_map ..)).trans ?_)
   unfold chM
   rw [List.map_map]
   rfl
theorem jV (F:Fun K "pivot_place" qual (top 43) f fd) (hb:∀ x ∈ aj,mg x=none):aJ P w K mg base CX0 (k + 1) f fd ["grid","k"] (spD K dC):=by
 refine fnD F fE hb (by rintro _ _ ⟨_,_,_,rfl,_⟩; rfl) ?_
 rintro _ _ ⟨n,G,k0,rfl,hG,h1,hr,hk,rfl⟩ cdv A outer s H E b
 have nd:=fE.nd
 refine cM 2 (λi τ=>pvF G k0 i=none/\∃ s2,τ=[.d (.lst (G.map dtR)),.d (.int (k0:Nat)),s2]) b nd (jF b (aa 1) (a5 b (ae (aa 0) ah) (eC (n:=n) (by rw [List.length_map]; exact hG))) (by omega)) pE ⟨rfl,.un,rfl⟩ (λi hi τ h=>?_) λτ h=>?_
 · obtain ⟨h0,s2,rfl⟩:=h
   rw [ay] at hi
   have hi':k0 + i < n:=by omega
   have e:((k0:Int) + (i:Int))=((k0 + i:Nat):Int):=by omega
   rw [e]
   have a1:atI (G.map dtR) ((k0 + i:Nat):Int)=some (dtR (G.getD (k0 + i) [])):=cR [] (by omega)
   have hl:(G.getD (k0 + i) []).length=n:=hr _ (aX (by omega))
   have a2:atI ((G.getD (k0 + i) []).map D.int) (k0:Int)=some (.int ((G.getD (k0 + i) []).getD k0 0)):=atR (by omega)
   refine aY (aF (aQ (aQ (aa 0) (aa 2) (aO a1)) (aa 1) (aO a2)) af gD) (λz=>?_) λz=>?_
   · refine ax (aa 2) ?_
     have z:(!decide ((G.getD (k0 + i) []).getD k0 0=0))=true:=z
     have z:(G.getD (k0 + i) []).getD k0 0 ≠ 0:=by simpa using z
     have e1:pvF G k0 (i + 1)=some (k0 + i):=by rw [pvF,h0]; exact if_pos z
     have e2:pvP G k0=some (k0 + i):=by
       unfold pvP
       have:=oH e1 (G.length - k0 - (i + 1))
       rwa [show i + 1 + (G.length - k0 - (i + 1))=G.length - k0 by omega] at this
     rw [e2]
     rfl
   · refine aR ⟨?_,_,rfl⟩
     have z:(!decide ((G.getD (k0 + i) []).getD k0 0=0))=false:=z
     have z:(G.getD (k0 + i) []).getD k0 0=0:=by simpa using z
     rw [pvF,h0]
     exact if_neg (λy=>y z)
 · obtain ⟨h0,s2,rfl⟩:=h
   rw [ay] at h0
   refine ax gj ?_
   have:pvP G k0=none:=by
     unfold pvP
     rw [hG,<- h0]
     congr 1
     omega
   rw [this]
   rfl
theorem pU (F:Fun K "cleared" qual (top 44) f fd) (hb:∀ x ∈ aj,mg x=none):aJ P w K mg base CX0 (k + 1) f fd ["row","pivot_row","k","last"] (spD K iL):=by
 refine fnD F jU hb (by rintro _ _ ⟨_,_,_,_,_,_,rfl,_⟩; rfl) ?_
 rintro _ _ ⟨n,q,p,k0,l,B,rfl,hq,hp,hn,hk,bq,bp,hB,hl,bl,rfl⟩ cdv A outer s H E b
 have nd:=jU.nd
 have zl:(ie (q.map D.int) (p.map D.int)).length=n:=by rw [cL,List.length_map,List.length_map]; omega
 refine av 4 nd (aQ (aa 1) (aa 2) (aO (atR (by omega)))) ?_
 refine av 5 nd (aQ (aa 0) (aa 2) (aO (atR (by omega)))) ?_
 refine ax (bH (tY 0 1 (g:=λi=>.int (q.getD i 0)) (g':=λi=>.int (p.getD i 0)) (f:=λj=>.int (((q.getD j 0 * p.getD k0 0) - (p.getD j 0 * q.getD k0 0)).fdiv l)) b (qt b (aa 0) (aa 1)) (lX 0 0) (by rw [zl]; omega) λi hi s0 H0 fp=>?_)) ?_
 · rw [zl] at hi
   have m1:=bq _ (aX (d:=(0:Int)) (show i < q.length by omega))
   have m2:=bp _ (aX (d:=(0:Int)) (show k0 < p.length by omega))
   have m3:=bp _ (aX (d:=(0:Int)) (show i < p.length by omega))
   have m4:=bq _ (aX (d:=(0:Int)) (show k0 < q.length by omega))
   exact aA (aA (aA (aa 0) (aa 4) (bC (m1.aG m2 (by omega) (by omega)))) (aA (aa 1) (aa 2) (bC (m3.aG m4 (by omega) (by omega)))) fj) (aa 3) (bW (bl.aE hl (by decide)))
 · unfold clR
   rw [zl,List.map_map]
   rfl
end
theorem wC {α β:Type} (g:α->β) (x:α):∀ (m:Nat) (ys:List α),(ys.map g).insertIdx m (g x)=(ys.insertIdx m x).map g
 | 0,_=>rfl
 | m + 1,[]=>rfl
 | m + 1,y :: ys=>by rw [List.map_cons,List.insertIdx_succ_cons,List.insertIdx_succ_cons,List.map_cons,wC g x m ys]
theorem pO {α:Type} (d:α) {G:List α} {k m:Nat} (h:k + m < G.length) (i:Nat):((G.eraseIdx (k + m)).insertIdx k (G.getD (k + m) d)).getD i d=G.getD (rho k m i) d:=by
 have hl:(G.eraseIdx (k + m)).length=G.length - 1:=List.length_eraseIdx_of_lt h
 simp only [List.getD_eq_getElem?_getD]
 rw [List.getElem?_insertIdx]
 unfold rho
 by_cases h1:i < k
 · rw [if_pos h1,if_pos h1,List.getElem?_eraseIdx_of_lt (by omega)]
 · rw [if_neg h1,if_neg h1]
   by_cases h2:i=k
   · rw [if_pos h2,if_pos h2,if_pos (by omega)]
     rw [List.getElem?_eq_getElem h]
     rfl
   · rw [if_neg h2,if_neg h2,List.getElem?_eraseIdx]
     by_cases h3:i<=k + m
     · rw [if_pos h3,if_pos (by omega)]
     · rw [if_neg h3,if_neg (by omega),show i - 1 + 1=i by omega]
theorem mO {k m n i:Nat} (h:k + m < n) (hi:i < n):rho k m i < n/\(k<=i->k<=rho k m i):=by
 unfold rho
 repeat' split
 all_goals omega
theorem wN {n b k p q:Nat} {Y:Nat->Nat->Rat} (hY:∀ i < n,∀ j < n,ZB b (Y i j)) (hk:k < n) (hp:p < n) (hq:q < n) (h7:n<=7):ZB ((k + 1) * (b + 3)) (bm Y k p q):=by
 unfold bm
 exact vG (by omega) λr hr c hc=>hY _ (by split <;> omega) _ (by split <;> omega)
theorem wB {B c:Nat} {x:Rat} {z:Int} (h:ZB c x) (e:(z:Rat)=x) (hc:c < B):Bd B z:=by
 obtain ⟨y,e1,e2⟩:=h
 rw [e1] at e
 rw [Rat.intCast_inj.mp e]
 exact Nat.lt_of_le_of_lt e2 (Nat.pow_lt_pow_right (by decide) hc)
structure WI (n b:Nat) (M:Nat->Nat->Rat) (k:Nat) (G:List (List Int)) (s l:Int) (Y:Nat->Nat->Rat):Prop where
 zb:∀ i < n,∀ j < n,ZB b (Y i j)
 dt:det n M=(s:Rat) * det n Y
 sg:s=1\/s=-1
 last:(l:Rat)=det k Y
 nz:det k Y ≠ 0
 len:G.length=n
 row:∀ i,i < n->(G.getD i []).length=n
 ent:∀ i,k<=i->i < n->∀ j,j < n->(((G.getD i []).getD j 0:Int):Rat)=bm Y k i j
theorem WI.zero {n b:Nat} {Ms:List (List Int)} (h1:Ms.length=n) (hr:∀ r ∈ Ms,r.length=n/\∀ x ∈ r,x.natAbs<=2 ^ b):WI n b (dtM Ms) 0 Ms 1 1 (dtM Ms):=by
 have rw':∀ i,i < n->(Ms.getD i []).length=n:=λi hi=>(hr _ (aX (by omega))).1
 refine ⟨λi hi j hj=>⟨_,rfl,(hr _ (aX (d:=[]) (show i < Ms.length by omega))).2 _ (aX (d:=(0:Int)) (by rw [rw' i hi]; exact hj))⟩,?_,.inl rfl,rfl,by show (1:Rat) ≠ 0; decide,h1,rw',λi _ hi j hj=>?_⟩
 · rw [show ((1:Int):Rat)=1 from rfl,Rat.one_mul]
 · unfold bm
   rw [jf]
   rfl
theorem WI.rot {n b k m:Nat} {M Y:Nat->Nat->Rat} {G:List (List Int)} {s l:Int} (W:WI n b M k G s l Y) (h:k + m < n):WI n b M k ((G.eraseIdx (k + m)).insertIdx k (G.getD (k + m) [])) (if m % 2=1 then -s else s) l (λr=>Y (rho k m r)):=by
 have hG:k + m < G.length:=by rw [W.len]; exact h
 have e:=ql (k:=k) (n:=n) m Y h
 refine ⟨λi hi j hj=>W.zb _ (mO h hi).1 j hj,?_,?_,?_,?_,?_,λi hi=>?_,λi ki hi j hj=>?_⟩
 · rw [e,W.dt]
   unfold sgn
   by_cases z:m % 2=1
   · rw [if_pos z,if_neg (by omega),Rat.intCast_neg]
     simp [Rat.neg_mul,Rat.mul_neg]
   · rw [if_neg z,if_pos (by omega),Rat.one_mul]
 · rcases W.sg with z | z <;> rw [z] <;> split <;> first | exact .inl rfl | exact .inr rfl
 · rw [kS]; exact W.last
 · rw [kS]; exact W.nz
 · rw [List.length_insertIdx_of_le_length (by rw [List.length_eraseIdx_of_lt hG]; omega),List.length_eraseIdx_of_lt hG,W.len]; omega
 · rw [pO [] hG]; exact W.row _ (mO h hi).1
 · rw [pO [] hG,yB]
   exact W.ent _ ((mO h hi).2 ki) (mO h hi).1 j hj
theorem WI.clear {n b k:Nat} {M Y:Nat->Nat->Rat} {G:List (List Int)} {s l:Int} (W:WI n b M k G s l Y) (h:k < n) (h7:n<=7) {i:Nat} (ki:k < i) (hi:i < n) {j:Nat} (hj:j < n):(((clR (G.getD i []) (G.getD k []) k l n).getD j 0:Int):Rat)=bm Y (k + 1) i j:=by
 have g0:(clR (G.getD i []) (G.getD k []) k l n).getD j 0=(((G.getD i []).getD j 0 * (G.getD k []).getD k 0) - ((G.getD k []).getD j 0 * (G.getD i []).getD k 0)).fdiv l:=by
   unfold clR
   simp [hj]
 obtain ⟨z,e1,_⟩:=wN (k:=k + 1) (p:=i) (q:=j) W.zb (by omega) hi hj h7
 have st:=vE (Y:=Y) (k:=k) (i:=i) (j:=j) W.nz
 rw [<- W.ent k (Nat.le_refl _) h k h,<- W.ent i (by omega) hi j hj,<- W.ent k (Nat.le_refl _) h j hj,<- W.ent i (by omega) hi k h,e1,<- W.last] at st
 have st':l * z=(G.getD k []).getD k 0 * (G.getD i []).getD j 0 - (G.getD k []).getD j 0 * (G.getD i []).getD k 0:=by
   apply Rat.intCast_inj.mp
   rw [Rat.intCast_mul,Rat.intCast_sub,Rat.intCast_mul,Rat.intCast_mul]
   exact st
 have l0:l ≠ 0:=λq=>W.nz (by rw [<- W.last,q]; rfl)
 rw [g0,Int.mul_comm ((G.getD i []).getD j 0),<- st',e1,Int.mul_fdiv_cancel_left _ l0]
theorem WI.next {n b k:Nat} {M Y:Nat->Nat->Rat} {G G':List (List Int)} {s l:Int} (W:WI n b M k G s l Y) (h:k < n) (h7:n<=7) (hp:(G.getD k []).getD k 0 ≠ 0) (hl:G'.length=n) (hG:∀ i,i < n->G'.getD i []=if k < i then clR (G.getD i []) (G.getD k []) k l n else G.getD i []):WI n b M (k + 1) G' s ((G.getD k []).getD k 0) Y:=by
 have e:=W.ent k (Nat.le_refl _) h k h
 rw [vP] at e
 refine ⟨W.zb,W.dt,W.sg,e,λz=>hp (by rw [z] at e; exact Rat.intCast_eq_zero_iff.mp e),hl,λi hi=>?_,λi ki hi j hj=>?_⟩
 · rw [hG i hi]
   split
   · unfold clR; simp
   · exact W.row i hi
 · rw [hG i hi,if_pos (by omega)]
   exact W.clear h h7 (by omega) hi hj
theorem WI.no {n b k:Nat} {M Y:Nat->Nat->Rat} {G:List (List Int)} {s l:Int} (W:WI n b M k G s l Y) (h:k < n) (hz:∀ i,i < n - k->(G.getD (k + i) []).getD k 0=0):det n M=0:=by
 rw [W.dt,v5 W.nz h λp kp hp=>?_,Rat.mul_zero]
 rw [<- W.ent p kp hp k h,<- show k + (p - k)=p by omega,hz (p - k) (by omega)]
 rfl
theorem WI.bd {n b k:Nat} {M Y:Nat->Nat->Rat} {G:List (List Int)} {s l:Int} (W:WI n b M k G s l Y) (h7:n<=7) (hb:n * (b + 3)<=8998) {i:Nat} (ki:k<=i) (hi:i < n):∀ x ∈ G.getD i [],Bd 8999 x:=λx hx=>by
 obtain ⟨j,hj,rfl⟩:=List.getElem_of_mem hx
 have hj':j < n:=by rw [<- W.row i hi]; exact hj
 have e:=W.ent i ki hi j hj'
 have e2:(G.getD i []).getD j 0=(G.getD i [])[j]:=by rw [List.getD_eq_getElem?_getD (l:=G.getD i []),List.getElem?_eq_getElem hj]; rfl
 rw [e2] at e
 refine wB (wN W.zb (by omega) hi hj' h7) e ?_
 have:(k + 1) * (b + 3)<=n * (b + 3):=Nat.mul_le_mul_right _ (by omega)
 omega
theorem WI.lbd {n b k:Nat} {M Y:Nat->Nat->Rat} {G:List (List Int)} {s l:Int} (W:WI n b M k G s l Y) (hk:k<=n) (h7:n<=7) (hb:n * (b + 3)<=8998):Bd 8999 l:=by
 refine wB (vG (b:=b) (n:=k) (M:=Y) (by omega) λi hi j hj=>W.zb i (by omega) j (by omega)) W.last ?_
 have:k * (b + 3)<=n * (b + 3):=Nat.mul_le_mul_right _ hk
 omega
noncomputable def wdZ (Ms:List (List Int)):Int:=(det Ms.length (dtM Ms)).num
theorem wU {Ms:List (List Int)} {z:Int} (h:(z:Rat)=det Ms.length (dtM Ms)):wdZ Ms=z:=by unfold wdZ; rw [<- h]; rfl
noncomputable def bQ (ds:List D) (r:Sl):Prop:=∃ (n b:Nat) (Ms:List (List Int)),ds=[.lst (Ms.map dtR)]/\Ms.length=n/\n<=7/\(∀ r ∈ Ms,r.length=n/\∀ x ∈ r,x.natAbs<=2 ^ b)/\n * (b + 3)<=8998/\r=.d (.int (wdZ Ms))
theorem sd {X:Cx} {o:Option Nat}:cQ X (compareOp .Is) (pvD o) .non (.bl o.isNone):=⟨_,pj,λ_ v w H Q _ d1 d2 k=>by
 cases d2
 cases o with
 | none=>cases d1; exact ⟨rfl,by rw [decide_eq_true rfl]; exact k _ H (aq.refl _) .bl⟩
 | some i=>cases d1; exact ⟨rfl,by rw [decide_eq_false (by intro z; cases z)]; exact k _ H (aq.refl _) .bl⟩⟩
theorem zW (o:Option Nat):vh (.d (pvD o))=true:=by cases o <;> rfl
theorem u3 (ns:List Int):vh (.o (ns.map .int))=true:=by
 show (ns.map D.int).all flat=true
 rw [List.all_map,List.all_eq_true]
 intro _ _
 rfl
theorem wQ {n m:Nat} (h:m < n):ixN n (m:Int)=some m:=by
 unfold ixN
 rw [if_pos (by omega),if_pos (by omega)]
 simp
section
variable {P:Program} {w:World} {K:PySem.W.Frag} {mg:Str->Option Value} {base:Heap} {k:Nat} {f:Addr} {fd:FuncData} {qual:Str}
set_option maxHeartbeats 1000000 in
theorem fT (F:Fun K "whole_determinant" qual (top 42) f fd) (hb:∀ x ∈ aj,mg x=none) (c_pivot_place:Cal P w K mg base k "pivot_place" dC) (c_cleared:Cal P w K mg base k "cleared" iL):aJ P w K mg base CX0 (k + 1) f fd ["rows"] (spD K bQ):=by
 refine fnD F cI hb (by rintro _ _ ⟨_,_,_,rfl,_⟩; rfl) ?_
 rintro _ _ ⟨n,b0,Ms,rfl,hl,h7,hr,hb0,rfl⟩ cdv A outer s H E b
 have nd:=cI.nd
 refine av 1 nd (mZ b (ae (aa 0) ah) yu) ?_
 refine av 2 nd (a5 b (ae (aa 0) ah) (eC (n:=n) (by rw [List.length_map]; exact hl))) ?_
 refine av 3 nd af ?_
 refine av 4 nd af ?_
 refine cM 5 (λi τ=>i<=n/\∃ G sg l Y s5 s6 s7,WI n b0 (dtM Ms) i G sg l Y/\τ=[.d (.lst (Ms.map dtR)),.o (G.map dtR),.d (.int (n:Nat)),.d (.int sg),.d (.int l),s5,s6,s7]) b nd (eG b (aa 2) (by omega) (by omega)) dr ⟨Nat.zero_le _,Ms,1,1,_,.un,.un,.un,WI.zero hl hr,rfl⟩ (λi hi τ h=>?_) λτ h=>?_
 · obtain ⟨_,G,sg,l,Y,s5,s6,s7,W,rfl⟩:=h
   have hi:i < n:=by rw [ay] at hi; omega
   have gr:∀ r ∈ G,r.length=n:=λr hr'=>by
     obtain ⟨j,hj,rfl⟩:=List.getElem_of_mem hr'
     have:=W.row j (by rw [<- W.len]; exact hj)
     simpa [hj] using this
   refine av 6 nd (uC 1 (C':=true) (s:=.d (pvD (pvP G i))) (x_call b c_pivot_place (ae (aa 1) (ae (aa 5) ah)) ⟨n,G,i,rfl,W.len,by omega,gr,hi,rfl⟩) (zW _)) ?_
   cases ep:pvP G i with
   | none=>
     refine aY (aF (aa 6) gj (sd (o:=none))) (λ_=>?_) λz=>by cases z
     refine ax af ?_
     unfold pvP at ep
     rw [W.len] at ep
     have:=W.no hi (nL _ ep)
     have:wdZ Ms=0:=wU (by rw [hl]; exact this.symm)
     rw [this]
   | some j=>
     unfold pvP at ep
     obtain ⟨kj,jn,hp⟩:=nW _ _ ep
     rw [W.len] at jn
     obtain ⟨m,rfl⟩:∃ m,j=i + m:=⟨j - i,by omega⟩
     have him:i + m < n:=by omega
     refine dZ (aF (aa 6) gj (sd (o:=some (i + m)))) rfl ?_
     have W2:=W.rot him
     refine fU (M:=λτ=>τ=[.d (.lst (Ms.map dtR)),.o (G.map dtR),.d (.int (n:Nat)),.d (.int (if m % 2=1 then -sg else sg)),.d (.int l),.d (.int (i:Nat)),.d (.int ((i + m:Nat):Int)),s7]) (aF (aA (aA (aa 6) (aa 5) fj) af (cc (by decide))) af bJ) (λz=>?_) (λz=>?_) ?_
     · have z:=of_decide_eq_true z
       have:m % 2=1:=by rw [Int.fmod_eq_emod_of_nonneg _ (by decide)] at z; omega
       rw [if_pos this]
       exact av 3 nd (fS (aa 3)) (aR rfl)
     · have z:=of_decide_eq_false z
       have:¬ m % 2=1:=by rw [Int.fmod_eq_emod_of_nonneg _ (by decide)] at z; omega
       rw [if_neg this]
       exact aR rfl
     rintro _ rfl
     have hiG:i + m < G.length:=by rw [W.len]; exact him
     have hxj:(G.map dtR)[i + m]?=some (dtR (G.getD (i + m) [])):=by simp [hiG]
     refine zj 1 (k:=i) (j:=i + m) (dtR (G.getD (i + m) [])) (aa 5) (aa 6) hxj (by rw [List.length_map,W.len]; exact hi) (by rw [List.length_map,W.len]; omega) ?_
     have em:((G.map dtR).eraseIdx (i + m)).insertIdx i (dtR (G.getD (i + m) []))=((G.eraseIdx (i + m)).insertIdx i (G.getD (i + m) [])).map dtR:=by rw [<- so,wC]
     rw [em]
     have hp2:(((G.eraseIdx (i + m)).insertIdx i (G.getD (i + m) [])).getD i []).getD i 0 ≠ 0:=by
       rw [pO [] (by rw [W.len]; exact him)]
       unfold rho
       rw [if_neg (by omega),if_pos rfl]
       exact hp
     generalize (G.eraseIdx (i + m)).insertIdx i (G.getD (i + m) [])=G2 at W2 hp2 ⊢
     generalize (if m % 2=1 then -sg else sg)=sg2 at W2 ⊢
     have l0:l ≠ 0:=λq=>W2.nz (by rw [<- W2.last,q]; rfl)
     refine cM 7 (g:=λt=>.int (((i:Int) + 1) + (t:Nat))) (λt τ=>∃ G3 s7,G3.length=n/\(∀ j,j < n->G3.getD j []=if i < j/\j < i + 1 + t then clR (G2.getD j []) (G2.getD i []) i l n else G2.getD j [])/\τ=[.d (.lst (Ms.map dtR)),.o (G3.map dtR),.d (.int (n:Nat)),.d (.int sg2),.d (.int l),.d (.int (i:Nat)),.d (.int ((i + m:Nat):Int)),s7]) b nd (jF b (aA (aa 5) af bj) (aa 2) (by omega)) pE ⟨G2,s7,W2.len,λj _=>by rw [if_neg (by omega)],rfl⟩ (λt ht τ h=>?_) λτ h=>?_
     · obtain ⟨G3,s7,g1,g2,rfl⟩:=h
       rw [ay] at ht
       have hit:i + 1 + t < n:=by omega
       have ei:((i:Int) + 1) + (t:Nat)=((i + 1 + t:Nat):Int):=by omega
       rw [ei]
       have r3:G3.getD (i + 1 + t) []=G2.getD (i + 1 + t) []:=by rw [g2 _ hit,if_neg (by omega)]
       have r4:G3.getD i []=G2.getD i []:=by rw [g2 i hi,if_neg (by omega)]
       have a1:atI (G3.map dtR) ((i + 1 + t:Nat):Int)=some (dtR (G2.getD (i + 1 + t) [])):=by rw [<- r3]; exact cR [] (by omega)
       have a2:atI (G3.map dtR) (i:Int)=some (dtR (G2.getD i [])):=by rw [<- r4]; exact cR [] (by omega)
       refine tR 1 (xs:=G3.map dtR) (j:=i + 1 + t) (x:=dtR (clR (G2.getD (i + 1 + t) []) (G2.getD i []) i l n)) (aa 7) (aH (uC 1 (C':=true) (s:=.o ((clR (G2.getD (i + 1 + t) []) (G2.getD i []) i l n).map .int)) (x_call b c_cleared (ae (aQ (aa 1) (aa 7) (aO a1)) (ae (aQ (aa 1) (aa 5) (aO a2)) (ae (aa 5) (ae (aa 4) ah)))) ⟨n,_,_,i,l,8999,rfl,W2.row _ hit,W2.row _ hi,by omega,hi,W2.bd h7 hb0 (by omega) hit,W2.bd h7 hb0 (Nat.le_refl _) hi,by decide,l0,W2.lbd (by omega) h7 hb0,rfl⟩) (u3 _))) (wQ (by rw [List.length_map,g1]; exact hit)) (aR ⟨G3.set (i + 1 + t) (clR (G2.getD (i + 1 + t) []) (G2.getD i []) i l n),.d (.int ((i + 1 + t:Nat):Int)),by rw [List.length_set]; exact g1,λj hj=>?_,by rw [List.map_set]; rfl⟩)
       by_cases z:j=i + 1 + t
       · subst z
         rw [if_pos (by omega)]
         simp [g1,hit]
       · have:(G3.set (i + 1 + t) (clR (G2.getD (i + 1 + t) []) (G2.getD i []) i l n)).getD j []=G3.getD j []:=by
           simp [List.getD_eq_getElem?_getD,List.getElem?_set_ne (Ne.symm z)]
         rw [this,g2 j hj]
         by_cases y:i < j/\j < i + 1 + t
         · rw [if_pos y,if_pos (by omega)]
         · rw [if_neg y,if_neg (by omega)]
     · obtain ⟨G3,s7,g1,g2,rfl⟩:=h
       rw [ay] at g2
       have r4:G3.getD i []=G2.getD i []:=by rw [g2 i hi,if_neg (by omega)]
       have a2:atI (G3.map dtR) (i:Int)=some (dtR (G2.getD i [])):=by rw [<- r4]; exact cR [] (by omega)
       have W3:=W2.next (G':=G3) hi h7 hp2 g1 λj hj=>by
         rw [g2 j hj]
         by_cases y:i < j
         · rw [if_pos (by omega),if_pos y]
         · rw [if_neg (by omega),if_neg y]
       exact av 4 nd (uC 1 (C':=true) (s:=.d (.int ((G2.getD i []).getD i 0))) (aQ (aQ (aa 1) (aa 5) (aO a2)) (aa 5) (aO (atR (by rw [W2.row i hi]; exact hi)))) rfl) (aR ⟨hi,G3,sg2,_,_,_,_,_,W3,rfl⟩)
 · obtain ⟨_,G,sg,l,Y,s5,s6,s7,W,rfl⟩:=h
   rw [ay,Int.toNat_natCast] at W
   refine ax (aA (aa 3) (aa 4) (bC (mkL (by rcases W.sg with z | z <;> rw [z] <;> decide)))) ?_
   rw [wU (z:=sg * l) (by rw [hl,Rat.intCast_mul,W.last,W.dt])]
end
noncomputable def sgI (i:Nat):Int:=if i % 2=0 then 1 else -1
noncomputable def wsM (Ms:List (List Int)) (k:Nat):List (List Int):=(List.range Ms.length).map λi=>(Ms.getD i []).set k (sgI i)
theorem mI {xs:List D} (m:Nat) (h:m<=xs.length):Hy.cutD xs (some (m:Int)) none=xs.drop m:=by
 unfold Hy.cutD
 have e:HT.sIx xs.length 0 (some (m:Int))=m:=by
   unfold HT.sIx
   simp only
   split <;> omega
 rw [e,show HT.sIx xs.length xs.length none=xs.length from rfl]
 exact List.take_of_length_le (by rw [List.length_drop]; omega)
noncomputable def cN (ds:List D) (r:Sl):Prop:=∃ (Ms:List (List Int)) (k n:Nat),ds=[.lst (Ms.map dtR),.int (k:Nat)]/\Ms.length<=7/\(∀ r ∈ Ms,r.length=n)/\k < n/\n<=7/\r=.o ((wsM Ms k).map dtR)
section
variable {P:Program} {w:World} {K:PySem.W.Frag} {mg:Str->Option Value} {base:Heap} {k:Nat} {f:Addr} {fd:FuncData} {qual:Str}
theorem iD (F:Fun K "with_signs_at" qual (top 65) f fd) (hb:∀ x ∈ aj,mg x=none):aJ P w K mg base CX0 (k + 1) f fd ["rows","k"] (spD K cN):=by
 refine fnD F ee hb (by rintro _ _ ⟨_,_,_,rfl,_⟩; rfl) ?_
 rintro _ _ ⟨Ms,kk,n,rfl,l7,hr,hk,n7,rfl⟩ cdv A outer s H E b
 have nd:=ee.nd
 refine ax (bH (tY 0 1 (g:=λi=>.int (i:Nat)) (g':=λi=>dtR (Ms.getD i [])) (f:=λi=>dtR ((Ms.getD i []).set kk (sgI i))) b (qv b (aa 0)) (λi h=>?_) (by rw [cb,List.length_map]; omega) λi hi s0 H0 fp=>?_)) ?_
 · rw [mQ]
   have:i < Ms.length:=by simpa [ja] using h
   simp [this]
 · have hi:i < Ms.length:=by simpa [ja] using hi
   have lr:(Ms.getD i []).length=n:=hr _ (aX hi)
   have lm:((Ms.getD i []).map D.int).length=n:=by rw [List.length_map,lr]
   have e:dtR ((Ms.getD i []).set kk (sgI i))=.lst ((Hy.cutD ((Ms.getD i []).map D.int) none (some (kk:Int))++[.int (sgI i)])++Hy.cutD ((Ms.getD i []).map D.int) (some ((kk:Int) + 1)) none):=by
     rw [show (kk:Int) + 1=((kk + 1:Nat):Int) from rfl,jQ,mI _ (by omega)]
     unfold dtR
     rw [List.set_eq_take_append_cons_drop,if_pos (by omega),List.map_append,List.map_cons,List.map_take,List.map_drop]
     simp
   rw [e]
   have lc:(Hy.cutD ((Ms.getD i []).map D.int) none (some (kk:Int))).length<=7:=by rw [jQ,List.length_take]; omega
   have ld:(Hy.cutD ((Ms.getD i []).map D.int) (some ((kk:Int) + 1)) none).length<=7:=by
     rw [show (kk:Int) + 1=((kk + 1:Nat):Int) from rfl,mI _ (by omega),List.length_drop]; omega
   refine aH (eo (aH (eo (aH (nu (aa 1) dH (cP (aa 2)))) (aH (br (ae ?_ ah))) (by show _ + 1 < _; omega))) (aH (nu (aa 1) (cP (aA (aa 2) af bj)) dH)) (by rw [List.length_append]; show _ + 1 + _ < _; omega))
   have em:((i:Nat):Int).fmod 2=((i % 2:Nat):Int):=by
     rw [Int.fmod_eq_emod_of_nonneg _ (by omega)]
     exact (Int.natCast_emod i 2).symm
   refine oE (aF (aA (aa 0) af (cc (by decide))) af bJ) (λh=>?_) λh=>?_
   · have h:=of_decide_eq_true h
     rw [show sgI i=1 from if_pos (by omega)]
     exact af
   · have h:=of_decide_eq_false h
     rw [show sgI i=-1 from if_neg (by omega)]
     exact fS af
 · rw [cb,List.length_map]
   unfold wsM
   rw [List.map_map]
   rfl
end
noncomputable def tpW (M:List (List Rat)) (rs cs:List Int):List (List Int):=whM (chM M rs cs) ((chM M rs cs).map scL)
noncomputable def tpL (n:Nat) (cs:List Int) (W:List (List Int)) (i:Nat):List Int:=(List.range i).foldl (λl k=>l.set (cs.getD k 0).toNat (-(wdZ (wsM W k)))) (List.replicate n 0)
noncomputable def tpZ (n:Nat) (M:List (List Rat)) (rs cs:List Int):List Int:=tpL n cs (tpW M rs cs) cs.length
theorem mL (n:Nat) (cs:List Int) (W:List (List Int)):∀ i,(tpL n cs W i).length=n
 | 0=>by simp [tpL]
 | i + 1=>by
   have:tpL n cs W (i + 1)=(tpL n cs W i).set (cs.getD i 0).toNat (-(wdZ (wsM W i))):=by unfold tpL; rw [List.range_succ,List.foldl_append]; rfl
   rw [this,List.length_set,mL n cs W i]
theorem ng (n:Nat) (cs:List Int) (W:List (List Int)) (i:Nat):tpL n cs W (i + 1)=(tpL n cs W i).set (cs.getD i 0).toNat (-(wdZ (wsM W i))):=by unfold tpL; rw [List.range_succ,List.foldl_append]; rfl
structure Ag (m n t d v:Nat) (M:List (List Rat)) (rs cs:List Int):Prop where
 tq:Tq m n M
 q:∀ r ∈ M,∀ x ∈ r,Qs d v x
 r:Chs m t rs
 c:Chs n t cs
 t1:1<=t
 tm:t<=m
 tn:t<=n
 sz:v + (1 + n * d)<=1280
theorem Ag.b {m n t d v:Nat} {M:List (List Rat)} {rs cs:List Int} (h:Ag m n t d v M rs cs):v + (1 + t * d)<=1280:=by
 have:=Nat.mul_le_mul_right d h.tn
 have:=h.sz
 omega
theorem Ag.pt {m n t d v:Nat} {M:List (List Rat)} {rs cs:List Int} (h:Ag m n t d v M rs cs):Tq t t (chM M rs cs):=by
 have:=h.tq.r7
 have:=h.tm
 refine ⟨h.t1,by omega,h.t1,by omega,by unfold chM; rw [List.length_map]; exact h.r.len,λr hr=>?_⟩
 unfold chM at hr
 obtain ⟨x,_,rfl⟩:=List.mem_map.mp hr
 unfold pkL
 rw [List.length_map]
 exact h.c.len
theorem Qs.d1 {d v:Nat} {q:Rat} (h:Qs d v q):1<=d:=by
 rcases Nat.eq_zero_or_pos d with z | z
 · subst z
   have:=h.den
   unfold Bd at this
   have:=den_pos q
   omega
 · exact z
theorem Ag.pq {m n t d v:Nat} {M:List (List Rat)} {rs cs:List Int} (h:Ag m n t d v M rs cs):∀ r ∈ chM M rs cs,∀ x ∈ r,Qs d v x:=λr hr x hx=>by
 unfold chM at hr
 obtain ⟨a,ha,rfl⟩:=List.mem_map.mp hr
 unfold pkL at hx
 obtain ⟨c,hc,rfl⟩:=List.mem_map.mp hx
 obtain ⟨i,hi,ei⟩:=List.getElem_of_mem ha
 obtain ⟨j,hj,ej⟩:=List.getElem_of_mem hc
 have b1:=h.r.at_ i (by rw [<- h.r.len]; exact hi)
 have b2:=h.c.at_ j (by rw [<- h.c.len]; exact hj)
 rw [show rs.getD i 0=a by rw [<- ei]; simp [hi]] at b1
 rw [show cs.getD j 0=c by rw [<- ej]; simp [hj]] at b2
 have l1:a.toNat < M.length:=by rw [h.tq.len]; omega
 exact h.q _ (aX l1) _ (aX (by rw [h.tq.at_ (by omega)]; omega))
theorem Ag.rw {m n t d v:Nat} {M:List (List Rat)} {rs cs:List Int} (h:Ag m n t d v M rs cs):Rw t t (v + (1 + t * d)) (tpW M rs cs):=rw_ok h.pt h.pq (by have:=h.b; omega)
theorem uy {W:List (List Int)} {t b k:Nat} (h:∀ r ∈ W,r.length=t/\∀ x ∈ r,Bd b x):∀ r ∈ wsM W k,r.length=t/\∀ x ∈ r,x.natAbs<=2 ^ b:=λr hr=>by
 unfold wsM at hr
 obtain ⟨i,hi,rfl⟩:=List.mem_map.mp hr
 have hi:=List.mem_range.mp hi
 obtain ⟨h1,h2⟩:=h _ (aX (d:=[]) hi)
 refine ⟨by rw [List.length_set]; exact h1,λx hx=>?_⟩
 rcases List.mem_or_eq_of_mem_set hx with z | z
 · exact Nat.le_of_lt (h2 x z)
 · rw [z]
   have:1<=2 ^ b:=Nat.one_le_two_pow
   unfold sgI
   split
   · exact this
   · exact this
theorem rep1 {α:Type} (x:α):∀ n,(List.replicate n [x]).flatten=List.replicate n x
 | 0=>rfl
 | n + 1=>by rw [List.replicate_succ,List.flatten_cons,rep1 x n]; rfl
theorem AF {n m:Nat} (h:m < n):ixN n (m:Int)=some m:=by
 unfold ixN
 rw [if_pos (by omega),if_pos (by omega)]
 rfl
noncomputable def df (ds:List D) (r:Sl):Prop:=∃ (m n t d v:Nat) (M:List (List Rat)) (rs cs:List Int),ds=[tbQ M,.lst (rs.map .int),.lst (cs.map .int)]/\Ag m n t d v M rs cs/\r=.o ((tpZ n M rs cs).map .int)
section
variable {P:Program} {w:World} {K:PySem.W.Frag} {mg:Str->Option Value} {base:Heap} {k:Nat} {f:Addr} {fd:FuncData} {qual:Str}
set_option maxHeartbeats 1000000 in
theorem i8 (F:Fun K "tops_against" qual (top 64) f fd) (hb:∀ x ∈ aj,mg x=none) (c_chosen:Cal P w K mg base k "chosen" jI) (c_whole_rows:Cal P w K mg base k "whole_rows" cg) (c_scale_of:Cal P w K mg base k "scale_of" cE) (c_whole_determinant:Cal P w K mg base k "whole_determinant" bQ) (c_with_signs_at:Cal P w K mg base k "with_signs_at" cN):aJ P w K mg base CX0 (k + 1) f fd ["table","rows","columns"] (spD K df):=by
 refine fnD F fm hb (by rintro _ _ ⟨_,_,_,_,_,_,_,_,rfl,_⟩; rfl) ?_
 rintro _ _ ⟨m,n,t,d,v,M,rs,cs,rfl,h,rfl⟩ cdv A outer s H E b
 have nd:=fm.nd
 have r1:=h.tq.r1
 have m7:=h.tq.r7
 have n7:=h.tq.c7
 have c1:=h.tq.c1
 have tm:=h.tm
 have t1:=h.t1
 have hb':=h.b
 have pt:=h.pt
 have pq:=h.pq
 have rw:=h.rw
 have lp:((chM M rs cs).map rwQ).length=t:=by rw [List.length_map,pt.len]
 refine av 3 nd (aH (x:=tbQ (chM M rs cs)) (x_call b c_chosen (ae (aa 0) (ae (aa 1) (ae (aa 2) ah))) ⟨m,n,M,rs,cs,rfl,h.tq,⟨by rw [h.r.len]; omega,λi hi=>h.r.at_ i (by rw [<- h.r.len]; exact hi)⟩,⟨by rw [h.c.len]; omega,λi hi=>h.c.at_ i (by rw [<- h.c.len]; exact hi)⟩,rfl⟩)) ?_
 generalize hP:chM M rs cs=Q at pt pq lp
 have nd1:d<=t * d:=Nat.le_mul_of_pos_left d t1
 have es:(D.lst ((Q.map scL).map .int))=.lst ((List.range (Q.map rwQ).length).map λi=>D.int (scL (Q.getD i []))):=congrArg D.lst (((bG (λr:List Rat=>D.int (scL r)) Q [] (List.length_map ..)).trans (by rw [List.map_map]; rfl)).symm)
 have eW:tpW M rs cs=whM Q (Q.map scL):=by unfold tpW; rw [hP]
 refine av 4 nd (aH (x:=.lst ((tpW M rs cs).map dtR)) (x_call b c_whole_rows (ae (aa 3) (ae (aH (bH (cmp 0 (g:=λi=>rwQ (Q.getD i [])) (f:=λi=>.int (scL (Q.getD i []))) b (aV (aa 3)) (b5 (f:=rwQ) (xs:=Q) []) (by rw [lp]; omega) λi hi s0 H0 fp=>(x_call (b.comp s0 H0 _ fp) c_scale_of (ae (aa 0) ah) ⟨_,d,rfl,?_,?_,?_,?_,rfl⟩)))) ah)) ⟨Q,Q.map scL,v + d,by rw [es],by rw [List.length_map],by rw [pt.len]; omega,λr hr=>⟨by rw [pt.row r hr]; omega,λx hx=>(pq r hr x hx).sq⟩,by omega,?_,rfl⟩) (by rw [eW]; rfl)) ?_
 · rw [pt.row _ (aX (by simpa using hi))]; omega
 · exact λx hx=>(pq _ (aX (by simpa using hi)) x hx).den
 · rw [pt.row _ (aX (by simpa using hi))]; omega
 · omega
 · intro s hs
   obtain ⟨r,hr,rfl⟩:=List.mem_map.mp hs
   have:=e8 (d:=d) (r:=r) λx hx=>(pq _ hr x hx).den
   rw [pt.row r hr] at this
   exact this.mono (by omega)
 have e0:atI (M.map rwQ) 0=some (rwQ (M.getD 0 [])):=cR [] (i:=0) (by rw [h.tq.len]; omega)
 refine av 5 nd (s:=.o ((tpL n cs (tpW M rs cs) 0).map .int)) ?_ ?_
 · have er:(tpL n cs (tpW M rs cs) 0).map D.int=(List.replicate (n:Int).toNat [D.int 0]).flatten:=by
     unfold tpL
     rw [Int.toNat_natCast]
     show (List.replicate n (0:Int)).map D.int=_
     rw [List.map_replicate,rep1]
   rw [er]
   exact Aj (aH (br (ae af ah))) (a5 b (ae (aQ (aa 0) af (aO e0)) ah) (eC (n:=n) (by rw [List.length_map]; exact h.tq.at_ (by omega)))) (by omega) (by omega) (by rw [Int.toNat_natCast]; show 1 * n < _; omega)
 rw [show tpZ n M rs cs=tpL n cs (tpW M rs cs) cs.length from rfl]
 generalize tpW M rs cs=W at rw ⊢
 refine pG 6 7 (g:=λi=>.int (i:Nat)) (g':=λi=>.int (cs.getD i 0)) (λi τ=>∃ s6 s7,τ=[.d (tbQ M),.d (.lst (rs.map .int)),.d (.lst (cs.map .int)),.d (tbQ Q),.d (.lst (W.map dtR)),.o ((tpL n cs W i).map .int),s6,s7]) b nd (qv b (aa 2)) tV ⟨.un,.un,rfl⟩ (λi hi τ hh=>?_) λτ hh=>?_
 · obtain ⟨s6,s7,rfl⟩:=hh
   have hi:i < t:=by rw [cb,List.length_map,h.c.len] at hi; exact hi
   have ci:=h.c.at_ i hi
   have ec:cs.getD i 0=(((cs.getD i 0).toNat:Nat):Int):=by omega
   have wr:=uy (k:=i) rw.row
   have wl:(wsM W i).length=t:=by unfold wsM; rw [List.length_map,List.length_range,rw.len]
   refine tR 5 (xs:=(tpL n cs W i).map .int) (j:=(cs.getD i 0).toNat) (aa 7) (fS (x_call b c_whole_determinant (ae (aH (x:=.lst ((wsM W i).map dtR)) (x_call b c_with_signs_at (ae (aa 4) (ae (aa 6) ah)) ⟨W,i,t,rfl,by rw [rw.len]; omega,λr hr=>(rw.row r hr).1,hi,by omega,rfl⟩)) ah) ⟨t,v + (1 + t * d),wsM W i,rfl,wl,by omega,wr,?_,rfl⟩)) ?_ (aR ⟨.d (.int (i:Nat)),.d (.int (cs.getD i 0)),?_⟩)
   · have:t * (v + (1 + t * d) + 3)<=7 * 1283:=Nat.mul_le_mul (by omega) (by omega)
     omega
   · rw [List.length_map,mL]
     rw [ec]
     exact AF (by omega)
   · rw [ng,List.map_set]
     rfl
 · obtain ⟨s6,s7,rfl⟩:=hh
   rw [cb,List.length_map]
   exact j4 5 rfl
end
noncomputable def di (ds:List D) (r:Sl):Prop:=∃ a b:Int,ds=[.int a,.int b]/\r=.d (.int (Int.gcd a b:Int))
noncomputable def jC (ds:List D) (r:Sl):Prop:=∃ (t b:Int) (q:Rat),ds=[.int t,.int b]/\0 < b/\Bd 8999 b/\(t:Rat)=q * (b:Rat)/\r=.d (frD q)
noncomputable def jj (ds:List D) (r:Sl):Prop:=∃ (ns:List Int) (k:Nat),ds=[.lst (ns.map .int),.int k]/\r=.d (.int (ns.getD k 0))
noncomputable def rsZ (c u:Int):Int:=if decide ((10:Int) ^ Int.toNat 18<=kn c)=true then c.fdiv u else c + u
noncomputable def jv (ds:List D) (r:Sl):Prop:=∃ c u:Int,ds=[.int c,.int u]/\0 < u/\u < 2 ^ 60/\r=.d (.int (rsZ c u))
theorem Qs.of {t b:Int} {q:Rat} {d v:Nat} (hb:0 < b) (h:(t:Rat)=q * (b:Rat)) (hd:Bd d b) (hv:t.natAbs<=2 ^ v):Qs d v q:=by
 obtain ⟨e1,e2⟩:=ml hb h
 refine ⟨by rw [e2]; exact hd.ediv _,?_⟩
 have g:=Int.gcd_dvd_left (a:=t) (b:=b)
 have h1:q.num.natAbs<=t.natAbs:=by rw [e1]; exact Int.natAbs_ediv_le_natAbs ..
 exact Nat.le_trans h1 (Nat.le_trans hv (Nat.le_mul_of_pos_right _ q.den_pos))
noncomputable def nmT (kd:Nat) (p:Int):Int:=if kd=1 then p.fmod 5 - 2 else if kd=3 then (p.fdiv 2).fmod (10 ^ 40) * (1 - 2 * p.fmod 2) else if kd=2 then p.fmod 10 else p.fmod 19 - 9
noncomputable def nmB (kd:Nat) (p:Int):Int:=if kd=1 then 1 else if kd=3 then 1 + (p.fdiv (2 * 10 ^ 40)).fmod (10 ^ 40 - 1) else if kd=2 then 1 + (p.fdiv 10).fmod 6 else 1 + (p.fdiv 19).fmod 6
noncomputable def nmQ (kd:Nat) (p:Int):Rat:=if kd=1 then ((p.fmod 5 - 2:Int):Rat) else ((nmT kd p:Int):Rat) / ((nmB kd p:Int):Rat)
noncomputable def kD (kd:Nat):Nat:=if kd=3 then 133 else 3
noncomputable def kV (kd:Nat):Nat:=if kd=3 then 133 else 4
theorem fmn {a b:Int} (h:0 < b):0<=a.fmod b/\a.fmod b < b:=⟨Int.fmod_nonneg_of_pos a h,Int.fmod_lt_of_pos a h⟩
theorem mH {kd:Nat} (p:Int):0 < nmB kd p/\Bd (kD kd) (nmB kd p):=by
 unfold nmB kD
 by_cases h1:kd=1
 · rw [if_pos h1,if_neg (by omega)]; exact ⟨by decide,by unfold Bd; decide⟩
 · rw [if_neg h1]
   by_cases h3:kd=3
   · rw [if_pos h3,if_pos h3]
     have:=fmn (a:=p.fdiv (2 * 10 ^ 40)) (b:=10 ^ 40 - 1) (by decide)
     refine ⟨by omega,?_⟩
     unfold Bd
     have:(10:Int) ^ 40 < 2 ^ 133:=by decide
     have e:((2 ^ 133:Nat):Int)=2 ^ 133:=by decide
     omega
   · rw [if_neg h3,if_neg h3]
     by_cases h2:kd=2
     · rw [if_pos h2]
       have:=fmn (a:=p.fdiv 10) (b:=6) (by decide)
       exact ⟨by omega,by unfold Bd; omega⟩
     · rw [if_neg h2]
       have:=fmn (a:=p.fdiv 19) (b:=6) (by decide)
       exact ⟨by omega,by unfold Bd; omega⟩
theorem xC {kd:Nat} (p:Int):(nmT kd p).natAbs<=2 ^ kV kd:=by
 unfold nmT kV
 by_cases h1:kd=1
 · rw [if_pos h1,if_neg (by omega)]
   have:=fmn (a:=p) (b:=5) (by decide)
   omega
 · rw [if_neg h1]
   by_cases h3:kd=3
   · rw [if_pos h3,if_pos h3]
     have h4:=fmn (a:=p.fdiv 2) (b:=10 ^ 40) (by decide)
     have h5:=fmn (a:=p) (b:=2) (by decide)
     have:(10:Int) ^ 40 < 2 ^ 133:=by decide
     have e:((2 ^ 133:Nat):Int)=2 ^ 133:=by decide
     rw [Int.natAbs_mul,show (1 - 2 * p.fmod 2).natAbs=1 by omega,Nat.mul_one]
     omega
   · rw [if_neg h3,if_neg h3]
     by_cases h2:kd=2
     · rw [if_pos h2]
       have:=fmn (a:=p) (b:=10) (by decide)
       omega
     · rw [if_neg h2]
       have:=fmn (a:=p) (b:=19) (by decide)
       omega
theorem uw {kd:Nat} (p:Int):((nmT kd p:Int):Rat)=nmQ kd p * ((nmB kd p:Int):Rat):=by
 unfold nmQ
 by_cases h1:kd=1
 · rw [if_pos h1]
   unfold nmT nmB
   rw [if_pos h1,if_pos h1]
   exact (Rat.mul_one _).symm
 · rw [if_neg h1]
   exact (Rat.div_mul_cancel (xN (mH p).1)).symm
theorem wK {kd:Nat} (p:Int):Qs (kD kd) (kV kd) (nmQ kd p):=Qs.of (mH p).1 (uw p) (mH p).2 (xC p)
noncomputable def eV (ds:List D) (r:Sl):Prop:=∃ (kd:Nat) (p:Int),ds=[.int (kd:Nat),.int p]/\kd < 4/\r=.d (frD (nmQ kd p))
theorem m40:aG ((2:Int) * 10 ^ 40) (10 ^ 40):=(show Bd 140 ((2:Int) * 10 ^ 40) by unfold Bd; decide).aG (show Bd 140 ((10:Int) ^ 40) by unfold Bd; decide) (by decide) (by decide)
theorem AU:aE ((2:Int) * 10 ^ 40):=(show Bd 140 ((2:Int) * 10 ^ 40) by unfold Bd; decide).aE (by decide) (by decide)
section
variable {P:Program} {w:World} {K:PySem.W.Frag} {mg:Str->Option Value} {base:Heap} {k:Nat} {f:Addr} {fd:FuncData} {qual:Str}
theorem mB (F:Fun K "_law_divisor" qual (top 70) f fd) (hb:∀ x ∈ aj,mg x=none):aJ P w K mg base CX0 (k + 1) f fd ["_law_one","_law_other"] (spD K di):=by
 refine fnD F gU hb (by rintro _ _ ⟨_,_,rfl,_⟩; rfl) ?_
 rintro _ _ ⟨x,y,rfl,rfl⟩ cdv A outer s H E b
 have nd:=gU.nd
 refine av 0 nd (a5 b (ae (aa 0) ah) jL) (av 1 nd (a5 b (ae (aa 1) ah) jL) ?_)
 rw [gN,gN]
 refine mr (λn t τ=>∃ (g:Nat) (s2:Sl),Nat.gcd g n=Int.gcd x y/\t=(decide ((0:Int) < n))/\τ=[.d (.int g),.d (.int n),s2]) b ⟨_,_,_,_,rfl,rfl,rfl⟩ (λn t τ h=>?_) (λn τ h=>?_) λn τ h=>?_
 · obtain ⟨g,s2,_,rfl,rfl⟩:=h
   exact aF (aa 1) af mW
 · obtain ⟨g,s2,hg,ht,rfl⟩:=h
   have hl:n ≠ 0:=λz=>by simp [z] at ht
   have e:(g:Int).fmod n=((g % n:Nat):Int):=by rw [Int.fmod_eq_emod_of_nonneg _ (by omega)]; rfl
   refine av 2 nd (aA (aa 0) (aa 1) (cc (by omega))) ?_
   rw [e]
   refine av 0 nd (aa 1) (av 1 nd (aa 2) (aR ⟨g % n,_,Nat.mod_lt g (Nat.pos_of_ne_zero hl),n,_,?_,rfl,rfl⟩))
   rw [<- hg,Nat.gcd_comm n,<- Nat.gcd_rec,Nat.gcd_comm]
 · obtain ⟨g,s2,hg,ht,rfl⟩:=h
   have hl:n=0:=by have:=of_decide_eq_false ht.symm; omega
   refine ax (aa 0) ?_
   rw [<- hg,hl,Nat.gcd_zero_right]
theorem rH (F:Fun K "_law_made" qual (top 71) f fd) (hb:∀ x ∈ aj,mg x=none) (c_l_divisor:Cal P w K mg base k "_law_divisor" di):aJ P w K mg base CX0 (k + 1) f fd ["_law_top","_law_bottom"] (spD K jC):=by
 refine fnD F kK hb (by rintro _ _ ⟨_,_,_,rfl,_⟩; rfl) ?_
 rintro _ _ ⟨t,c,q,rfl,h0,h1,hq,rfl⟩ cdv A outer s H E b
 have nd:=kK.nd
 have dv:aE (Int.gcd t c:Int):=(h1.gcd (by omega)).aE (jR (by omega)) (by decide)
 obtain ⟨e1,e2⟩:=ml h0 hq
 refine av 2 nd (x_call b c_l_divisor (ae (aa 0) (ae (aa 1) ah)) ⟨_,_,rfl,rfl⟩) (ax (cf (ae (aA (aa 0) (aa 2) (bW dv)) (ae (aA (aa 1) (aa 2) (bW dv)) ah))) ?_)
 rw [eF,eF,<- e1,<- e2]
 rfl
theorem qV (F:Fun K "_law_cell" qual (top 67) f fd) (hb:∀ x ∈ aj,mg x=none):aJ P w K mg base CX0 (k + 1) f fd ["_law_script","_law_k"] (spD K jj):=by
 refine fnD F rO hb (by rintro _ _ ⟨_,_,rfl,_⟩; rfl) ?_
 rintro _ _ ⟨ns,n,rfl,rfl⟩ cdv A outer s H E b
 refine aY (aF (aa 1) (a5 b (ae (aa 0) ah) cX) pv) (λh=>?_) λh=>?_
 · have h:=of_decide_eq_true h
   rw [List.length_map] at h
   exact ax (aQ (aa 0) (aa 1) (aO (pM (by omega) (by omega)))) rfl
 · have h:=of_decide_eq_false h
   rw [List.length_map] at h
   refine ax af ?_
   show Sl.d (.int 0)=_
   rw [getD_none (by omega)]
theorem rn (F:Fun K "_law_rest" qual (top 69) f fd) (hb:∀ x ∈ aj,mg x=none):aJ P w K mg base CX0 (k + 1) f fd ["_law_cell_here","_law_used"] (spD K jv):=by
 refine fnD F qW hb (by rintro _ _ ⟨_,_,rfl,_⟩; rfl) ?_
 rintro _ _ ⟨c,u,rfl,h0,h1,rfl⟩ cdv A outer s H E b
 refine aY (aF (a5 b (ae (aa 0) ah) jL) (aA af af (gh ⟨by decide,by decide,by decide⟩)) yg) (λh=>?_) λh=>?_
 · refine ax (aA (aa 0) (aa 1) (bW (mkD (by omega) (by omega)))) ?_
   unfold rsZ
   rw [if_pos (show decide ((10:Int) ^ Int.toNat 18<=kn c)=true from h)]
 · refine ax (aA (aa 0) (aa 1) bj) ?_
   unfold rsZ
   rw [if_neg (λz=>by rw [show decide ((10:Int) ^ Int.toNat 18<=kn c)=false from h] at z; cases z)]
theorem nr (F:Fun K "_law_number" qual (top 72) f fd) (hb:∀ x ∈ aj,mg x=none) (c_l_made:Cal P w K mg base k "_law_made" jC):aJ P w K mg base CX0 (k + 1) f fd ["_law_kind","_law_part"] (spD K eV):=by
 refine fnD F iZ hb (by rintro _ _ ⟨_,_,rfl,_⟩; rfl) ?_
 rintro _ _ ⟨kd,p,rfl,h4,rfl⟩ cdv A outer s H E b
 have nd:=iZ.nd
 obtain ⟨b0,b1⟩:=mH (kd:=kd) p
 have b2:Bd 8999 (nmB kd p):=b1.mono (by unfold kD; split <;> decide)
 have hm:=uw (kd:=kd) p
 refine aY (aF (aa 0) af bJ) (λh=>?_) λh=>?_
 · have h1:kd=1:=by have:=of_decide_eq_true h; omega
   refine ax (cf (ae (aA (aA (aa 1) af (cc (by decide))) af fj) (ae af ah))) ?_
   unfold nmQ
   rw [if_pos h1]
   rfl
 have n1:¬ kd=1:=by have:=of_decide_eq_false h; omega
 refine aY (aF (aa 0) af bJ) (λh=>?_) λh=>?_
 · have h3:kd=3:=by have:=of_decide_eq_true h; omega
   have eT:nmT kd p=(p.fdiv 2).fmod (10 ^ 40) * (1 - 2 * p.fmod 2):=by unfold nmT; rw [if_neg n1,if_pos h3]
   have eB:nmB kd p=1 + (p.fdiv (2 * 10 ^ 40)).fmod (10 ^ 40 - 1):=by unfold nmB; rw [if_neg n1,if_pos h3]
   rw [eT] at hm
   rw [eB] at hm b0 b2
   refine av 2 nd (aA (aA (aA (aa 1) af (bW (mkD (by decide) (by decide)))) (aA af af (gh ⟨by decide,by decide,by decide⟩)) (cc (by decide))) (aA af (aA af (aA (aa 1) af (cc (by decide))) (bC (mkL (by decide)))) fj) (bC (mkR ?_))) ?_
   · have:=fmn (a:=p) (b:=2) (by decide); omega
   exact ax (x_call b c_l_made (ae (aa 2) (ae (aA af (aA (aA (aa 1) (aA af (aA af af (gh ⟨by decide,by decide,by decide⟩)) (bC (mkL (by decide)))) (bW AU)) (aA (aA af af (gh ⟨by decide,by decide,by decide⟩)) af fj) (cc (by decide))) bj) ah)) ⟨_,_,nmQ kd p,rfl,b0,b2,hm,rfl⟩) rfl
 have n3:¬ kd=3:=by have:=of_decide_eq_false h; omega
 refine aY (aF (aa 0) af bJ) (λh=>?_) λh=>?_
 · have h2:kd=2:=by have:=of_decide_eq_true h; omega
   have eT:nmT kd p=p.fmod 10:=by unfold nmT; rw [if_neg n1,if_neg n3,if_pos h2]
   have eB:nmB kd p=1 + (p.fdiv 10).fmod 6:=by unfold nmB; rw [if_neg n1,if_neg n3,if_pos h2]
   rw [eT] at hm
   rw [eB] at hm b0 b2
   exact ax (x_call b c_l_made (ae (aA (aa 1) af (cc (by decide))) (ae (aA af (aA (aA (aa 1) af (bW (mkD (by decide) (by decide)))) af (cc (by decide))) bj) ah)) ⟨_,_,nmQ kd p,rfl,b0,b2,hm,rfl⟩) rfl
 · have n2:¬ kd=2:=by have:=of_decide_eq_false h; omega
   have eT:nmT kd p=p.fmod 19 - 9:=by unfold nmT; rw [if_neg n1,if_neg n3,if_neg n2]
   have eB:nmB kd p=1 + (p.fdiv 19).fmod 6:=by unfold nmB; rw [if_neg n1,if_neg n3,if_neg n2]
   rw [eT] at hm
   rw [eB] at hm b0 b2
   exact ax (x_call b c_l_made (ae (aA (aA (aa 1) af (cc (by decide))) af fj) (ae (aA af (aA (aA (aa 1) af (bW (mkD (by decide) (by decide)))) af (cc (by decide))) bj) ah)) ⟨_,_,nmQ kd p,rfl,b0,b2,hm,rfl⟩) rfl
end
end K41
namespace Hy
open PySem PySem.Spec PyProof.Rows L2
open Ev (D Den au ar aZ aP)
noncomputable def Pj (σ:L2.St) (H:Hp) (i j k:Nat):Prop:=∃ a vs v,(σ[i]?).join=some (.ref a)/\H a=some (.lst vs)/\vs[k]?=some v/\σ[j]?=some (some v)
noncomputable def dEJ (K:PySem.W.Frag) (τ:List Sl) (i j k:Nat) (x:D):TE:=λσ H Q=>∃ A H₀ B,Sta K A H₀ τ B σ H/\Pj σ H i j k/\∀ v H',aq H H'->Den K (hd H' A) v x->Q v H'
section
variable {X:Cx} {τ τ1 τ2:List Sl} {x y z:D} {a b e o ix:Expr} {es:List Expr} {pos p q:Pos} {l:Nat} {s:Sl} {N:Po} {st:Stmt} {body rest:List Stmt} {i j k:Nat} {t c:Nd} {pt:List Nat} {xs:List Nd} {m:Nat} {ds:List D}
end
section
variable {X:Cx} {τ τ1 τ2:List Sl} {x y z:D} {a b e o ix:Expr} {es:List Expr} {pos p q:Pos} {l:Nat} {s:Sl} {N:Po} {st:Stmt} {body rest:List Stmt} {i j k:Nat} {t c:Nd} {pt:List Nat} {xs:List Nd} {m:Nat} {ds:List D}
theorem ej (h:PE X e (dE X.K false τ (.d x))):PE X e (dEJ X.K τ i j k x):=peW h λσ H Q ⟨A,H₀,B,S,_,q⟩=>aW S λv H' e d=>q v H' e d
end
section
variable {X:Cx} {τ τ1 τ2:List Sl} {x y z:D} {a b e o ix:Expr} {pos p q:Pos} {l:Nat} {N:Po} {st:Stmt} {body rest:List Stmt} {i j k:Nat} {t c:Nd} {pt:List Nat} {ds:List D}
end
section
variable {K:PySem.W.Frag} {G H:Hp}
end
section
variable {X:Cx} {τ:List Sl} {ia ia2 ib ib2:Expr} {N:Po} {rest:List Stmt} {xs:List Nd} {xa xb:Nd}
end
section
variable {X:Cx} {τ:List Sl} {e2:Expr} {N:Po} {rest:List Stmt} {pos p tp:Pos} {x2:D} {t:Nd}
end
section
variable {P:Program} {w:World} {K:PySem.W.Frag} {mg:Str->Option Value} {base:Heap}
end
section
variable {X:Cx} {τ:List Sl} {es:List Expr} {pos p q pr:Pos} {k:Nat} {s:Sl} {ds:List D} {N:Po} {rest:List Stmt}
end
end Hy
namespace K41
open PySem PySem.Spec PyProof.Rows L2 Hy
open Ev (D Den au aG aE)
theorem wX (xs:List D):oG (xs.map .d)=xs:=by
 induction xs with
 | nil=>rfl
 | cons x xs ih=>rw [List.map_cons,oG,ndD,ih]
noncomputable def szP (c:Int):List Int:=nums c [8,4,4,7,7]
noncomputable def szR (c:Int):Nat:=(1 + (if (szP c).getD 0 0=1 then (szP c).getD 3 0 else (szP c).getD 1 0)).toNat
noncomputable def szC (c:Int):Nat:=(1 + (if (szP c).getD 0 0=1 then (szP c).getD 4 0 else (szP c).getD 2 0)).toNat
theorem fR (c:Int) {i:Nat} (h:i < 5):0<=(szP c).getD i 0/\(szP c).getD i 0 < [8,4,4,7,7].getD i 0:=me (c:=c) (bs:=[8,4,4,7,7]) (by decide) h
theorem zi (c:Int):1<=szR c/\szR c<=7/\1<=szC c/\szC c<=7:=by
 have h1:=fR c (i:=1) (by decide)
 have h2:=fR c (i:=2) (by decide)
 have h3:=fR c (i:=3) (by decide)
 have h4:=fR c (i:=4) (by decide)
 have e1:([8,4,4,7,7]:List Int).getD 1 0=4:=rfl
 have e2:([8,4,4,7,7]:List Int).getD 2 0=4:=rfl
 have e3:([8,4,4,7,7]:List Int).getD 3 0=7:=rfl
 have e4:([8,4,4,7,7]:List Int).getD 4 0=7:=rfl
 unfold szR szC
 split <;> omega
noncomputable def jy (ds:List D) (r:Sl):Prop:=∃ c:Int,ds=[.int c]/\r=.d (.tup [.int (szR c:Nat),.int (szC c:Nat)])
section
variable {P:Program} {w:World} {K:PySem.W.Frag} {mg:Str->Option Value} {base:Heap} {k:Nat} {f:Addr} {fd:FuncData} {qual:Str}
theorem rW (F:Fun K "_law_size" qual (top 74) f fd) (hb:∀ x ∈ aj,mg x=none) (c_l_numbers:Cal P w K mg base k "_law_numbers" b8):aJ P w K mg base CX0 (k + 1) f fd ["_law_cell_here"] (spD K jy):=by
 refine fnD F la hb (by rintro _ _ ⟨_,rfl,_⟩; rfl) ?_
 rintro _ _ ⟨c,rfl,rfl⟩ cdv A outer s H E b
 have nd:=la.nd
 refine av 1 nd (aH (x_call b c_l_numbers (ae (aa 0) (ae (aH (br (ae af (ae af (ae af (ae af (ae af ah))))))) ah)) ⟨c,[8,4,4,7,7],rfl,by decide,λx hx=>?_,rfl⟩)) ?_
 · have:0 < x/\x < 9:=by
     simp only [List.mem_cons,List.not_mem_nil,or_false] at hx
     omega
   exact nJ this.1 (by omega)
 have ln:(szP c).length=5:=ig c _
 have at_:∀ i:Nat,i < 5->atI ((szP c).map D.int) (i:Int)=some (.int ((szP c).getD i 0)):=λi hi=>atR (by rw [ln]; exact hi)
 have h1:=fR c (i:=1) (by decide)
 have h2:=fR c (i:=2) (by decide)
 have h3:=fR c (i:=3) (by decide)
 have h4:=fR c (i:=4) (by decide)
 refine aY (aF (aQ (aa 1) af (aO (at_ 0 (by decide)))) af bJ) (λh=>?_) λh=>?_
 · refine ax (cf (ae (aA af (aQ (aa 1) af (aO (at_ 3 (by decide)))) bj) (ae (aA af (aQ (aa 1) af (aO (at_ 4 (by decide)))) bj) ah))) ?_
   have h:=of_decide_eq_true h
   have e1:((szR c:Nat):Int)=1 + (szP c).getD 3 0:=by unfold szR; rw [if_pos h]; omega
   have e2:((szC c:Nat):Int)=1 + (szP c).getD 4 0:=by unfold szC; rw [if_pos h]; omega
   rw [e1,e2]
 · refine ax (cf (ae (aA af (aQ (aa 1) af (aO (at_ 1 (by decide)))) bj) (ae (aA af (aQ (aa 1) af (aO (at_ 2 (by decide)))) bj) ah))) ?_
   have h:=of_decide_eq_false h
   have e1:((szR c:Nat):Int)=1 + (szP c).getD 1 0:=by unfold szR; rw [if_neg h]; omega
   have e2:((szC c:Nat):Int)=1 + (szP c).getD 2 0:=by unfold szC; rw [if_neg h]; omega
   rw [e1,e2]
end
end K41
namespace Hy
open PySem PySem.Spec PyProof.Rows L2
open Ev (D Den au ar)
noncomputable def iJ (a:Int) (as:List Int):Int:=as.foldl (λm x=>if x > m then x else m) a
theorem mD:∀ (as:List Int) (a:Int),iJ a as ∈ a :: as/\∀ x ∈ a :: as,x<=iJ a as
 | [],a=>⟨List.mem_cons_self ..,λx hx=>by rw [List.mem_singleton.mp hx]; exact Int.le_refl _⟩
 | b :: as,a=>by
   obtain ⟨h1,h2⟩:=mD as (if b > a then b else a)
   have e:iJ a (b :: as)=iJ (if b > a then b else a) as:=rfl
   rw [e]
   have h3:=h2 _ (List.mem_cons_self ..)
   have h4:a<=(if b > a then b else a)/\b<=(if b > a then b else a):=by split <;> omega
   refine ⟨?_,λx hx=>?_⟩
   · rcases List.mem_cons.mp h1 with z | z
     · rw [z]
       split
       · exact List.mem_cons_of_mem _ (List.mem_cons_self ..)
       · exact List.mem_cons_self ..
     · exact List.mem_cons_of_mem _ (List.mem_cons_of_mem _ z)
   · rcases List.mem_cons.mp hx with z | z
     · rw [z]; exact Int.le_trans h4.1 h3
     · rcases List.mem_cons.mp z with z | z
       · rw [z]; exact Int.le_trans h4.2 h3
       · exact h2 x (List.mem_cons_of_mem _ z)
theorem vX {a M:Int} {as:List Int} (h1:M ∈ a :: as) (h2:∀ x ∈ a :: as,x<=M):iJ a as=M:=by
 obtain ⟨z1,z2⟩:=mD as a
 exact Int.le_antisymm (h2 _ z1) (z2 _ h1)
theorem jw:∀ {us:List Value} {ns:List Int},Vals (ns.map V.int) us->∃ xs:List (Int × Tok),us=xs.map (λp=>Value.int p.1 p.2)/\xs.map (·.1)=ns
 | [],[],_=>⟨[],rfl,rfl⟩
 | [],_ :: _,h=>nomatch h
 | _ :: _,[],h=>nomatch h
 | u :: us,n :: ns,h=>by
   cases h with
   | cons h1 h2=>
     obtain ⟨t,rfl⟩:=h1
     obtain ⟨xs,rfl,rfl⟩:=jw h2
     exact ⟨(n,t) :: xs,rfl,rfl⟩
section
variable {X:Cx}
theorem rG (hc:X.calm=true):cY X (.builtin "max") (λxs H Q=>∃ p a as,xs=[.ref p]/\SqL X.K H p ((a :: as).map V.int)/\Q (.int (iJ a as)) H):=by
 intro pins s σ H vs us Q I r q
 obtain ⟨p,a,as,rfl,h1,q⟩:=q
 obtain ⟨u,rfl,ru⟩:=vals1 r
 cases (show u=Value.ref _ from ru)
 obtain ⟨its,rv,p,hz⟩:=I.list h1
 obtain ⟨xs,rfl,hx⟩:=jw (ns:=a :: as) rv
 have hlen:0 < xs.length:=by have:=congrArg List.length hx; simp only [List.length_map,List.length_cons] at this; omega
 refine max_intList (xs:=xs.toArray) (I.ok.hd hc) (by have:=p.isList; simpa [intItems] using this) (by simpa using hlen) λv h' tk hv k=>?_
 obtain ⟨g1,g2⟩:=argBest_gt (numAt xs.toArray) (xs.toArray.size - 1)
 rw [List.size_toArray] at g1 g2 hv
 revert hv g1 g2
 generalize argBest (λi j=>decide (numAt xs.toArray i > numAt xs.toArray j)) (xs.length - 1)=b
 intro hv g1 g2
 have nat:∀ i (w:Int × Tok),xs[i]?=some w->numAt xs.toArray i=w.1:=λi w e=>by simp [numAt,e]
 obtain ⟨w,hw⟩:∃ w,xs[b]?=some w:=⟨xs[b]'(by omega),List.getElem?_eq_getElem _⟩
 have ev:v=Value.int w.1 w.2:=by
   simp only [intItems,Array.getElem?_map,List.getElem?_toArray,hw,Option.map_some,Option.some.injEq] at hv
   exact hv.symm
 have em:iJ a as=w.1:=by
   refine vX (by rw [<- hx]; exact List.mem_map.mpr ⟨w,List.mem_of_getElem? hw,rfl⟩) λx hx'=>?_
   rw [<- hx] at hx'
   obtain ⟨y,hy,rfl⟩:=List.mem_map.mp hx'
   obtain ⟨i,hi,e⟩:=List.getElem_of_mem hy
   have:=g2 i (by omega)
   rw [nat i y (by rw [List.getElem?_eq_getElem hi,e]),nat b w hw] at this
   exact this
 exact ⟨.int (iJ a as),H,I.kept k,⟨w.2,by rw [em,ev]⟩,q⟩
theorem yf (hc:X.calm=true) (a:Int) (as:List Int) {xs:List D} (hx:xs=(a :: as).map .int):gp X (.builtin "max") [.lst xs] (.d (.int (iJ a as))):=⟨_,rG hc,λM vs H Q _ d q=>by
 subst hx
 cases d with
 | cons d r=>
   cases r
   cases d with
   | lst h1 r=>
     have e:=kR r
     subst e
     exact ⟨_,a,as,rfl,Ev.aP aI h1,q _ H [] (aq.refl _) cC (gg .int)⟩⟩
end
end Hy
namespace Ev
open PySem PySem.Spec PyProof.Rows L2
section
variable {X:Cx} {o:Expr} {apos cpos:Pos} {td:TE}
noncomputable def Ab (td:TE):TE:=λσ H Q=>td σ H λx H1=>∃ z:Int,x=.int z/\Q (.int ((Builtin.Int.intBits z:Nat):Int)) H1
theorem wd (ho:PE X o td) (hbase:attributeBase o "bit_length" X.env (eval o X.env)=eval o X.env) (hline:(apos.endLine == cpos.line)=true):PE X (.Call (.Attribute o "bit_length" apos) [] [] cpos) (Ab td):=by
 intro pins s σ H Q I h
 refine wpAny_Call_method0_late hbase hline (thn (ho pins s σ H _ I h) λv s1 ⟨x,H1,I1,r1,z,ex,q1⟩=>?_)
 subst ex
 obtain ⟨t,rfl⟩:=r1
 refine ⟨"int",_,PySem.F.plainAttrs_int,PySem.F.slot_int_bit_length,PySem.F.type_int_bit_length,typeIs_int _ _ _,(λ_ e=>nomatch e),method0_gives PySem.F.slot_int_bit_length PySem.F.entry_int_bit_length (typeIs_int _ _ _) (PySem.F.args_int_bit_length_1 _) (PySem.AutoIntG2.int_bit_length_int_0 z t) ?_⟩
 exact ⟨.int _,H1,I1.tok _,⟨_,rfl⟩,q1⟩
end
end Ev
namespace Hy
open PySem PySem.Spec PyProof.Rows L2
open Ev (D Den au)
theorem xM {X:Cx} {C:Bool} {τ:List Sl} {o:Expr} {apos cpos:Pos} {z:Int} (ho:PE X o (dE X.K C τ (.d (.int z)))) (hbase:attributeBase o "bit_length" X.env (eval o X.env)=eval o X.env:=by rfl) (hline:(apos.endLine == cpos.line)=true:=by rfl):PE X (.Call (.Attribute o "bit_length" apos) [] [] cpos) (dE X.K C τ (.d (.int ((Builtin.Int.intBits z:Nat):Int)))):=
 peW (Ev.wd ho hbase hline) λσ H Q q=>by
   obtain ⟨A,H₀,B,S,kk⟩:=dD q
   refine aW S λv H1 e1 d1=>?_
   cases d1
   exact ⟨z,rfl,kk _ _ e1 .int⟩
end Hy
namespace K41
open PySem PySem.Spec PyProof.Rows L2 Hy
open Ev (D Den au aG aE)
theorem tU {q:List Rat} (h:nzS q=[]) (x:Rat):nzS (q++[x])=if sgR x=0 then [] else [sgR x]:=by rw [qx,h,xi]; rfl
theorem u6 {q t:List Rat} {s:Int} {l:List Int} (h:nzS q=s :: l):(nzS (q++t)).getD 0 0=s:=by rw [qx,h]; rfl
noncomputable def cv (ds:List D) (r:Sl):Prop:=∃ q:List Rat,ds=[rwQ q]/\1<=q.length/\q.length<=7/\r=.d (.int ((nzS q).getD 0 0))
noncomputable def tlQ (R C:Nat) (M:List (List Rat)) (x:List Rat):Bool:=tlS (nzS (bhQ R C M x)) (nzS x)
noncomputable def bE (ds:List D) (r:Sl):Prop:=∃ (R C d v:Nat) (M:List (List Rat)) (x:List Rat),ds=[tbQ M,rwQ x]/\Tq R C M/\x.length=C/\(∀ r ∈ M,∀ q ∈ r,Qs d v q)/\(∀ q ∈ x,Qs d v q)/\2 + 2 * (C * d)<=8999/\v + (1 + C * d)<=8999/\v + d<=8999/\r=.d (.bl (tlQ R C M x))
noncomputable def oV (ts:List Int):List Int:=ts.map λt=>((Builtin.Int.intBits (kn t):Nat):Int)
noncomputable def mbZ (ts:List Int):Nat:=match oV ts with
 | []=>0
 | a :: as=>(iJ a as).toNat
noncomputable def gm (ts:List Int) (s:Nat):List Rat:=ts.map λt=>((t / 2 ^ s:Int):Rat)
noncomputable def agZ (T:List Rat->Bool) (ts:List Int) (mb bits:Nat):List Rat:=
 if h:1<=bits/\bits < mb then (if T (gm ts (mb - bits)) then gm ts (mb - bits) else agZ T ts mb (2 * bits)) else gm ts 0
termination_by mb - bits
decreasing_by omega
theorem uT {a:Int} {as:List Int} (h:0<=a):0<=iJ a as:=Int.le_trans h ((mD as a).2 a (List.mem_cons_self ..))
theorem zH (o:Option (List Int × List Int)):fzD (fuS o)=some (fuD o):=by
 cases o with
 | none=>rfl
 | some p=>
   show some (D.tup [.lst (oG _),.lst (oG _)])=_
   rw [wX,wX]
   rfl
theorem mf (i:Int):frD (i:Rat)=.tup [.int i,.int 1]:=by
 unfold frD
 rw [Rat.num_intCast,Rat.den_intCast]
 rfl
theorem zp {Ms:List (List Int)} {n b:Nat} (hl:Ms.length=n) (n7:n<=7) (h:∀ r ∈ Ms,r.length=n/\∀ x ∈ r,x.natAbs<=2 ^ b):(wdZ Ms).natAbs<=2 ^ (n * (b + 3)):=by
 have z:=vG (b:=b) (n:=n) (M:=dtM Ms) (by omega) λi hi j hj=>⟨_,rfl,by
   have hm:Ms.getD i [] ∈ Ms:=aX (by omega)
   exact (h _ hm).2 _ (aX (by rw [(h _ hm).1]; exact hj))⟩
 have:=z.num.2
 unfold wdZ
 rw [hl]
 exact this
theorem uo {n t b:Nat} {cs:List Int} {W:List (List Int)} (hl:W.length=t) (t7:t<=7) (h:∀ r ∈ W,r.length=t/\∀ x ∈ r,Bd b x):∀ i,∀ x ∈ tpL n cs W i,x.natAbs<=2 ^ (t * (b + 3))
 | 0,x,hx=>by
   have:x=0:=(List.mem_replicate.mp hx).2
   rw [this]
   exact Nat.zero_le _
 | i + 1,x,hx=>by
   rw [ng] at hx
   rcases List.mem_or_eq_of_mem_set hx with z | z
   · exact uo hl t7 h i x z
   · rw [z,Int.natAbs_neg]
     exact zp (by unfold wsM; rw [List.length_map,List.length_range,hl]) t7 (uy h)
theorem ya (t:Int) (s:Nat):(t / 2 ^ s).natAbs<=t.natAbs:=by
 have p:(0:Int) < 2 ^ s:=by exact Int.pow_pos (by decide)
 rcases Int.le_total 0 t with h | h
 · have h1:0<=t / 2 ^ s:=Int.ediv_nonneg h (Int.le_of_lt p)
   have h2:t / 2 ^ s<=t:=Int.ediv_le_self _ h
   omega
 · have h1:t / 2 ^ s<=0:=by
     have:=Int.ediv_le_ediv p h
     rwa [Int.zero_ediv] at this
   have h2:t<=t / 2 ^ s:=by
     have h3:t * 2 ^ s<=t:=by
       have:=Int.mul_nonneg (show 0<=-t by omega) (show (0:Int)<=2 ^ s - 1 by omega)
       rw [Int.mul_sub,Int.mul_one,Int.neg_mul] at this
       omega
     have:=Int.ediv_le_ediv p h3
     rwa [Int.mul_ediv_cancel _ (by omega)] at this
   omega
theorem An {ts:List Int} {d v s:Nat} (hd:1<=d) (h:∀ t ∈ ts,t.natAbs<=2 ^ v):∀ q ∈ gm ts s,Qs d v q:=λq hq=>by
 unfold gm at hq
 obtain ⟨t,ht,rfl⟩:=List.mem_map.mp hq
 refine ⟨?_,?_⟩
 · rw [Rat.den_intCast]
   unfold Bd
   show 1 < 2 ^ d
   have:=Nat.pow_le_pow_right (n:=2) (by decide) hd
   omega
 · rw [Rat.num_intCast,Rat.den_intCast,Nat.mul_one]
   exact Nat.le_trans (ya t s) (h t ht)
theorem Qs.mo {d v d' v':Nat} {q:Rat} (h:Qs d v q) (hd:d<=d') (hv:v<=v'):Qs d' v' q:=⟨h.den.mono hd,Nat.le_trans h.val (Nat.mul_le_mul_right _ (Nat.pow_le_pow_right (by decide) hv))⟩
noncomputable def eD (ds:List D) (r:Sl):Prop:=∃ (m n t d v:Nat) (M:List (List Rat)) (rs cs:List Int),ds=[tbQ M]/\Ag m n t d v M rs cs/\fuO (whM M (M.map scL)) m n 0=some (rs,cs)/\v + t * (v + (1 + t * d) + 3) + (1 + n * d)<=8999/\r=.o ((agZ (tlQ m n M) (tpZ n M rs cs) (mbZ (tpZ n M rs cs)) 4).map frD)
section
variable {P:Program} {w:World} {K:PySem.W.Frag} {mg:Str->Option Value} {base:Heap} {k:Nat} {f:Addr} {fd:FuncData} {qual:Str}
theorem j9 (F:Fun K "first_sign" qual (top 60) f fd) (hb:∀ x ∈ aj,mg x=none) (c_look_row:Cal P w K mg base k "look_row" bY) (c_signs_of:Cal P w K mg base k "signs_of" c8):aJ P w K mg base CX0 (k + 1) f fd ["row"] (spD K cv):=by
 refine fnD F dN hb (by rintro _ _ ⟨_,rfl,_⟩; rfl) ?_
 rintro _ _ ⟨q,rfl,q1,q7,rfl⟩ cdv A outer s H E b
 have nd:=dN.nd
 refine b9 (x_call b c_look_row (ae (aa 0) ah) ⟨q,rfl,q1,q7,rfl⟩) ?_
 refine cM 1 (g:=λi=>.int ((q.map sgR).getD i 0)) (λi τ=>nzS (q.take i)=[]/\∃ s1,τ=[.d (rwQ q),s1]) b nd (aV (aH (x_call b c_signs_of (ae (aa 0) ah) ⟨q,rfl,by omega,rfl⟩))) (b5 (f:=D.int) (xs:=q.map sgR) 0) ⟨rfl,.un,rfl⟩ (λi hi τ h=>?_) λτ h=>?_
 · obtain ⟨h0,s1,rfl⟩:=h
   have hi:i < q.length:=by simpa using hi
   have et:q.take (i + 1)=q.take i++[q.getD i 0]:=by rw [List.take_add_one]; simp [hi]
   have sn:=tU h0 (q.getD i 0)
   have eg:(q.map sgR).getD i 0=sgR (q.getD i 0):=by simp [hi]
   rw [eg]
   refine aY (aF (aa 1) af gD) (λh=>?_) λh=>?_
   · have h:sgR (q.getD i 0) ≠ 0:=by simpa using h
     rw [if_neg h] at sn
     have e:(nzS q).getD 0 0=sgR (q.getD i 0):=by
       have:=u6 (t:=q.drop (i + 1)) (s:=sgR (q.getD i 0)) (l:=[]) (by rw [<- sn,<- et])
       rwa [List.take_append_drop] at this
     exact ax (aa 1) (by rw [e])
   · have h:sgR (q.getD i 0)=0:=by simpa using h
     rw [if_pos h] at sn
     exact aR ⟨by rw [et]; exact sn,_,rfl⟩
 · obtain ⟨h0,s1,rfl⟩:=h
   rw [List.length_map,List.length_map,List.take_length] at h0
   rw [h0]
   exact ax af rfl
theorem iz (F:Fun K "tells_against" qual (top 62) f fd) (hb:∀ x ∈ aj,mg x=none) (c_behind:Cal P w K mg base k "behind" fN) (c_least_changes:Cal P w K mg base k "least_changes" bD) (c_first_sign:Cal P w K mg base k "first_sign" cv):aJ P w K mg base CX0 (k + 1) f fd ["table","row"] (spD K bE):=by
 refine fnD F bN hb (by rintro _ _ ⟨_,_,_,_,_,_,rfl,_⟩; rfl) ?_
 rintro _ _ ⟨R,C,d,v,M,x,rfl,t,lx,q1,q2,z1,z2,z3,rfl⟩ cdv A outer s H E b
 have nd:=bN.nd
 have r1:=t.r1
 have r7:=t.r7
 have c1:=t.c1
 have c7:=t.c7
 have ly:(bhQ R C M x).length=R:=by simp [bhQ]
 refine av 2 nd (aH (x:=rwQ (bhQ R C M x)) (x_call b c_behind (ae (aa 0) (ae (aa 1) ah)) ⟨R,C,d,v,M,x,rfl,t,lx,q1,q2,z1,z2,z3,rfl⟩)) ?_
 refine av 3 nd (aA (x_call b c_least_changes (ae (aa 2) ah) ⟨_,rfl,by omega,by omega,rfl⟩) (x_call b c_least_changes (ae (aa 1) ah) ⟨x,rfl,by omega,by omega,rfl⟩) fj) ?_
 refine aY (aF (aa 3) af gD) (λh=>?_) λh=>?_
 · have h:((chg (nzS (bhQ R C M x)):Nat):Int) - (chg (nzS x):Nat) ≠ 0:=by simpa using h
   refine ax (d9 (aa 3) af mW) ?_
   unfold tlQ tlS
   rw [if_neg (by omega)]
   exact congrArg (λb=>Sl.d (.bl b)) (decide_eq_decide.mpr (by omega))
 · have h:((chg (nzS (bhQ R C M x)):Nat):Int) - (chg (nzS x):Nat)=0:=by simpa using h
   refine ax (d9 (x_call b c_first_sign (ae (aa 2) ah) ⟨_,rfl,by omega,by omega,rfl⟩) (cf (ae af (ae (x_call b c_first_sign (ae (aa 1) ah) ⟨x,rfl,by omega,by omega,rfl⟩) ah))) (yJ (ns:=[0,(nzS x).getD 0 0]))) ?_
   unfold tlQ tlS
   rw [if_pos (by omega)]
   rfl
set_option maxHeartbeats 1000000 in
theorem oP (F:Fun K "against" qual (top 63) f fd) (hb:∀ x ∈ aj,mg x=none) (c_first_below:Cal P w K mg base k "first_below" cH) (c_tops_against:Cal P w K mg base k "tops_against" df) (c_tells_against:Cal P w K mg base k "tells_against" bE):aJ P w K mg base CX0 (k + 1) f fd ["table"] (spD K eD):=by
 refine fnD F cA hb (by rintro _ _ ⟨_,_,_,_,_,_,_,_,rfl,_⟩; rfl) ?_
 rintro _ _ ⟨m,n,t,d,v,M,rs,cs,rfl,h,hf,hz,rfl⟩ cdv A outer s H E b
 have nd:=cA.nd
 have c1:=h.tq.c1
 have n7:=h.tq.c7
 have sz:=h.sz
 have d1:1<=d:=(h.q _ (aX (d:=[]) (i:=0) (by rw [h.tq.len]; have:=h.tq.r1; omega)) _ (aX (d:=0) (i:=0) (by rw [h.tq.at_ (by have:=h.tq.r1; omega)]; exact c1))).d1
 refine av 1 nd (s:=.d (fuD (some (rs,cs)))) (aH (x_call b c_first_below (ae (aa 0) ah) ⟨m,n,d,v,M,rfl,h.tq,h.q,by omega,rfl⟩) (by rw [hf]; exact zH _)) ?_
 refine dZ (aF (aa 1) gj (pN (o:=some (rs,cs)))) rfl ?_
 refine av 2 nd (aH (x:=.lst ((tpZ n M rs cs).map .int)) (x_call b c_tops_against (ae (aa 0) (ae (aQ (aa 1) af (bK (aT (i:=0) rfl))) (ae (aQ (aa 1) af (bK (aT (i:=1) rfl))) ah))) ⟨m,n,t,d,v,M,rs,cs,rfl,h,rfl⟩)) ?_
 have lt:(tpZ n M rs cs).length=n:=mL ..
 have bt:∀ x ∈ tpZ n M rs cs,x.natAbs<=2 ^ (t * (v + (1 + t * d) + 3)):=uo h.rw.len (by have:=h.tn; omega) h.rw.row _
 generalize tpZ n M rs cs=ts at lt bt ⊢
 have qs:∀ s,∀ q ∈ gm ts s,Qs d (v + t * (v + (1 + t * d) + 3)) q:=λs q hq=>(An d1 bt q hq).mo (Nat.le_refl _) (by omega)
 have qm:∀ r ∈ M,∀ q ∈ r,Qs d (v + t * (v + (1 + t * d) + 3)) q:=λr hr q hq=>(h.q r hr q hq).mo (Nat.le_refl _) (by omega)
 have ls:∀ s,(gm ts s).length=n:=λs=>by unfold gm; rw [List.length_map,lt]
 have nd1:d<=n * d:=Nat.le_mul_of_pos_left d c1
 have lm:(ts.map D.int).length=n:=by rw [List.length_map,lt]
 have es:∀ s,(List.range (ts.map D.int).length).map (λi=>frD (((ts.getD i 0 / 2 ^ s:Int)):Rat))=(gm ts s).map frD:=λs=>by
   unfold gm
   rw [List.map_map,lm,<- lt]
   exact bG (λt:Int=>frD ((t / 2 ^ s:Int):Rat)) ts 0 rfl
 obtain ⟨a,as,ea⟩:∃ a as,oV ts=a :: as:=by
   cases e:oV ts with
   | nil=>have:=congrArg List.length e; unfold oV at this; rw [List.length_map,lt] at this; simp at this; omega
   | cons a as=>exact ⟨a,as,rfl⟩
 have nn:∀ x ∈ oV ts,0<=x:=λx hx=>by
   unfold oV at hx
   obtain ⟨t,_,rfl⟩:=List.mem_map.mp hx
   exact Int.natCast_nonneg _
 have em:iJ a as=(mbZ ts:Nat):=by
   have:=uT (a:=a) (as:=as) (nn a (by rw [ea]; exact List.mem_cons_self ..))
   unfold mbZ
   rw [ea]
   show _=((iJ a as).toNat:Int)
   omega
 refine av 3 nd (s:=.d (.int (mbZ ts:Nat))) (by rw [<- em]; exact a5 b (ae (aH (bH (cmp 0 (g:=λi=>.int (ts.getD i 0)) (f:=λi=>.int ((Builtin.Int.intBits (kn (ts.getD i 0)):Nat):Int)) b (aV (aa 2)) (b5 (f:=D.int) (xs:=ts) 0) (by rw [lm]; omega) λi hi s0 H0 fp=>xM (a5 (b.comp s0 H0 _ fp) (ae (aa 0) ah) jL)))) ah) (yf b.calm a as (by
   rw [<- ea]
   unfold oV
   rw [List.map_map,lm,<- lt]
   exact bG (λt:Int=>D.int ((Builtin.Int.intBits (kn t):Nat):Int)) ts 0 rfl))) ?_
 generalize mbZ ts=mb
 refine av 4 nd af ?_
 refine mr (λl c τ=>∃ (bits:Nat) (s5:Sl),1<=bits/\l=mb - bits/\c=decide ((bits:Int) < (mb:Nat))/\agZ (tlQ m n M) ts mb bits=agZ (tlQ m n M) ts mb 4/\τ=[.d (tbQ M),.d (fuD (some (rs,cs))),.d (.lst (ts.map .int)),.d (.int (mb:Nat)),.d (.int (bits:Nat)),s5]) b ⟨_,_,4,.un,by decide,rfl,rfl,rfl,rfl⟩ (λl c τ hh=>?_) (λl τ hh=>?_) λl τ hh=>?_
 · obtain ⟨bits,s5,_,_,rfl,_,rfl⟩:=hh
   exact aF (aa 4) (aa 3) pv
 · obtain ⟨bits,s5,b1,rfl,hc,ag,rfl⟩:=hh
   have hlt:bits < mb:=by have:=of_decide_eq_true hc.symm; omega
   have esub:((mb:Nat):Int) - (bits:Nat)=((mb - bits:Nat):Int):=by omega
   refine pQ 5 nd (s:=.o ((gm ts (mb - bits)).map frD)) (cmp 0 (g:=λi=>.int (ts.getD i 0)) (f:=λi=>frD (((ts.getD i 0 / 2 ^ (mb - bits):Int)):Rat)) b (aV (aa 2)) (b5 (f:=D.int) (xs:=ts) 0) (by rw [lm]; omega) λi hi s0 H0 fp=>?_) (.inl ?_) ?_
   · have ej:(((mb:Nat):Int) - (bits:Nat)).toNat=mb - bits:=by omega
     rw [mf,<- ej]
     exact cf (ae (aA (aa 0) (aA (aa 2) (aa 1) fj) (Ax (by omega))) (ae af ah))
   · rw [es]
   refine aY (bo (x_call b c_tells_against (ae (aa 0) (ae (xw 5) ah)) ⟨m,n,d,v + t * (v + (1 + t * d) + 3),M,gm ts (mb - bits),rfl,h.tq,ls _,qm,qs _,by omega,by omega,by omega,rfl⟩)) (λhT=>?_) λhT=>?_
   · have e:agZ (tlQ m n M) ts mb 4=gm ts (mb - bits):=by rw [<- ag,agZ,dif_pos ⟨b1,hlt⟩,if_pos hT]
     rw [e]
     exact j4 5 rfl
   · have hT:tlQ m n M (gm ts (mb - bits))=false:=hT
     refine av 4 nd (aA af (aa 4) (bC (mkL (by decide)))) (aR ⟨mb - 2 * bits,_,by omega,2 * bits,.o ((gm ts (mb - bits)).map frD),by omega,rfl,rfl,?_,rfl⟩)
     rw [<- ag,agZ.eq_def (bits:=bits),dif_pos ⟨b1,hlt⟩,if_neg (by rw [hT]; decide)]
 · obtain ⟨bits,s5,b1,_,hc,ag,rfl⟩:=hh
   have hge:¬ bits < mb:=by have:=of_decide_eq_false hc.symm; omega
   rw [<- ag,agZ,dif_neg (by omega)]
   refine ax (bH (cmp 0 (g:=λi=>.int (ts.getD i 0)) (f:=λi=>frD (((ts.getD i 0 / 2 ^ 0:Int)):Rat)) b (aV (aa 2)) (b5 (f:=D.int) (xs:=ts) 0) (by rw [lm]; omega) λi hi s0 H0 fp=>?_)) ?_
   · rw [mf,show (2:Int) ^ 0=1 from rfl,Int.ediv_one]
     exact cf (ae (aa 0) (ae af ah))
   · rw [es]
end
noncomputable def eK:D->Bool
 | .lst xs=>decide ((1:Int)<=(xs.length:Nat)) && decide (((xs.length:Nat):Int)<=7)
 | _=>false
noncomputable def bx:D->Bool
 | .lst xs=>eK (.lst xs) && (xs.map cV).all id
 | _=>false
noncomputable def eO:D->Nat
 | .lst xs=>xs.length
 | _=>0
noncomputable def mh:D->Bool
 | .lst xs=>eK (.lst xs) && ((xs.map bx).all id && (xs.map λy=>decide (eO y=eO (xs.getD 0 .non))).all id)
 | _=>false
theorem jO {xs:List D} (h:eK (.lst xs)=true):1<=xs.length/\xs.length<=7:=by
 have h:(decide ((1:Int)<=(xs.length:Nat)) && decide (((xs.length:Nat):Int)<=7))=true:=h
 rw [Bool.and_eq_true] at h
 exact ⟨by have:=of_decide_eq_true h.1; omega,by have:=of_decide_eq_true h.2; omega⟩
theorem jh (f:D->Bool) (xs:List D):(List.range xs.length).map (λi=>f (xs.getD i .non))=xs.map f:=by
 refine List.ext_getElem (by simp) λi h1 h2=>?_
 have:i < xs.length:=by simpa using h2
 simp [this]
theorem og:∀ {x:D},bx x=true->∃ ys,x=.lst ys
 | .lst ys,_=>⟨ys,rfl⟩
 | .int _,h=>nomatch h
 | .bl _,h=>nomatch h
 | .str _,h=>nomatch h
 | .non,h=>nomatch h
 | .tup _,h=>nomatch h
noncomputable def bL (ds:List D) (r:Sl):Prop:=∃ x,ds=[x]/\r=.d (.bl (eK x))
noncomputable def fZ (ds:List D) (r:Sl):Prop:=∃ x,ds=[x]/\r=.d (.bl (bx x))
noncomputable def fP (ds:List D) (r:Sl):Prop:=∃ x,ds=[x]/\r=.d (.bl (mh x))
section
variable {P:Program} {w:World} {K:PySem.W.Frag} {mg:Str->Option Value} {base:Heap} {k:Nat} {f:Addr} {fd:FuncData} {qual:Str}
theorem gR (F:Fun K "is_short_list" qual (top 29) f fd) (hb:∀ x ∈ aj,mg x=none) (y_MOST:∃ t,mg "MOST" = some (.int 7 t)):aJ P w K mg base CX0 (k + 1) f fd ["thing"] (spD K bL):=by
 refine fnD F d8 hb (by rintro _ _ ⟨_,rfl,_⟩; rfl) ?_
 rintro _ _ ⟨x,rfl,rfl⟩ cdv A outer s H E b
 by_cases ht:cw .list x=true
 · obtain ⟨xs,rfl⟩:∃ xs,x=.lst xs:=by cases x <;> first | exact ⟨_,rfl⟩ | cases ht
   exact ax (fb (cx .list b (aa 0)) λh=>(ir (mR af (a5 b (ae (aa 0) ah) cX) (uD y_MOST) v8 v8).1)) rfl
 · have e:cw .list x=false:=by simpa using ht
   have ef:eK x=false:=by cases x <;> first | rfl | cases e
   refine ax (fb (q:=true) (cx .list b (aa 0)) λh=>(by rw [e] at h; cases h)) ?_
   rw [ef,e]; rfl
theorem pI (F:Fun K "is_row" qual (top 30) f fd) (hb:∀ x ∈ aj,mg x=none) (c_is_short_list2:Cal P w K mg base k "is_short_list" bL) (c_is_fraction:Cal P w K mg base k "is_fraction" cF):aJ P w K mg base CX0 (k + 1) f fd ["thing"] (spD K fZ):=by
 refine fnD F k9 hb (by rintro _ _ ⟨_,rfl,_⟩; rfl) ?_
 rintro _ _ ⟨x,rfl,rfl⟩ cdv A outer s H E b
 by_cases ht:eK x=true
 · obtain ⟨xs,rfl⟩:∃ xs,x=.lst xs:=by cases x <;> first | exact ⟨_,rfl⟩ | cases ht
   obtain ⟨l1,l7⟩:=jO ht
   refine ax (fb (x_call b c_is_short_list2 (ae (aa 0) ah) ⟨_,rfl,rfl⟩) λh=>(ir (a5 b (ae (aH (bH (cmp 0 (f:=λl=>.bl (cV (xs.getD l .non))) b (aV (aa 0)) p8 (by omega) λl hl s0 H0 fp=>(x_call (b.comp s0 H0 _ fp) c_is_fraction (ae (aa 0) ah) ⟨_,rfl,rfl⟩)))) ah) (jY b.calm ((List.range xs.length).map λl=>cV (xs.getD l .non)) (by rw [List.map_map]; rfl))))) ?_
   rw [jh cV xs]; rfl
 · have e:eK x=false:=by simpa using ht
   have ef:bx x=false:=by
     cases x with
     | lst xs=>show (eK (.lst xs) && _)=false; rw [e]; rfl
     | _=>rfl
   refine ax (fb (q:=true) (x_call b c_is_short_list2 (ae (aa 0) ah) ⟨_,rfl,rfl⟩) λh=>(by rw [e] at h; cases h)) ?_
   rw [ef,e]; rfl
theorem l5 (F:Fun K "is_table" qual (top 31) f fd) (hb:∀ x ∈ aj,mg x=none) (c_is_short_list2:Cal P w K mg base k "is_short_list" bL) (c_is_row2:Cal P w K mg base k "is_row" fZ):aJ P w K mg base CX0 (k + 1) f fd ["thing"] (spD K fP):=by
 refine fnD F iU hb (by rintro _ _ ⟨_,rfl,_⟩; rfl) ?_
 rintro _ _ ⟨x,rfl,rfl⟩ cdv A outer s H E b
 by_cases ht:eK x=true
 · obtain ⟨xs,rfl⟩:∃ xs,x=.lst xs:=by cases x <;> first | exact ⟨_,rfl⟩ | cases ht
   obtain ⟨l1,l7⟩:=jO ht
   refine aY (PW.pt (fO (bB (bo (x_call b c_is_short_list2 (ae (aa 0) ah) ⟨_,rfl,rfl⟩))) λh=>(hU (bB (bo (a5 b (ae (aH (bH (cmp 0 (f:=λl=>.bl (bx (xs.getD l .non))) b (aV (aa 0)) p8 (by omega) λl hl s0 H0 fp=>(x_call (b.comp s0 H0 _ fp) c_is_row2 (ae (aa 0) ah) ⟨_,rfl,rfl⟩)))) ah) (jY b.calm ((List.range xs.length).map λl=>bx (xs.getD l .non)) (by rw [List.map_map]; rfl)))))))) (λz=>?_) λz=>?_
   · rw [ht,jh bx xs] at z
     have z:((xs.map bx).all id)=false:=by simpa using z
     refine ax i4 ?_
     show Sl.d (.bl false)=Sl.d (.bl (eK (.lst xs) && ((xs.map bx).all id && _)))
     rw [z,Bool.false_and,Bool.and_false]
   · rw [ht,jh bx xs] at z
     have z:((xs.map bx).all id)=true:=by simpa using z
     have rw_:∀ l,l < xs.length->∃ ys,xs.getD l .non=.lst ys:=λl hl=>by
       refine og ?_
       rw [List.all_eq_true] at z
       have:=z (bx (xs.getD l .non)) (List.mem_map.mpr ⟨_,by simp [hl],rfl⟩)
       exact this
     obtain ⟨y0,e0⟩:=rw_ 0 (by omega)
     have a0:atI xs 0=some (.lst y0):=by
       have:=aT (xs:=xs) (i:=0) (x:=xs.getD 0 .non) (by simp [show 0 < xs.length by omega])
       rw [e0] at this; exact this
     refine ax (a5 b (ae (aH (bH (cmp 0 (f:=λl=>.bl (decide (eO (xs.getD l .non)=eO (xs.getD 0 .non)))) b (aV (aa 0)) p8 (by omega) λl hl s0 H0 fp=>?_))) ah) (jY b.calm ((List.range xs.length).map λl=>decide (eO (xs.getD l .non)=eO (xs.getD 0 .non))) (by rw [List.map_map]; rfl))) ?_
     · obtain ⟨yl,el⟩:=rw_ l hl
       have en:(.bl (decide (eO (xs.getD l .non)=eO (xs.getD 0 .non))):D)=.bl (decide ((yl.length:Int)=(y0.length:Nat))):=by
         rw [el,e0]
         show D.bl (decide (yl.length=y0.length))=_
         congr 1
         exact decide_eq_decide.mpr Int.ofNat_inj.symm
       rw [en,el]
       exact d9 (a5 (b.comp s0 H0 _ fp) (ae (aa 0) ah) cX) (a5 (b.comp s0 H0 _ fp) (ae (aQ (aa 1) af (aO a0)) ah) cX) bJ
     · rw [jh (λy=>decide (eO y=eO (xs.getD 0 .non))) xs]
       show _=Sl.d (.bl (eK (.lst xs) && ((xs.map bx).all id && _)))
       rw [z,ht,Bool.true_and,Bool.true_and]
 · have e:eK x=false:=by simpa using ht
   have ef:mh x=false:=by
     cases x with
     | lst xs=>show (eK (.lst xs) && _)=false; rw [e]; rfl
     | _=>rfl
   refine aY (PW.pt (fO (q:=true) (bB (bo (x_call b c_is_short_list2 (ae (aa 0) ah) ⟨_,rfl,rfl⟩))) λh=>(by rw [e] at h; cases h))) (λh=>?_) λh=>?_
   · refine ax i4 ?_
     rw [ef]
   · rw [e] at h; cases h
end
end K41
namespace Hy
open PySem PySem.Spec PyProof.Rows L2
open Ev (D Den au ar)
noncomputable def exX (cl:Nat->Addr) (c:Nat):Ex where
 p:=λ_ _ o _=>∃ ob,o=Hx.rm ob/\Hx.sZ ob (cl c)
 mono:=λ_ h=>h
 ext:=λ⟨ob,h,_⟩=>.inr (.inl ⟨ob,_,h⟩)
section
variable {X:Cx} {C:Bool} {τ:List Sl} {x y z:D} {a b e c0 tg it elt:Expr} {es ifs:List Expr} {pos p q q':Pos} {k c:Nat} {cl:Nat->Addr} {xs:List D} {scope:Scope}
theorem tO {b:Bool} {v:V} {u:Value} (O:Hx.dW X.K (cl c)) (hv:∀ u',RelV v u'->u'=u) (e:PySem.W.kitOne X.K (.ref (cl c)) u=some b) :
   cY X (.builtin "isinstance") (λxs H Q=>∃ a o x,xs=[.ref a,v]/\H a=some (.frz o x)/\Hx.sZ o (cl c)/\Q (.bl b) H):=by
 rintro pins s σ H vs us Q I rv ⟨a,o,x,rfl,e2,⟨⟨e3,e4⟩,ws,e5,e6⟩,q⟩
 obtain ⟨u1,u2,rfl,r1,r2⟩:=rv.two
 cases r1
 have r2:=hv _ r2
 subst r2
 have g:=(I.hok a _ e2).1
 refine PySem.W.kia_one (Hx.sk O) I.kIn ⟨o,g,e3,?_,?_⟩ e (λz=>nomatch z) λtk=>⟨.bl b,H,I.kept (t':=tk) (λ_ _ z=>z),rfl,q⟩
 · unfold PySem.W.notCls; rw [e5]
 · rw [e4]; trivial
theorem cn (i:Nat) {n t:Str} {C0:Addr} {bb:Bool} (hm:X.mg t=some (.ref C0)) (O:Hx.dW X.K (cl c)) (hk:PySem.W.kitOne X.K (.ref (cl c)) (.ref C0)=some bb) (hbi:X.mg "isinstance" = none) (hi:τ[i]?=some (.x (exX cl c)):=by rfl) (hN:X.N[i]?=some n:=by rfl) (hg:Gl X "isinstance":=by rfl) (hgt:Gl X t:=by rfl)
   (hv:Vis X.env.scope n:=by first | exact Or.inl rfl | exact Or.inr (Or.inl rfl) | exact Or.inr (Or.inr rfl)) (h1:(n == ("__debug__" : Str))=false:=by decide) (h2:(n == ("__classdict__" : Str))=false:=by decide) (h3:(t == ("__debug__" : Str))=false:=by decide)
   (he:starEach [.Name n q,.Name t q'] X.env=(false,eval (.Name n q) X.env) :: starEach [.Name t q'] X.env:=by rfl) (hpl:(backTo pos (starEach [.Name t q'] X.env)).any (·.1)=false:=by rfl) :
   PE X (.Call (.Name "isinstance" p) [.Name n q,.Name t q'] [] pos) (dE X.K C τ (.d (.bl bb))):=by
 refine peW (fM (tO (v:=.ref C0) (u:=.ref C0) O (λ_ z=>z) hk) hg hbi (by decide +kernel) (bA (cD hN hv h1 h2) (bA (pZ (v:=.ref C0) hgt hm rfl h3) dQ rfl) he) (by decide) (by decide) he hpl) λσ H Q q=>?_
 obtain ⟨A,H₀,B,S,k⟩:=dD q
 obtain ⟨d,o,h1,h2,h3,ob,rfl,ho⟩:=S.sl i _ hi
 exact ⟨_,slot_of h2,d,ob,_,rfl,h3,ho,k _ H (aq.refl _) .bl⟩
theorem AE (i:Nat) {n t:Str} {T:String} {bb:Bool} (hm:X.mg t=none) (hb:bootBuiltins t=some (.type T)) (O:Hx.dW X.K (cl c)) (hk:PySem.W.kitOne X.K (.ref (cl c)) (.type T)=some bb) (hbi:X.mg "isinstance" = none) (hi:τ[i]?=some (.x (exX cl c)):=by rfl) (hN:X.N[i]?=some n:=by rfl) (hg:Gl X "isinstance":=by rfl) (hgt:Gl X t:=by rfl)
   (hv:Vis X.env.scope n:=by first | exact Or.inl rfl | exact Or.inr (Or.inl rfl) | exact Or.inr (Or.inr rfl)) (h1:(n == ("__debug__" : Str))=false:=by decide) (h2:(n == ("__classdict__" : Str))=false:=by decide) (h3:(t == ("__debug__" : Str))=false:=by decide) (h4:t ≠ "__name__":=by decide)
   (he:starEach [.Name n q,.Name t q'] X.env=(false,eval (.Name n q) X.env) :: starEach [.Name t q'] X.env:=by rfl) (hpl:(backTo pos (starEach [.Name t q'] X.env)).any (·.1)=false:=by rfl) :
   PE X (.Call (.Name "isinstance" p) [.Name n q,.Name t q'] [] pos) (dE X.K C τ (.d (.bl bb))):=by
 refine peW (fM (tO (v:=.ty T) (u:=.type T) O (λ_ z=>z) hk) hg hbi (by decide +kernel) (bA (cD hN hv h1 h2) (bA (qd (v:=.ty T) hgt hm hb rfl h4 h3) dQ rfl) he) (by decide) (by decide) he hpl) λσ H Q q=>?_
 obtain ⟨A,H₀,B,S,k⟩:=dD q
 obtain ⟨d,o,h1,h2,h3,ob,rfl,ho⟩:=S.sl i _ hi
 exact ⟨_,slot_of h2,d,ob,_,rfl,h3,ho,k _ H (aq.refl _) .bl⟩
theorem yA {n:Int} (hc:Ck true X) (hm:X.mg "range" = none) (h:PE X a (dE X.K false τ (.d (.int n)))) (h1:-(2 ^ 62)<=n) (h2:n < 2 ^ 62) (hg:Gl X "range":=by rfl) (hs:starEach [a] X.env=[(false,eval a X.env)]:=by rfl):PI X tg (.Call (.Name "range" p) [a] [] pos) (dI X.K τ (iF 0 n.toNat)):=
 piW (lB hc hg hm (ae h ah hs) hs) λσ H R ⟨A,H₀,B,S,k⟩=>fq S λvs H1 e1 d1=>by
   cases d1 with
   | cons d r=>
     cases r
     cases d
     exact ⟨n,rfl,h1,h2,k _ H1 e1 (pB 0 _)⟩
theorem xU (j:Nat) {n:Str} {g f:Nat->D} {t:Nat->Bool} (hi:PI X (.Name n p) it (dI X.K τ xs)) (hx:∀ i (h:i < xs.length),xs[i]=g i) (hl:xs.length < 1000000)
   (ht:∀ i,i < xs.length->∀ s H fp,PT (cpX X s H scope fp) c0 (dT X.K ((bU τ (bCp X.N scope)++[Sl.un]).set j (.d (g i))) (t i)))
   (he:∀ i,i < xs.length->t i=true->∀ s H fp,PE (cpX X s H scope fp) elt (dE X.K true ((bU τ (bCp X.N scope)++[Sl.un]).set j (.d (g i))) (.d (f i))))
   (hc:bOk X.env.scope scope=true:=by kernel_rfl) (hu:(bU τ (bCp X.N scope)++[Sl.un])[j]?=some .un:=by rfl) (hN:(bNm scope++[("#" : Str)])[j]?=some n:=by rfl) (hv:∀ s H fp,Loc (cpX X s H scope fp).env.scope n:=by intro _ _ _; first | exact .inl rfl | exact .inr rfl)
   (hf:∀ s H fp,(cpX X s H scope fp).fn n=true\/(cpX X s H scope fp).env.scope.names.lookup n=some .local:=by intro _ _ _; first | exact .inr rfl | exact .inl rfl) (hs:∀ x,foldedSetIterable it X.env x=pure x:=by intro _; rfl) :
   Cmp X elt (.Name n p) it [c0] scope τ (((List.range xs.length).filter t).map f):=by
 refine l9 (T:=λi=>(bU τ (bCp X.N scope)++[Sl.un]).set j (.d (g i))) (t:=t) (f:=f) (elt:=elt) (ifs:=[c0]) hc hi (λi=>⟨List.length_set,λl x h=>?_⟩) (λi h s H fp=>?_) (λi h s H fp=>qO (ht i h s H fp)) he hl hs
 · rw [List.getElem?_set_ne (λz=>by rw [<- z,hu] at h; cases h)]
   exact h
 · rw [hx i h]
   exact uW j (hJ hc).2 hN (hv s H fp) (hf s H fp)
theorem xX (hm:X.mg "len" = none) (h:PE X a (dE X.K C τ (.d (.lst xs)))) (hg:Gl X "len":=by rfl) (he:starEach [a] X.env=(false,eval a X.env) :: starEach [] X.env:=by rfl) (hpl:(backTo pos (starEach [] X.env)).any (·.1)=false:=by rfl):PE X (.Call (.Name "len" p) [a] [] pos) (dE X.K C τ (.d (.int xs.length))):=by
 obtain ⟨r,h1,h2⟩:=cX (X:=X) (xs:=xs)
 exact peW (fM h1 hg hm (by decide +kernel) (ae h ah he) (by decide) (by decide) he hpl) (pk h2)
end
section
variable {P:Program} {w:World} {K:PySem.W.Frag} {mg:Str->Option Value} {base:Heap} {cl:Nat->Addr}
noncomputable abbrev Xw (P:Program) (w:World) (K:PySem.W.Frag) (mg:Str->Option Value) (base:Heap) (N:List Str) (qual:Str) (st:Stmt) (f:Addr) (cdv:Value) (A:Around) (outer:List Env) (s:Shared) (H:Hp):Cx:=({ jx CX0 P w K mg base N qual (ak st) f cdv A outer s H E0 with calm:=false }:Cx).nox
theorem fnW {qual p0:Str} {st:Stmt} {f:Addr} {fd:FuncData} {N:List Str} {k c:Nat} (F:Fun K "_law_word" qual st f fd) (S:ao N [p0] (ak st)) (hbind:Binds K fd [p0] [])
   (body:∀ cdv A outer s H,Ck true (Xw P w K mg base N qual st f cdv A outer s H)->PSs (Xw P w K mg base N qual st f cdv A outer s H) (a7 st) (dS K (.x (exX cl c) :: List.replicate (N.length - 1) .un) { nx:=λ_=>False,rt:=λr=>r=.d (.str (wordOf c)) })):eL P w K mg base cl (k + 1) f c:=by
 intro A outer s H a o Q hh hH hO hr e0 q
 obtain ⟨oc,od,dV,kV,doc,pm,an,cdv,ct,osl,rfl,lk,hcd⟩:=F.ex
 have KX:K.In s.heap:=e0.mod.kin.keeps λb o e=>(e0.bs b o e).1
 have lim:s.heap.NoLimit:=e0.mod.nolimit.keeps λb o e=>(e0.bs b o e).1
 have hpl:1<=N.length:=by
   have:=congrArg List.length S.pre
   rw [List.length_take] at this
   exact Nat.le_trans (Nat.le_of_eq this.symm) (Nat.min_le_right _ _)
 refine codeAny_call_function (by have:=hr.dp; omega) (KX _ _ lk) rfl S.co S.gen rfl (PySem.W.codeRec_of KX hcd) (hbind s [.ref a] KX rfl _ _ _ _ ?_)
 refine wpAny_newFunctionEnv_cells S.kind (λ⟨n,v⟩ hy=>?_) λenv he s1 x=>?_
 · rcases S.par n (List.of_mem_zip hy).1 with z | z
   · exact .inl z
   · exact .inr ⟨z,PySem.W.cellsFrom_some _ _ _ (.inl z)⟩
 subst he
 refine ⟨lim.keeps x.toInCall.keep,codeAny_func ?_⟩
 have I:Inv { jx CX0 P w K mg base N qual (ak st) f cdv A outer s H E0 with calm:=false } [] (start N [.ref a]) H s1:=kZ (cm:=false) S (λz=>nomatch z) e0 rfl (.cons rfl .nil) x
 have ck:Ck true (Xw P w K mg base N qual st f cdv A outer s H):=.inr ⟨rfl,a,o,_,hO.2.choose,hh,hH,hO.2.choose_spec.1,hO.2.choose_spec.2⟩
 have ow:∀ b,own (λ_=>False) (λi=>if i=0 then [a] else []) b ↔ b=a:=λb=>by
   refine ⟨λz=>z.elim False.elim λ⟨i,z⟩=>?_,λz=>.inr ⟨0,by simp [z]⟩⟩
   by_cases e:i=0
   · simp only [if_pos e] at z; exact List.mem_singleton.mp z
   · simp only [if_neg e] at z; cases z
 have hB:∀ i b,b ∈ (if i=0 then [a] else []:List Addr)->i=0/\b=a:=λi b z=>by
   by_cases e:i=0
   · rw [if_pos e] at z; exact ⟨e,List.mem_singleton.mp z⟩
   · rw [if_neg e] at z; cases z
 refine wpAny_mono (body cdv A outer s H ck [] s1 _ H { nx:=λ_ _=>False,rt:=λv H'=>aq (Hy.hd H (·=a)) H'/\v=.str (wordOf c) } (I.iQ _) ⟨λ_=>False,Hy.hd H (·=a),λi=>if i=0 then [a] else [],⟨aI,?_,λi s hi=>?_,λi b z=>?_,λi j b z1 z2=>((hB i b z1).1).trans ((hB j b z2).1).symm,λb z=>z.elim,λi b z=>⟨Hx.rm o,by rw [(hB i b z).2]; exact hH⟩⟩,λ_ _ _ _ z=>z.elim,λ_ _ _ _ z=>z.elim,λ_ _ _ _ z=>z.elim,λv H' bs s h e hf z=>?_,λ_ _=>trivial⟩) (λfl s' hs=>?_) λe s' hs=>hs.elim
 · unfold L2.start
   simp
 · match i,hi with
   | 0,hi=>
     cases hi
     exact ⟨a,_,rfl,rfl,hH,o,rfl,hO⟩
   | i + 1,hi=>
     rw [List.getElem?_cons_succ,List.getElem?_replicate] at hi
     split at hi
     · cases hi; rfl
     · cases hi
 · rw [(hB i b z).2]
   unfold Hy.hd
   rw [if_pos rfl]
 · obtain rfl:=(h:s=.d (.str (wordOf c)))
   obtain ⟨_,u,e1,d⟩:=z
   cases e1
   cases d
   exact ⟨e,rfl⟩
 · cases fl with
   | ret u=>
     obtain ⟨v,σ',H',J,rv,z1,rfl⟩:=hs
     refine ⟨_,H',J.os,J.bare,J.base,J.hok,rv,q H' λb ob hb=>?_⟩
     by_cases e:b=a
     · subst e
       rw [hH] at hb
       cases hb
       exact J.base.frzs b _ _ hH
     · exact z1 b ob (aB.mpr ⟨e,hb⟩)
   | next=>obtain ⟨_,_,_,z⟩:=hs; exact z.elim
   | brk=>obtain ⟨_,_,_,z⟩:=hs; exact z.elim
   | cont=>obtain ⟨_,_,_,z⟩:=hs; exact z.elim
end
end Hy
namespace Hy
open PySem PySem.Spec PyProof.Rows L2
open Ev (D Den au dz fK)
section
variable {X:Cx} {C:Bool} {τ:List Sl} {a e tg it elt:Expr} {es ifs:List Expr} {pos p:Pos} {Et:Hp->Prop} {scope:Scope}
end
end Hy
namespace K41
open PySem PySem.Spec PyProof.Rows L2 Hy
open Ev (D Den au aG aE)
structure Cls (K:PySem.W.Frag) (mg:Str->Option Value) (cl:Nat->Addr) (cs:List Nat):Prop where
 lt:∀ c ∈ cs,c < 19
 ex:∃ S,mg "SmoothError" = some (.ref S)/\∀ c ∈ cs,Hx.xx K (cl c) S/\PySem.W.exmOne K (.ref (cl c)) (.ref S)=some true
 nm:∀ c,c < 19->mg (wordOf c)=some (.ref (cl c))
 kit:∀ c ∈ cs,∀ i,i < 19->PySem.W.kitOne K (.ref (cl c)) (.ref (cl i))=some (decide (c=i))
 val:∀ c ∈ cs,PySem.W.kitOne K (.ref (cl c)) (.type "ValueError")=some true
 vn:mg "ValueError" = none
theorem zO {c:Nat} (h:c < 19):((List.range 19).filter λi=>decide (c=i)).map (λi=>D.str (wordOf i))=[.str (wordOf c)]:=by
 rcases (by omega:c=0\/c=1\/c=2\/c=3\/c=4\/c=5\/c=6\/c=7\/c=8\/c=9\/c=10\/c=11\/c=12\/c=13\/c=14\/c=15\/c=16\/c=17\/c=18) with rfl | rfl | rfl | rfl | rfl | rfl | rfl | rfl | rfl | rfl | rfl | rfl | rfl | rfl | rfl | rfl | rfl | rfl | rfl <;> rfl
noncomputable def nmD (c:Nat):List D:=[D.bl (decide (c=0)),D.bl (decide (c=1)),D.bl (decide (c=2)),D.bl (decide (c=3)),D.bl (decide (c=4)),D.bl (decide (c=5)),D.bl (decide (c=6)),D.bl (decide (c=7)),D.bl (decide (c=8)),D.bl (decide (c=9)),D.bl (decide (c=10)),D.bl (decide (c=11)),D.bl (decide (c=12)),D.bl (decide (c=13)),D.bl (decide (c=14)),D.bl (decide (c=15)),D.bl (decide (c=16)),D.bl (decide (c=17)),D.bl (decide (c=18))]
theorem A8 {c i:Nat} (h:i < 19):(nmD c)[i]?=some (D.bl (decide (c=i))):=by
 rcases (by omega:i=0\/i=1\/i=2\/i=3\/i=4\/i=5\/i=6\/i=7\/i=8\/i=9\/i=10\/i=11\/i=12\/i=13\/i=14\/i=15\/i=16\/i=17\/i=18) with rfl | rfl | rfl | rfl | rfl | rfl | rfl | rfl | rfl | rfl | rfl | rfl | rfl | rfl | rfl | rfl | rfl | rfl | rfl <;> rfl
noncomputable def wdD:List D:=[D.str "NoFraction",D.str "NoTable",D.str "NoChoice",D.str "NoSquare",D.str "NoFit",D.str "NoUndoing",D.str "NoLadder",D.str "TooMany",D.str "NoPaper",D.str "NoRow",D.str "NoStairs",D.str "NoNumber",D.str "NoCorner",D.str "NoName",D.str "NoStep",D.str "NoWeight",D.str "NoDeed",D.str "NoText",D.str "NoWord"]
theorem AK {i:Nat} (h:i < 19):wdD[i]?=some (D.str (wordOf i)):=by
 rcases (by omega:i=0\/i=1\/i=2\/i=3\/i=4\/i=5\/i=6\/i=7\/i=8\/i=9\/i=10\/i=11\/i=12\/i=13\/i=14\/i=15\/i=16\/i=17\/i=18) with rfl | rfl | rfl | rfl | rfl | rfl | rfl | rfl | rfl | rfl | rfl | rfl | rfl | rfl | rfl | rfl | rfl | rfl | rfl <;> rfl
section
variable {P:Program} {w:World} {K:PySem.W.Frag} {mg:Str->Option Value} {base:Heap} {k:Nat} {f:Addr} {fd:FuncData} {qual:Str}
set_option maxHeartbeats 2000000 in
theorem rJ {cl:Nat->Addr} {cs:List Nat} {c:Nat} (F:Fun K "_law_word" qual (top 76) f fd) (hb:∀ x ∈ aj,mg x=none) (hbind:Binds K fd ["_law_e"] []) (Z:Cls K mg cl cs) (hc:c ∈ cs):eL P w K mg base cl (k + 1) f c:=by
 refine fnW F kU hbind λcdv A outer s H ck=>?_
 have nd:=kU.nd
 have lt:=Z.lt c hc
 obtain ⟨S,hS,hx⟩:=Z.ex
 have O:Hx.dW K (cl c):=(hx c hc).1.at_
 have hbi:mg "isinstance" = none:=hb _ (by decide)
 have m0:mg "NoFraction" = some (.ref (cl 0)):=Z.nm 0 (by decide)
 have m1:mg "NoTable" = some (.ref (cl 1)):=Z.nm 1 (by decide)
 have m2:mg "NoChoice" = some (.ref (cl 2)):=Z.nm 2 (by decide)
 have m3:mg "NoSquare" = some (.ref (cl 3)):=Z.nm 3 (by decide)
 have m4:mg "NoFit" = some (.ref (cl 4)):=Z.nm 4 (by decide)
 have m5:mg "NoUndoing" = some (.ref (cl 5)):=Z.nm 5 (by decide)
 have m6:mg "NoLadder" = some (.ref (cl 6)):=Z.nm 6 (by decide)
 have m7:mg "TooMany" = some (.ref (cl 7)):=Z.nm 7 (by decide)
 have m8:mg "NoPaper" = some (.ref (cl 8)):=Z.nm 8 (by decide)
 have m9:mg "NoRow" = some (.ref (cl 9)):=Z.nm 9 (by decide)
 have m10:mg "NoStairs" = some (.ref (cl 10)):=Z.nm 10 (by decide)
 have m11:mg "NoNumber" = some (.ref (cl 11)):=Z.nm 11 (by decide)
 have m12:mg "NoCorner" = some (.ref (cl 12)):=Z.nm 12 (by decide)
 have m13:mg "NoName" = some (.ref (cl 13)):=Z.nm 13 (by decide)
 have m14:mg "NoStep" = some (.ref (cl 14)):=Z.nm 14 (by decide)
 have m15:mg "NoWeight" = some (.ref (cl 15)):=Z.nm 15 (by decide)
 have m16:mg "NoDeed" = some (.ref (cl 16)):=Z.nm 16 (by decide)
 have m17:mg "NoText" = some (.ref (cl 17)):=Z.nm 17 (by decide)
 have m18:mg "NoWord" = some (.ref (cl 18)):=Z.nm 18 (by decide)
 have kt:=Z.kit c hc
 refine av 1 nd (br (ae (cn 0 m0 O (kt 0 (by decide)) hbi) (ae (cn 0 m1 O (kt 1 (by decide)) hbi) (ae (cn 0 m2 O (kt 2 (by decide)) hbi) (ae (cn 0 m3 O (kt 3 (by decide)) hbi) ah))))) (mV 1 ?_)
 refine av 1 nd (eo (aa 1) (aH (br (ae (cn 0 m4 O (kt 4 (by decide)) hbi) (ae (cn 0 m5 O (kt 5 (by decide)) hbi) (ae (cn 0 m6 O (kt 6 (by decide)) hbi) (ae (cn 0 m7 O (kt 7 (by decide)) hbi) ah)))))) (by show (4:Nat) + 4 < 1000000; decide)) (mV 1 ?_)
 refine av 1 nd (eo (aa 1) (aH (br (ae (cn 0 m8 O (kt 8 (by decide)) hbi) (ae (cn 0 m9 O (kt 9 (by decide)) hbi) (ae (cn 0 m10 O (kt 10 (by decide)) hbi) (ae (cn 0 m11 O (kt 11 (by decide)) hbi) ah)))))) (by show (8:Nat) + 4 < 1000000; decide)) (mV 1 ?_)
 refine av 1 nd (eo (aa 1) (aH (br (ae (cn 0 m12 O (kt 12 (by decide)) hbi) (ae (cn 0 m13 O (kt 13 (by decide)) hbi) (ae (cn 0 m14 O (kt 14 (by decide)) hbi) (ae (cn 0 m15 O (kt 15 (by decide)) hbi) ah)))))) (by show (12:Nat) + 4 < 1000000; decide)) (mV 1 ?_)
 refine av 1 nd (eo (aa 1) (aH (br (ae (cn 0 m16 O (kt 16 (by decide)) hbi) (ae (cn 0 m17 O (kt 17 (by decide)) hbi) (ae (cn 0 m18 O (kt 18 (by decide)) hbi) ah))))) (by show (16:Nat) + 3 < 1000000; decide)) (mV 1 ?_)
 show PSs _ _ (dS K [.x (exX cl c),.d (.lst (nmD c)),.un,.un] _)
 refine av 2 nd (br (ae a8 (ae a8 (ae a8 (ae a8 (ae a8 (ae a8 (ae a8 (ae a8 (ae a8 ah)))))))))) (mV 2 ?_)
 refine av 2 nd (eo (aa 2) (aH (br (ae a8 (ae a8 (ae a8 (ae a8 (ae a8 (ae a8 (ae a8 (ae a8 (ae a8 ah))))))))))) (by decide)) ?_
 refine qR 2 a8 ?_ (mV 2 ?_)
 · show (18:Nat) < 1000000
   decide
 show PSs _ _ (dS K [.x (exX cl c),.d (.lst (nmD c)),.d (.lst wdD),.un] _)
 refine pQ 3 nd (s:=.d (.lst [.str (wordOf c)])) (xU 0 (t:=λi=>decide (c=i)) (f:=λi=>.str (wordOf i)) (yA ck (hb _ (by decide)) af (by decide) (by decide)) dr (by rw [ay]; decide) (λi hi s0 H0 fp=>bo (aQ (aa 1) (aa 0) (aO (aT (A8 (by rw [ay] at hi; exact hi)))))) λi hi _ s0 H0 fp=>aQ (aa 2) (aa 0) (aO (aT (AK (by rw [ay] at hi; exact hi))))) (.inr ?_) ?_
 · rw [ay]
   exact congrArg (λl=>Sl.d (D.lst l)) (zO lt).symm
 show PSs _ _ (dS K [.x (exX cl c),.d (.lst (nmD c)),.d (.lst wdD),.d (.lst [.str (wordOf c)])] _)
 refine dZ (PW.pt (fO (aF (xX (hb _ (by decide)) (aa 3)) af gD) λh=>(hU (bB (bo (AE 0 Z.vn (by decide +kernel) O (Z.val c hc) hbi)))))) rfl ?_
 exact ax (aQ (aa 3) af (aO (aT (i:=0) rfl))) rfl
end
theorem yh {X:Cx} {τ:List Sl} {N:Po} {rest body:List Stmt} {n:Str} {S:Addr} {psm pr ph pos:Pos} {ret:Expr} {M:List Sl->Prop} (nd:X.N.Nodup) (hb:∀ pins,PSs (XN X pins) body (dS X.K τ { N with nx:=M })) (hmS:X.mg "SmoothError" = some (.ref S)) (i:Nat) (hr:∀ τ',M τ'->PSs X rest (dS X.K τ' N))
   (hst:X.stack=X.env :: X.outer/\X.env.frame=some X.env.locals:=by exact ⟨rfl,rfl⟩) (hi:X.N[i]?=some n:=by rfl) (hn:X.env.scope.names.lookup n=some .local:=by rfl) (hgS:Gl X "SmoothError":=by rfl) :
   PSs X (.Try body [.ExceptHandler (some (.Name "SmoothError" psm)) (some n) [.Return (some ret) pr] ph] [] [] pos :: rest) (dS X.K τ N):=
 bh (M:=M) (Hx.tG (ks:=[]) (cl:=λ_=>0) (i:=i) (tr:=λ_ _ _ _ _=>False) (tb:=λ_=>dS X.K τ { N with nx:=M }) hst nd hi hn hgS hmS (by decide) (λc' hc'=>nomatch hc') (λa o pins s σ H Q I z=>z.elim) λEx pins E hp=>PSs.nox (X:=Hx.XP X pins E) (hb pins)) hr
noncomputable def fh (ds:List D) (c:Nat):Prop:=∃ x,ds=[x]/\mh x=false/\c=1
section
variable {P:Program} {w:World} {K:PySem.W.Frag} {mg:Str->Option Value} {base:Heap} {k:Nat} {f:Addr} {fd:FuncData} {qual:Str}
theorem kA {cl:Nat->Addr} {cs:List Nat} (F:Fun K "look_table" qual (top 32) f fd) (hb:∀ x ∈ aj,mg x=none) (Z:Cls K mg cl cs) (h1:1 ∈ cs) (c_is_table2:Cal P w K mg base k "is_table" fP):aJ P w K mg base (Hx.CXe P w cl) (k + 1) f fd ["thing"] (spX K cl fh):=by
 obtain ⟨S,hS,hx⟩:=Z.ex
 refine fnX F gk hb (by rintro _ _ ⟨_,rfl,_⟩; rfl) ?_
 rintro _ _ ⟨x,rfl,h2,rfl⟩ cdv A outer s H E hr b ps lv
 refine aY (PT.nox (bB (bo (x_call b c_is_table2 (ae (aa 0) ah) ⟨x,rfl,rfl⟩)))) (λ_=>lJ (lv 1) (Z.nm 1 (by decide)) (hx 1 h1).1 (ae a8 ah)) λh=>?_
 rw [h2] at h; cases h
end
end K41
namespace Hy
open PySem PySem.Spec PyProof.Rows L2
open Ev (D Den au)
noncomputable def Dfn (K:PySem.W.Frag) (x:Str) (st:Stmt) (f:Addr):Prop:=PySem.W.nsIn K mainGlobals x=some (some (.ref f))/\(∃ oc od kV dc pm an cd ct sl,K.lookup f=some ⟨oc,od,.func (PySem.W.fnOf x x (cG st) (a7 st) (ak st) .none kV dc pm an cd ct),sl⟩/\PySem.W.codeIn K cd x=true)/\PySem.W.keepIn K (.ref f)=true
noncomputable def BdA (x:Str) (st:Stmt) (ps:List Str):Prop:=∀ (kV dc pm:Value) (an:Option Addr) (cd ct:Value) (us:List Value),us.length=ps.length->bindArgs (PySem.W.fnOf x x (cG st) (a7 st) (ak st) .none kV dc pm an cd ct) ⟨us,[]⟩=pure (ps.zip us)
noncomputable def nsL (K:PySem.W.Frag):List Str->Prop
 | []=>True
 | x :: r=>PySem.W.nsIn K mainGlobals x=some none/\nsL K r
section
variable {P:Program} {w:World} {K:PySem.W.Frag} {h:Heap} {mg:Str->Option Value} {base:Heap} {x:Str} {st:Stmt} {f:Addr} {ps:List Str} {k:Nat} {Φ:List D->Sl->Prop}
theorem Dfn.of {oc:Value} {od an:Option Addr} {kV dc pm cd ct:Value} {sl:Array (Option Value)} (a:PySem.W.nsIn K mainGlobals x=some (some (.ref f))) (l:K.lookup f=some ⟨oc,od,.func (PySem.W.fnOf x x (cG st) (a7 st) (ak st) .none kV dc pm an cd ct),sl⟩) (c:PySem.W.codeIn K cd x=true) (k:PySem.W.keepIn K (.ref f)=true):Dfn K x st f:=⟨a,⟨_,_,_,_,_,_,_,_,_,l,c⟩,k⟩
theorem nsL.none (X:K.In h) (G:h.Ns mainGlobals mg):∀ {l:List Str},nsL K l->∀ x ∈ l,mg x=none
 | _ :: _,z,x,m=>by
   rcases List.mem_cons.mp m with rfl | m
   · exact PySem.W.mg_none_of X G z.1
   · exact nsL.none X G z.2 x m
theorem Dfn.fn (d:Dfn K x st f) (X:K.In h) (G:h.Ns mainGlobals mg) (b:BdA x st ps):∃ fd,Fun K x x st f fd/\mg x=some (.ref f)/\PySem.W.keepIn K (.ref f)=true/\Binds K fd ps []:=by
 obtain ⟨a,⟨oc,od,kV,dc,pm,an,cd,ct,sl,l,c'⟩,q⟩:=d
 have F:=pH l c' q
 exact ⟨_,F,PySem.W.mg_of X G a,q,F.binds (b kV dc pm an cd ct)⟩
theorem Dfn.cal (d:Dfn K x st f) (X:K.In h) (G:h.Ns mainGlobals mg) (b:BdA x st ps) (o:∀ fd,Fun K x x st f fd->aJ P w K mg base CX0 k f fd ps (spD K Φ)):Cal P w K mg base k x Φ:=by
 obtain ⟨fd,F,h1,h2,h3⟩:=d.fn X G b
 exact ⟨f,fd,ps,o fd F,h1,h2,h3⟩
end
theorem bd1 {Q:List Value->Prop} (h:∀ a,Q [a]):∀ us:List Value,us.length=1->Q us:=λus e=>match us,e with | [a],_=>h a
theorem bd2 {Q:List Value->Prop} (h:∀ a b,Q [a,b]):∀ us:List Value,us.length=2->Q us:=λus e=>match us,e with | [a,b],_=>h a b
theorem bd3 {Q:List Value->Prop} (h:∀ a b c,Q [a,b,c]):∀ us:List Value,us.length=3->Q us:=λus e=>match us,e with | [a,b,c],_=>h a b c
theorem bd4 {Q:List Value->Prop} (h:∀ a b c d,Q [a,b,c,d]):∀ us:List Value,us.length=4->Q us:=λus e=>match us,e with | [a,b,c,d],_=>h a b c d
section
variable {X:Cx} {τ:List Sl} {e:Expr} {es:List Expr} {p pos:Pos} {k:Nat} {Et:Hp->Prop} {t2:TA}
theorem ve {n:Str} {Φ:List D->Sl->Prop} (hr:dM k X.A) (c0:Cal X.prog X.w X.K X.mg X.base k n Φ) (h1:PE X e (dX X.K τ Et)) (h2:PA X es t2) (hg:Gl X n:=by rfl) (hdb:(n == ("__debug__" : Str))=false:=by decide)
   (he:starEach (e :: es) X.env=(false,eval e X.env) :: starEach es X.env:=by rfl) (hpl:(backTo pos (starEach es X.env)).any (·.1)=false:=by rfl):PE X (.Call (.Name n p) (e :: es) [] pos) (dX X.K τ Et):=by
 obtain ⟨f,fd,ps,F,hm,hk,hb⟩:=c0
 exact peW (lL F hr hg hm hk hb .nil wM (bA h1 h2 he) hdb he hpl) λσ H Q q=>q
end
end Hy
namespace K41
open PySem PySem.Spec PyProof.Rows L2 Hy
open Ev (D Den au aG aE)
noncomputable def xt (ds:List D) (c:Nat):Prop:=∃ x y,ds=[x,y]/\((mh x=false/\c=1)\/∃ (R C:Nat) (M:List (List Rat)),x=tbQ M/\Tq R C M/\((mh y=false/\c=1)\/∃ (R' C':Nat) (M':List (List Rat)),y=tbQ M'/\Tq R' C' M'/\C ≠ R'/\c=4))
set_option maxHeartbeats 4000000 in
noncomputable def cU (ds:List D) (c:Nat):Prop:=∃ y,ds=[y]/\bx y=false/\c=9
noncomputable def nc (ds:List D) (c:Nat):Prop:=∃ x y,ds=[x,y]/\((mh x=false/\c=1)\/∃ (R C:Nat) (M:List (List Rat)),x=tbQ M/\Tq R C M/\((bx y=false/\c=9)\/∃ q:List Rat,y=rwQ q/\1<=q.length/\q.length<=7/\C ≠ q.length/\c=4))
section
variable {P:Program} {w:World} {K:PySem.W.Frag} {mg:Str->Option Value} {base:Heap} {k:Nat} {f:Addr} {fd:FuncData} {qual:Str}
theorem pS {cl:Nat->Addr} {cs:List Nat} (F:Fun K "product" qual (top 45) f fd) (hb:∀ x ∈ aj,mg x=none) (Z:Cls K mg cl cs) (h4:4 ∈ cs) (x_look_table:bV P w K mg base cl k "look_table" fh) (c_look_table:Cal P w K mg base k "look_table" bz):aJ P w K mg base (Hx.CXe P w cl) (k + 1) f fd ["one","other"] (spX K cl xt):=by
 obtain ⟨S,hS,hx⟩:=Z.ex
 refine fnX F gA hb (by rintro _ _ ⟨_,_,rfl,_⟩; rfl) ?_
 rintro _ _ ⟨x,y,rfl,(⟨h,rfl⟩ | ⟨R,C,M,rfl,t,(⟨h,rfl⟩ | ⟨R',C',M',rfl,t',ne,rfl⟩)⟩)⟩ cdv A outer s H E hr b ps lv
 · exact dj (bf (c:=1) (C:=false) hr ps x_look_table (ae (aa 0) ah) ⟨x,rfl,h,rfl⟩)
 · refine b9 (PE.nox (x_call b c_look_table (ae (aa 0) ah) ⟨R,C,M,rfl,t,rfl⟩)) ?_
   exact dj (bf (c:=1) (C:=false) hr ps x_look_table (ae (aa 1) ah) ⟨y,rfl,h,rfl⟩)
 · have r1:=t.r1
   have e0:atI (M.map rwQ) 0=some (rwQ (M.getD 0 [])):=cR [] (i:=0) (by rw [t.len]; omega)
   refine b9 (PE.nox (x_call b c_look_table (ae (aa 0) ah) ⟨R,C,M,rfl,t,rfl⟩)) ?_
   refine b9 (PE.nox (x_call b c_look_table (ae (aa 1) ah) ⟨R',C',M',rfl,t',rfl⟩)) ?_
   refine aY (PT.nox (aF (a5 b (ae (aQ (aa 0) af (aO e0)) ah) (eC (n:=C) (by rw [List.length_map]; exact t.at_ (by omega)))) (a5 b (ae (aa 1) ah) (eC (n:=R') (by rw [List.length_map]; exact t'.len))) gD)) (λ_=>lJ (lv 4) (Z.nm 4 (by decide)) (hx 4 h4).1 (ae a8 ah)) λh=>?_
   have:(C:Int)=R':=by simpa using h
   exact absurd (by omega) ne
theorem nF {cl:Nat->Addr} {cs:List Nat} (F:Fun K "look_row" qual (top 55) f fd) (hb:∀ x ∈ aj,mg x=none) (Z:Cls K mg cl cs) (h1:9 ∈ cs) (c_is_row2:Cal P w K mg base k "is_row" fZ):aJ P w K mg base (Hx.CXe P w cl) (k + 1) f fd ["thing"] (spX K cl cU):=by
 obtain ⟨S,hS,hx⟩:=Z.ex
 refine fnX F iV hb (by rintro _ _ ⟨_,rfl,_⟩; rfl) ?_
 rintro _ _ ⟨x,rfl,h2,rfl⟩ cdv A outer s H E hr b ps lv
 refine aY (PT.nox (bB (bo (x_call b c_is_row2 (ae (aa 0) ah) ⟨x,rfl,rfl⟩)))) (λ_=>lJ (lv 9) (Z.nm 9 (by decide)) (hx 9 h1).1 (ae a8 ah)) λh=>?_
 rw [h2] at h; cases h
theorem iK {cl:Nat->Addr} (F:Fun K "least_changes" qual (top 58) f fd) (hb:∀ x ∈ aj,mg x=none) (x_look_row:bV P w K mg base cl k "look_row" cU):aJ P w K mg base (Hx.CXe P w cl) (k + 1) f fd ["row"] (spX K cl cU):=by
 refine fnX F cB hb (by rintro _ _ ⟨_,rfl,_⟩; rfl) ?_
 rintro _ _ ⟨x,rfl,h2,rfl⟩ cdv A outer s H E hr b ps lv
 exact dj (bf (c:=9) (C:=false) hr ps x_look_row (ae (aa 0) ah) ⟨x,rfl,h2,rfl⟩)
theorem i9 {cl:Nat->Addr} (F:Fun K "most_changes" qual (top 59) f fd) (hb:∀ x ∈ aj,mg x=none) (x_look_row:bV P w K mg base cl k "look_row" cU):aJ P w K mg base (Hx.CXe P w cl) (k + 1) f fd ["row"] (spX K cl cU):=by
 refine fnX F cO hb (by rintro _ _ ⟨_,rfl,_⟩; rfl) ?_
 rintro _ _ ⟨x,rfl,h2,rfl⟩ cdv A outer s H E hr b ps lv
 exact dj (bf (c:=9) (C:=false) hr ps x_look_row (ae (aa 0) ah) ⟨x,rfl,h2,rfl⟩)
theorem kg {cl:Nat->Addr} (F:Fun K "first_sign" qual (top 60) f fd) (hb:∀ x ∈ aj,mg x=none) (x_look_row:bV P w K mg base cl k "look_row" cU):aJ P w K mg base (Hx.CXe P w cl) (k + 1) f fd ["row"] (spX K cl cU):=by
 refine fnX F dN hb (by rintro _ _ ⟨_,rfl,_⟩; rfl) ?_
 rintro _ _ ⟨x,rfl,h2,rfl⟩ cdv A outer s H E hr b ps lv
 exact dj (bf (c:=9) (C:=false) hr ps x_look_row (ae (aa 0) ah) ⟨x,rfl,h2,rfl⟩)
theorem rj {cl:Nat->Addr} (F:Fun K "behind" qual (top 61) f fd) (hb:∀ x ∈ aj,mg x=none) (x_look_table:bV P w K mg base cl k "look_table" fh) (c_look_table:Cal P w K mg base k "look_table" bz) (x_look_row:bV P w K mg base cl k "look_row" cU) (c_look_row:Cal P w K mg base k "look_row" bY) (x_product:bV P w K mg base cl k "product" xt) (c_column_of:Cal P w K mg base k "column_of" cK):aJ P w K mg base (Hx.CXe P w cl) (k + 1) f fd ["table","row"] (spX K cl nc):=by
 refine fnX F lj hb (by rintro _ _ ⟨_,_,rfl,_⟩; rfl) ?_
 rintro _ _ ⟨x,y,rfl,(⟨h,rfl⟩ | ⟨R,C,M,rfl,t,(⟨h,rfl⟩ | ⟨q,rfl,l1,l7,ne,rfl⟩)⟩)⟩ cdv A outer s H E hr b ps lv
 · exact dj (bf (c:=1) (C:=false) hr ps x_look_table (ae (aa 0) ah) ⟨x,rfl,h,rfl⟩)
 · refine b9 (PE.nox (x_call b c_look_table (ae (aa 0) ah) ⟨R,C,M,rfl,t,rfl⟩)) ?_
   exact dj (bf (c:=9) (C:=false) hr ps x_look_row (ae (aa 1) ah) ⟨y,rfl,h,rfl⟩)
 · refine b9 (PE.nox (x_call b c_look_table (ae (aa 0) ah) ⟨R,C,M,rfl,t,rfl⟩)) ?_
   refine b9 (PE.nox (x_call b c_look_row (ae (aa 1) ah) ⟨q,rfl,l1,l7,rfl⟩)) ?_
   have tq:=sG (C:=q.length) (x:=q) rfl l1 l7
   refine yx (ve hr c_column_of (bf (c:=4) (C:=false) hr ps x_product (ae (aa 0) (ae (PE.nox (aH (x:=tbQ (q.map λq=>[q])) (bH (cmp 0 (g:=λi=>frD (q.getD i 0)) (f:=λi=>.lst [frD (q.getD i 0)]) b (aV (aa 1)) (b5 (f:=frD) (xs:=q) 0) (by rw [List.length_map]; omega) λi hi s0 H0 fp=>aH (br (ae (aa 0) ah)))) ?_)) ah)) ⟨_,_,rfl,.inr ⟨R,C,M,rfl,t,.inr ⟨q.length,1,_,rfl,tq,ne,rfl⟩⟩⟩) (ae (C:=false) (τ:=[.d (tbQ M),.d (rwQ q)]) af ah))
   refine congrArg (λl=>some (D.lst l)) ?_
   rw [List.length_map]
   exact (bG (λq:Rat=>D.lst [frD q]) q 0 rfl).trans (by rw [List.map_map]; rfl)
theorem iw {cl:Nat->Addr} (F:Fun K "tells_against" qual (top 62) f fd) (hb:∀ x ∈ aj,mg x=none) (x_behind:bV P w K mg base cl k "behind" nc):aJ P w K mg base (Hx.CXe P w cl) (k + 1) f fd ["table","row"] (spX K cl nc):=by
 refine fnX F bN hb (by rintro _ _ ⟨_,_,rfl,_⟩; rfl) ?_
 rintro _ c ⟨x,y,rfl,h⟩ cdv A outer s H E hr b ps lv
 have nd:=bN.nd
 exact fB 2 nd (bf (c:=c) (C:=true) hr ps x_behind (ae (aa 0) (ae (aa 1) ah)) ⟨x,y,rfl,h⟩)
theorem jX {cl:Nat->Addr} (F:Fun K "first_below" qual (top 53) f fd) (hb:∀ x ∈ aj,mg x=none) (x_look_table:bV P w K mg base cl k "look_table" fh):aJ P w K mg base (Hx.CXe P w cl) (k + 1) f fd ["table"] (spX K cl fh):=by
 refine fnX F fG hb (by rintro _ _ ⟨_,rfl,_⟩; rfl) ?_
 rintro _ _ ⟨x,rfl,h2,rfl⟩ cdv A outer s H E hr b ps lv
 exact dj (bf (c:=1) (C:=false) hr ps x_look_table (ae (aa 0) ah) ⟨x,rfl,h2,rfl⟩)
theorem pe {cl:Nat->Addr} (F:Fun K "against" qual (top 63) f fd) (hb:∀ x ∈ aj,mg x=none) (x_first_below:bV P w K mg base cl k "first_below" fh):aJ P w K mg base (Hx.CXe P w cl) (k + 1) f fd ["table"] (spX K cl fh):=by
 refine fnX F cA hb (by rintro _ _ ⟨_,rfl,_⟩; rfl) ?_
 rintro _ _ ⟨x,rfl,h2,rfl⟩ cdv A outer s H E hr b ps lv
 have nd:=cA.nd
 exact fB 1 nd (bf (c:=1) (C:=true) hr ps x_first_below (ae (aa 0) ah) ⟨x,rfl,h2,rfl⟩)
end
noncomputable def whw (x:D):Bool:=cw .int x && !cw .bool x
noncomputable def iA (ds:List D) (r:Sl):Prop:=∃ x,ds=[x]/\r=.d (.bl (whw x))
noncomputable def eY (ds:List D) (r:Sl):Prop:=∃ x,ds=[x]/\r=.d (.bl (cV x))
noncomputable def gw (ds:List D) (r:Sl):Prop:=∃ x,ds=[x]/\eO x<=1000/\r=.d (.bl (bx x))
theorem uO {u v:D} (h:(!whw u || !whw v)=true):cV (.tup [u,v])=false:=by
 cases u <;> cases v <;> first | rfl | cases h
theorem AH {x:Bool} (h:(!x)=true):x=false:=by cases x <;> first | rfl | cases h
theorem Bj {x:Bool} (h:(!x)=false):x=true:=by cases x <;> first | rfl | cases h
section
variable {P:Program} {w:World} {K:PySem.W.Frag} {mg:Str->Option Value} {base:Heap} {k:Nat} {f:Addr} {fd:FuncData} {qual:Str}
theorem oR (F:Fun K "_law_whole" qual (top 75) f fd) (hb:∀ x ∈ aj,mg x=none):aJ P w K mg base CX0 (k + 1) f fd ["_law_thing"] (spD K iA):=by
 refine fnD F oX hb (by rintro _ _ ⟨_,rfl,_⟩; rfl) ?_
 rintro _ _ ⟨x,rfl,rfl⟩ cdv A outer s H E b
 exact ax (fb (cx .int b (aa 0)) λh=>(ir (wL (cx .bool b (aa 0))))) rfl
theorem kh (F:Fun K "_law_fraction" qual (top 79) f fd) (hb:∀ x ∈ aj,mg x=none) (c_l_whole:Cal P w K mg base k "_law_whole" iA) (c_l_divisor:Cal P w K mg base k "_law_divisor" di):aJ P w K mg base CX0 (k + 1) f fd ["_law_thing"] (spD K eY):=by
 refine fnD F j8 hb (by rintro _ _ ⟨_,rfl,_⟩; rfl) ?_
 rintro _ _ ⟨x,rfl,rfl⟩ cdv A outer s H E b
 by_cases ht:cw .tuple x=true
 · obtain ⟨xs,rfl⟩:∃ xs,x=.tup xs:=by cases x <;> first | exact ⟨_,rfl⟩ | cases ht
   by_cases h2:xs.length=2
   · obtain ⟨u,v,rfl⟩:∃ u v,xs=[u,v]:=by
       match xs,h2 with
       | [u,v],_=>exact ⟨u,v,rfl⟩
     refine aY (PW.pt (fO (bB (bo (cx .tuple b (aa 0)))) λh=>(fO (aF (a5 b (ae (aa 0) ah) jl) af gD) λh=>(fO (bB (bo (x_call b c_l_whole (ae (aQ (aa 0) af (bK (aT (i:=0) rfl))) ah) ⟨u,rfl,rfl⟩))) λh=>(hU (bB (bo (x_call b c_l_whole (ae (aQ (aa 0) af (bK (aT (i:=1) rfl))) ah) ⟨v,rfl,rfl⟩)))))))) (λh=>?_) λh=>?_
     · have h:(!whw u || !whw v)=true:=h
       rw [uO h]
       exact ax i4 rfl
     · have h:(!whw u || !whw v)=false:=h
       rw [Bool.or_eq_false_iff] at h
       have h1:whw u=true:=by simpa using h.1
       have h3:whw v=true:=by simpa using h.2
       cases u with
       | int a=>
         cases v with
         | int c=>
           refine ax (fb (d9 (aQ (aa 0) af (bK (aT (i:=1) rfl))) af mW) λh=>(ir (d9 (x_call b c_l_divisor (ae (aQ (aa 0) af (bK (aT (i:=0) rfl))) (ae (aQ (aa 0) af (bK (aT (i:=1) rfl))) ah)) ⟨a,c,rfl,rfl⟩) af bJ))) ?_
           show Sl.d (.bl (decide (c > 0) && decide ((Int.gcd a c:Int)=1)))=Sl.d (.bl (decide (1<=c) && decide ((Int.gcd a c:Int)=1)))
           rw [show decide (c > 0)=decide (1<=c) from decide_eq_decide.mpr (by omega)]
         | _=>cases h3
       | _=>cases h1
   · have e:decide (((xs.length:Nat):Int)=2)=false:=decide_eq_false (by omega)
     rw [ou h2]
     refine aY (PW.pt (fO (bB (bo (cx .tuple b (aa 0)))) λh=>(fO (q:=true) (aF (a5 b (ae (aa 0) ah) jl) af gD) λh=>(by rw [e] at h; cases h)))) (λh=>ax i4 rfl) λh=>?_
     have h:(false || (!decide (((xs.length:Nat):Int)=2) || true))=false:=h
     rw [e] at h
     cases h
 · have e:cw .tuple x=false:=by simpa using ht
   have ef:cV x=false:=by cases x <;> first | rfl | cases e
   rw [ef]
   refine aY (PW.pt (fO (q:=true) (bB (bo (cx .tuple b (aa 0)))) λh=>(by rw [e] at h; cases h))) (λ_=>ax i4 rfl) λh=>?_
   rw [e] at h; cases h
theorem nH (F:Fun K "_law_is_row" qual (top 80) f fd) (hb:∀ x ∈ aj,mg x=none) (c_l_fraction:Cal P w K mg base k "_law_fraction" eY):aJ P w K mg base CX0 (k + 1) f fd ["_law_thing"] (spD K gw):=by
 refine fnD F nV hb (by rintro _ _ ⟨_,rfl,_⟩; rfl) ?_
 rintro _ _ ⟨x,rfl,hl,rfl⟩ cdv A outer s H E b
 by_cases ht:cw .list x=true
 · obtain ⟨xs,rfl⟩:∃ xs,x=.lst xs:=by cases x <;> first | exact ⟨_,rfl⟩ | cases ht
   have hl:xs.length<=1000:=hl
   refine aY (PW.pt (fO (bB (bo (cx .list b (aa 0)))) λh=>(hU (bB ((mR af (a5 b (ae (aa 0) ah) cX) af pv pv).2 rfl))))) (λh=>?_) λh=>?_
   · have h:(!(decide ((0:Int) < (xs.length:Nat)) && decide (((xs.length:Nat):Int) < 8)))=true:=h
     have e:eK (.lst xs)=false:=by
       show (decide ((1:Int)<=(xs.length:Nat)) && decide (((xs.length:Nat):Int)<=7))=false
       rw [show decide ((1:Int)<=(xs.length:Nat))=decide ((0:Int) < (xs.length:Nat)) from decide_eq_decide.mpr (by omega),show decide (((xs.length:Nat):Int)<=7)=decide (((xs.length:Nat):Int) < 8) from decide_eq_decide.mpr (by omega)]
       exact AH h
     refine ax i4 ?_
     show _=Sl.d (.bl (eK (.lst xs) && _))
     rw [e]
     rfl
   · have h:(!(decide ((0:Int) < (xs.length:Nat)) && decide (((xs.length:Nat):Int) < 8)))=false:=h
     have e:eK (.lst xs)=true:=by
       show (decide ((1:Int)<=(xs.length:Nat)) && decide (((xs.length:Nat):Int)<=7))=true
       rw [show decide ((1:Int)<=(xs.length:Nat))=decide ((0:Int) < (xs.length:Nat)) from decide_eq_decide.mpr (by omega),show decide (((xs.length:Nat):Int)<=7)=decide (((xs.length:Nat):Int) < 8) from decide_eq_decide.mpr (by omega)]
       exact Bj h
     refine ax (a5 b (ae (aH (bH (cmp 0 (f:=λl=>.bl (cV (xs.getD l .non))) b (aV (aa 0)) p8 (by omega) λl hl s0 H0 fp=>(x_call (b.comp s0 H0 _ fp) c_l_fraction (ae (aa 0) ah) ⟨_,rfl,rfl⟩)))) ah) (jY b.calm ((List.range xs.length).map λl=>cV (xs.getD l .non)) (by rw [List.map_map]; rfl))) ?_
     rw [jh cV xs]
     show _=Sl.d (.bl (eK (.lst xs) && _))
     rw [e,Bool.true_and]
 · have e:cw .list x=false:=by simpa using ht
   have ef:bx x=false:=by cases x <;> first | rfl | cases e
   rw [ef]
   refine aY (PW.pt (fO (q:=true) (bB (bo (cx .list b (aa 0)))) λh=>(by rw [e] at h; cases h))) (λ_=>ax i4 rfl) λh=>?_
   rw [e] at h; cases h
end
end K41
namespace Hy
open PySem PySem.Spec PyProof.Rows L2
open Ev (D Den au)
theorem xT {es:List Expr} {m:Nat} {p:Pos} {r:List Expr} {env:Env}:starEach (.Tuple es m p :: r) env=(false,eval (.Tuple es m p) env) :: starEach r env:=rfl
theorem xk {es:List Expr} {p:Pos} {r:List Expr} {env:Env}:starEach (.List es p :: r) env=(false,eval (.List es p) env) :: starEach r env:=rfl
theorem mC {c:Const} {m:Nat} {p:Pos} {r:List Expr} {env:Env}:starEach (.Constant c m p :: r) env=(false,eval (.Constant c m p) env) :: starEach r env:=rfl
theorem xr {a:Expr} {o:UnaryOp} {p:Pos} {r:List Expr} {env:Env}:starEach (.UnaryOp o a p :: r) env=(false,eval (.UnaryOp o a p) env) :: starEach r env:=rfl
theorem yT {es:List Expr} {p:Pos} {t:Option Expr} {l:Nat} {env:Env}:swapsWith (.List es p) t l env=pure false:=rfl
theorem xK {a b:Expr} {o:Operator} {p:Pos} {t:Option Expr} {l:Nat} {env:Env}:swapsWith (.BinOp a o b p) t l env=pure false:=rfl
section
variable {X:Cx} {C:Bool} {τ:List Sl} {x:D} {ds:List D} {es r:List Expr} {a b:Expr} {m:Nat} {p pos:Pos}
structure QE (X:Cx) (e:Expr) (t:TE):Prop where
 out:PE X e t
structure QA (X:Cx) (es:List Expr) (t:TA):Prop where
 out:PA X es t
variable {xs:List D}
theorem ba:QA X [] (dA X.K C τ []):=⟨ah⟩
theorem d0 (h:QA X es (dA X.K C τ ds)) (hr:QA X r (dA X.K C τ xs)) (hl:Nat.ble ds.length 1000=true:=by rfl):QA X (.Tuple es m pos :: r) (dA X.K C τ (.tup ds :: xs)):=⟨ae (cf h.out hl) hr.out xT⟩
theorem eE (h:QA X es (dA X.K C τ ds)) (hr:QA X r (dA X.K C τ xs)) (hl:Nat.ble ds.length 1000=true:=by rfl):QA X (.List es pos :: r) (dA X.K C τ (.lst ds :: xs)):=⟨ae (aH (br h.out hl)) hr.out xk⟩
theorem bP {n:Int} (hr:QA X r (dA X.K C τ xs)):QA X (.Constant (.int n) m pos :: r) (dA X.K C τ (.int n :: xs)):=⟨ae af hr.out mC⟩
theorem sj {n:Str} (hr:QA X r (dA X.K C τ xs)):QA X (.Constant (.str n) m pos :: r) (dA X.K C τ (.str n :: xs)):=⟨ae a8 hr.out mC⟩
theorem wt (hr:QA X r (dA X.K C τ xs)):QA X (.Constant .none m pos :: r) (dA X.K C τ (.non :: xs)):=⟨ae gj hr.out mC⟩
theorem yV {n:Bool} (hr:QA X r (dA X.K C τ xs)):QA X (.Constant (.bool n) m pos :: r) (dA X.K C τ (.bl n :: xs)):=⟨ae i4 hr.out mC⟩
theorem wu {o:UnaryOp} (h:PE X (.UnaryOp o a p) (dE X.K C τ (.d x))) (hr:QA X r (dA X.K C τ xs)):QA X (.UnaryOp o a p :: r) (dA X.K C τ (x :: xs)):=⟨ae h hr.out xr⟩
theorem wq (h:PE X a (dE X.K C τ (.d x))) (hr:QA X r (dA X.K C τ xs)) (hs:starEach (a :: r) X.env=(false,eval a X.env) :: starEach r X.env:=by rfl):QA X (a :: r) (dA X.K C τ (x :: xs)):=⟨ae h hr.out hs⟩
theorem uk (h:QA X es (dA X.K C τ ds)) (hl:Nat.ble ds.length 1000=true:=by rfl):QE X (.List es pos) (dE X.K C τ (.o ds)):=⟨br h.out hl⟩
theorem z6 {ys:List D} (ha:PE X a (dE X.K C τ (.d (.lst xs)))) (hb:QE X b (dE X.K C τ (.o ys))) (hl:xs.length + ys.length < 1000000):QE X (.BinOp a .Add b pos) (dE X.K C τ (.o (xs++ys))):=⟨eo ha (aH hb.out) hl⟩
theorem A6 {e:Expr} {t:TE} (h:PE X e t):QE X e t:=⟨h⟩
structure PQ (X:Cx) (body:List Stmt) (t:TS):Prop where
 out:PSs X body t
variable {s:Sl} {N:Po} {rest:List Stmt} {e:Expr} {y:D}
theorem wx (i:Nat) {n:Str} {p:Pos} (hN:X.N.Nodup) (he:QE X e (dE X.K true τ s)) (hr:PQ X rest (dS X.K (τ.set i s) N)) (hi:X.N[i]?=some n:=by rfl) (hx:Loc X.env.scope n:=by first | exact .inl rfl | exact .inr rfl) (hs:swapsWith e (some (.Name n p)) pos.line X.env=pure false:=by rfl)
   (hf:X.fn n=true\/X.env.scope.names.lookup n=some .local:=by first | exact .inl rfl | exact .inr rfl | assumption):PQ X (.Assign [.Name n p] e pos :: rest) (dS X.K τ N):=⟨av i hN he.out hr.out hi hx hs hf⟩
theorem z9 (i:Nat) {s:Sl} {x:D} (h:PQ X rest (dS X.K (τ.set i (.d x)) N)) (hi:τ[i]?=some s:=by rfl) (hx:fzD s=some x:=by rfl):PQ X rest (dS X.K τ N):=⟨mV i h.out hi hx⟩
theorem AB (he:PE X e (dE X.K false τ s)) (h:N.rt s):PQ X (.Return (some e) pos :: rest) (dS X.K τ N):=⟨ax he h⟩
theorem zN (i:Nat) {n:Str} {xs:List D} {ap cp:Pos} (he:QE X e (dE X.K true τ (.d x))) (hl:xs.length < 1000000) (hr:PQ X rest (dS X.K (τ.set i (.o (xs++[x]))) N)) (hi:τ[i]?=some (.o xs):=by rfl) (hN:X.N[i]?=some n:=by rfl)
   (hv:Vis X.env.scope n:=by first | exact Or.inl rfl | exact Or.inr (Or.inl rfl) | exact Or.inr (Or.inr rfl)) (hd:(n == ("__debug__" : Str))=false:=by decide) (hcd:(n == ("__classdict__" : Str))=false:=by decide)
   (hfew:((backTo cp (starEach [e] X.env)).all (λx=>!x.1) && (backToKw cp (keywordEach [] X.env)).all (λx=>x.1.isSome) && decide (([e]:List Expr).length + ([]:List Keyword).length + (if ([]:List Keyword).isEmpty then 0 else 1) < 30))=true:=by rfl)
   (hline:(ap.endLine == cp.line)=true:=by rfl) (hst:starEach [e] X.env=(false,eval e X.env) :: starEach [] X.env:=by rfl) (hpl:(backTo cp (starEach [] X.env)).any (·.1)=false:=by rfl)
   (hs:swapsWith (.Call (.Attribute (.Name n p) "append" ap) [e] [] cp) none pos.line X.env=pure false:=by rfl) (hbase:attributeBase (.Name n p) "append" X.env (eval (.Name n p) X.env)=eval (.Name n p) X.env:=by rfl) :
   PQ X (.Expr (.Call (.Attribute (.Name n p) "append" ap) [e] [] cp) pos :: rest) (dS X.K τ N):=⟨qR i he.out hl hr.out hi hN hv hd hcd hfew hline hst hpl hs hbase⟩
end
section
variable {P:Program} {w:World} {K:PySem.W.Frag} {mg:Str->Option Value} {base:Heap}
theorem fnQ {x qual:Str} {st:Stmt} {f:Addr} {fd:FuncData} {N ps:List Str} {k:Nat} {Φ:List D->Sl->Prop} (F:Fun K x qual st f fd) (S:ao N ps (ak st)) (hb:∀ x ∈ aj,mg x=none) (len:∀ ds r,Φ ds r->ds.length=ps.length)
   (body:∀ ds r,Φ ds r->∀ cdv A outer s H E,Bk (Xc P w K mg base N qual st f cdv A outer s H E) k->PQ (Xc P w K mg base N qual st f cdv A outer s H E) (a7 st) (dS K (nO N ds) { nx:=λ_=>r=.d .non,rt:=λr'=>r'=r })) :
   aJ P w K mg base CX0 (k + 1) f fd ps (spD K Φ):=fnD F S hb len λds r h cdv A outer s H E b=>(body ds r h cdv A outer s H E b).out
end
end Hy
namespace K41
open PySem PySem.Spec PyProof.Rows L2 Hy
open Ev (D Den au aG aE)
noncomputable def anA (a:Int):List D:=[.int a,.bl true,.bl false,.non,.str "",.str "1",.tup [.int 1,.int 1],.lst [],.lst [.lst []],.tup [],.int (-1),.tup [.int a,.int 2],.lst [.int 1],.lst [.tup [.int 1,.int 1]],.tup [.int 1,.bl true]]
noncomputable def anB (a:Int):List D:=anA a++[.tup [.tup [.int 1,.int 1]],.lst [.lst [.tup [.int 1,.int 1]]],.tup [.int 2,.int 4],.tup [.int 1,.int 0],.tup [.int 3,.int (-1)],.lst [.lst [.int 1]],.lst [.str "(1, 1)"],.lst [.non],.tup [.int 1,.int 1,.int 1]]
noncomputable def anC (a:Int):List D:=anB a++[.lst [.lst [.tup [.int 1,.int 1]],.lst []]]
noncomputable def jc (ds:List D) (r:Sl):Prop:=∃ (i:Nat) (a:Int) (w:List D),ds=[.lst (.int i :: .int a :: w)]/\i < 25/\r=.d ((anC a).getD i .non)
section
variable {P:Program} {w:World} {K:PySem.W.Frag} {mg:Str->Option Value} {base:Heap} {k:Nat} {f:Addr} {fd:FuncData} {qual:Str}
set_option maxHeartbeats 1000000 in
theorem tI (F:Fun K "_law_any" qual (top 77) f fd) (hb:∀ x ∈ aj,mg x=none):aJ P w K mg base CX0 (k + 1) f fd ["_law_parts"] (spD K jc):=by
 refine fnQ F nZ hb (by rintro _ _ ⟨_,_,_,rfl,_⟩; rfl) ?_
 rintro _ _ ⟨i,a,ww,rfl,hi,rfl⟩ cdv A outer s H E b
 have nd:=nZ.nd
 have a0:atI (D.int (i:Nat) :: D.int a :: ww) 0=some (.int (i:Nat)):=aT (i:=0) rfl
 have a1:atI (D.int (i:Nat) :: D.int a :: ww) 1=some (.int a):=aT (i:=1) rfl
 refine wx 1 nd (uk (wq (aQ (aa 0) af (aO a1)) (yV (yV (wt (sj (sj (d0 (bP (bP ba)) (eE ba (eE (eE ba ba) (d0 ba (wu (fS af) (d0 (wq (aQ (aa 0) af (aO a1)) (bP ba)) (eE (bP ba) (eE (d0 (bP (bP ba)) ba) (d0 (bP (yV ba)) ba)))))))))))))))) (z9 1 ?_) (hs:=yT)
 show PQ _ _ (dS K [.d (.lst (.int (i:Nat) :: .int a :: ww)),.d (.lst (anA a))] _)
 refine wx 1 nd (z6 (aa 1) (uk (d0 (d0 (bP (bP ba)) ba) (eE (eE (d0 (bP (bP ba)) ba) ba) (d0 (bP (bP ba)) (d0 (bP (bP ba)) (d0 (bP (wu (fS af) ba)) (eE (eE (bP ba) ba) (eE (sj ba) (eE (wt ba) (d0 (bP (bP (bP ba))) ba)))))))))) (by show (15:Nat) + 9 < 1000000; decide)) ?_ (hs:=xK)
 show PQ _ _ (dS K [.d (.lst (.int (i:Nat) :: .int a :: ww)),.o (anB a)] _)
 refine zN 1 (A6 (aH (uk (eE (d0 (bP (bP ba)) ba) (eE ba ba))).out)) ?_ (z9 1 ?_)
 · show (24:Nat) < 1000000
   decide
 show PQ _ _ (dS K [.d (.lst (.int (i:Nat) :: .int a :: ww)),.d (.lst (anC a))] _)
 have hl:i < (anC a).length:=hi
 exact AB (aQ (aa 1) (aQ (aa 0) af (aO a0)) (aO (aT (x:=(anC a).getD i .non) (by simp [hl])))) rfl
end
noncomputable def rwB (n:Nat):List Int:=4 :: (List.replicate n (2 * 10 ^ 40 * 10 ^ 40)++List.replicate n 3)
noncomputable def rwP (c:Int) (n:Nat):List Int:=nums c (rwB n)
noncomputable def rwK (p0 p:Int):Rat:=nmQ p0.toNat p
noncomputable def rwL (c:Int) (n i:Nat):List Rat:=(List.range n).map λk=>if k < i/\(rwP c n).getD (1 + n + k) 0=0 then 0 else rwK ((rwP c n).getD 0 0) ((rwP c n).getD (1 + k) 0)
noncomputable def lF (ds:List D) (r:Sl):Prop:=∃ (c:Int) (n:Nat),ds=[.int c,.int (n:Nat)]/\1<=n/\n<=7/\r=.o ((rwL c n n).map frD)
theorem mP (n:Nat):(rwB n).length=1 + n + n:=by unfold rwB; rw [List.length_cons,List.length_append,List.length_replicate,List.length_replicate]; omega
theorem wz (c:Int) (n:Nat):0<=(rwP c n).getD 0 0/\(rwP c n).getD 0 0 < 4:=me (c:=c) (bs:=rwB n) (λb hb=>by
 unfold rwB at hb
 rcases List.mem_cons.mp hb with rfl | hb
 · decide
 · rcases List.mem_append.mp hb with hb | hb
   · rw [(List.mem_replicate.mp hb).2]; decide
   · rw [(List.mem_replicate.mp hb).2]; decide) (i:=0) (by rw [mP]; omega)
theorem yi {p0 p:Int} (h:0<=p0/\p0 < 4):Qs 133 133 (rwK p0 p):=by
 have n:=wK (kd:=p0.toNat) p
 unfold rwK
 unfold kD kV at n
 split at n
 · exact n
 · exact n.mo (by decide) (by decide)
theorem yr {c:Int} {n i:Nat}:∀ x ∈ rwL c n i,Qs 133 133 x:=λx hx=>by
 unfold rwL at hx
 obtain ⟨k,_,rfl⟩:=List.mem_map.mp hx
 split
 · exact ⟨by unfold Bd; decide +kernel,Nat.zero_le _⟩
 · exact yi (wz c n)
theorem vM {c:Int} {n i:Nat} (h:(rwP c n).getD (1 + n + i) 0=0):(rwL c n i).set i 0=rwL c n (i + 1):=by
 unfold rwL
 refine List.ext_getElem (by simp) λk h1 h2=>?_
 rw [List.getElem_set]
 simp only [List.getElem_map,List.getElem_range]
 by_cases e:i=k
 · subst e
   rw [if_pos rfl,if_pos ⟨by omega,h⟩]
 · rw [if_neg e]
   by_cases q:k < i/\(rwP c n).getD (1 + n + k) 0=0
   · rw [if_pos q,if_pos ⟨by omega,q.2⟩]
   · rw [if_neg q,if_neg λz=>q ⟨by omega,z.2⟩]
theorem y8 {c:Int} {n i:Nat} (h:¬ (rwP c n).getD (1 + n + i) 0=0):rwL c n i=rwL c n (i + 1):=by
 unfold rwL
 refine List.map_congr_left λk _=>?_
 by_cases q:k < i/\(rwP c n).getD (1 + n + k) 0=0
 · rw [if_pos q,if_pos ⟨by omega,q.2⟩]
 · rw [if_neg q,if_neg λz=>?_]
   rcases Nat.lt_or_ge k i with r | r
   · exact q ⟨r,z.2⟩
   · rw [show k=i by omega] at z; exact h z.2
section
variable {P:Program} {w:World} {K:PySem.W.Frag} {mg:Str->Option Value} {base:Heap} {k:Nat} {f:Addr} {fd:FuncData} {qual:Str}
set_option maxHeartbeats 2000000 in
theorem su (F:Fun K "_law_row" qual (top 78) f fd) (hb:∀ x ∈ aj,mg x=none) (c_l_numbers:Cal P w K mg base k "_law_numbers" b8) (c_l_number:Cal P w K mg base k "_law_number" eV):aJ P w K mg base CX0 (k + 1) f fd ["_law_cell_here","_law_many"] (spD K lF):=by
 refine fnD F nA hb (by rintro _ _ ⟨_,_,rfl,_⟩; rfl) ?_
 rintro _ _ ⟨c,n,rfl,n1,n7,rfl⟩ cdv A outer s H E b
 have nd:=nA.nd
 refine av 2 nd (aH (x_call b c_l_numbers (ae (aa 0) (ae (aH (eo (aH (eo (aH (br (ae af ah))) (aH (bH (cmp 0 (f:=λ_=>.int (2 * 10 ^ 40 * 10 ^ 40)) b (eG b (aa 1) (by omega) (by omega)) dr (by rw [ay]; omega) λi hi s0 H0 fp=>(aA (aA af (aA af af (gh ⟨by decide,by decide,by decide⟩)) (bC (mkL (by decide)))) (aA af af (gh ⟨by decide,by decide,by decide⟩)) (bC m40))))) ?_)) (aH (bH (cmp 0 (f:=λ_=>.int 3) b (eG b (aa 1) (by omega) (by omega)) dr (by rw [ay]; omega) λi hi s0 H0 fp=>af))) ?_)) ah)) ⟨c,rwB n,?_,by rw [mP]; omega,?_,rfl⟩)) ?_
 · rw [List.length_map,List.length_range,ay]; show 1 + _ < _; omega
 · simp only [List.length_append,List.length_map,List.length_range,ay]
   show 1 + _ + _ < _
   omega
 · rw [ay,Int.toNat_natCast]
   unfold rwB
   rw [List.map_cons,List.map_append,List.map_replicate,List.map_replicate]
   refine congrArg (λl=>[D.int c,D.lst l]) ?_
   show D.int 4 :: ((List.range n).map (λ_=>D.int (2 * 10 ^ 40 * 10 ^ 40))++(List.range n).map λ_=>D.int 3)=_
   congr 2
   · exact List.ext_getElem (by simp) λi h1 h2=>by simp
   · exact List.ext_getElem (by simp) λi h1 h2=>by simp
 · intro x hx
   unfold rwB at hx
   rcases List.mem_cons.mp hx with rfl | hx
   · exact nJ (by decide) (by decide)
   · rcases List.mem_append.mp hx with hx | hx
     · rw [(List.mem_replicate.mp hx).2]
       exact ⟨by decide,(show Bd 280 ((2:Int) * 10 ^ 40 * 10 ^ 40) by unfold Bd; decide +kernel).aE (by decide) (by decide)⟩
     · rw [(List.mem_replicate.mp hx).2]
       exact nJ (by decide) (by decide)
 have ln:(rwP c n).length=1 + n + n:=by unfold rwP; rw [ig,mP]
 have p0:=wz c n
 have ek:(rwP c n).getD 0 0=((((rwP c n).getD 0 0).toNat:Nat):Int):=by omega
 have fin:∀ i,(rwL c n i).length=n:=λi=>by simp [rwL]
 have l0:rwL c n 0=(List.range n).map λk=>rwK ((rwP c n).getD 0 0) ((rwP c n).getD (1 + k) 0):=by
   unfold rwL
   exact List.map_congr_left λk _=>if_neg (by omega)
 have put:=λi=>vM (c:=c) (n:=n) (i:=i)
 have no:=λi=>y8 (c:=c) (n:=n) (i:=i)
 show PSs _ _ (dS K [.d (.int c),.d (.int (n:Nat)),.d (.lst ((rwP c n).map D.int)),.un,.un] _)
 generalize hp:rwP c n=p at *
 have cut:Hy.cutD (p.map D.int) (some 1) (some (1 + (n:Int)))=((p.take (1 + n)).drop 1).map D.int:=by
   rw [show (1:Int) + (n:Int)=((1 + n:Nat):Int) by omega,show (1:Int)=((1:Nat):Int) from rfl,Hy.vT,List.map_drop,List.map_take]
 have lc:((p.take (1 + n)).drop 1).length=n:=by rw [List.length_drop,List.length_take,ln]; omega
 have ac:∀ l (hl:l < (((p.take (1 + n)).drop 1).map D.int).length),(((p.take (1 + n)).drop 1).map D.int)[l]=.int (p.getD (1 + l) 0):=λl hl=>by
   have hl:l < n:=by rw [List.length_map,lc] at hl; exact hl
   simp [List.getElem_drop,List.getElem_take,List.getD_eq_getElem?_getD,show 1 + l < p.length by omega,show l + 1 < p.length by omega,Nat.add_comm 1 l]
 refine pQ 3 nd (s:=.o (((List.range n).map λk=>nmQ (p.getD 0 0).toNat (p.getD (1 + k) 0)).map frD)) (cmp 0 (g:=λl=>.int (p.getD (1 + l) 0)) (f:=λl=>frD (nmQ (p.getD 0 0).toNat (p.getD (1 + l) 0))) b (aV (aH (nu (aa 2) (cP af) (cP (aA af (aa 1) bj))) (congrArg (λl=>some (D.lst l)) cut))) ac (by rw [List.length_map,lc]; omega) λl hl s0 H0 fp=>(x_call (b.comp s0 H0 _ fp) c_l_number (ae (aQ (aa 1) af (aO (atR (j:=0) (by omega)))) (ae (aa 0) ah)) ⟨(p.getD 0 0).toNat,p.getD (1 + l) 0,congrArg (λz=>[D.int z,D.int (p.getD (1 + l) 0)]) ek,by omega,rfl⟩)) (.inl ?_) ?_
 · rw [List.length_map,lc,List.map_map]
   rfl
 have e0:((List.range n).map λk=>nmQ (p.getD 0 0).toNat (p.getD (1 + k) 0))=rwL c n 0:=l0.symm
 rw [e0]
 refine cM 4 (λi τ=>∃ s4,τ=[.d (.int c),.d (.int (n:Nat)),.d (.lst (p.map D.int)),.o ((rwL c n i).map frD),s4]) b nd (eG b (aa 1) (by omega) (by omega)) dr ⟨_,rfl⟩ (λi hi τ h=>?_) λτ h=>?_
 · obtain ⟨s4,rfl⟩:=h
   have hi:i < n:=by rw [ay] at hi; omega
   have ai:atI (p.map D.int) (1 + (n:Int) + (i:Nat))=some (.int (p.getD (1 + n + i) 0)):=by
     rw [show (1:Int) + (n:Int) + ((i:Nat):Int)=((1 + n + i:Nat):Int) by omega]
     exact atR (by omega)
   refine fU (M:=λτ=>∃ s4,τ=[.d (.int c),.d (.int (n:Nat)),.d (.lst (p.map D.int)),.o ((rwL c n (i + 1)).map frD),s4]) (aF (aQ (aa 2) (aA (aA af (aa 1) bj) (aa 4) bj) (aO ai)) af bJ) (λh=>?_) (λh=>?_) λτ h=>?_
   · have h:=of_decide_eq_true h
     refine tR 3 (xs:=(rwL c n i).map frD) (j:=i) (x:=frD 0) (aa 4) (cf (ae af (ae af ah))) (by rw [List.length_map,fin]; exact wQ hi) (aR ⟨.d (.int (i:Nat)),?_⟩)
     rw [<- put i h,List.map_set]
     rfl
   · rw [<- no i (of_decide_eq_false h)]
     exact aR ⟨_,rfl⟩
   · obtain ⟨s4',rfl⟩:=h
     exact aR ⟨_,rfl⟩
 · obtain ⟨s4,rfl⟩:=h
   rw [ay,Int.toNat_natCast]
   exact j4 3 rfl
end
noncomputable def spA (ps:List Int):D:=(anC (ps.getD 3 0)).getD (ps.getD 2 0).toNat .non
noncomputable def spI (q:List Rat) (ps:List Int):Nat:=((ps.getD 1 0).fmod (q.length:Nat)).toNat
noncomputable def spY (q:List Rat) (ps:List Int):D:=
 if ps.getD 0 0=1 then .lst (q.map frD++[frD 1]) else if ps.getD 0 0=2 then .lst (Hy.cutD (q.map frD) none (some (-1)))
 else if ps.getD 0 0=3 then .lst ((List.range 8).map λk=>frD ((k:Nat):Int)) else if ps.getD 0 0=4 then .lst ((q.map frD).set (spI q ps) (spA ps))
 else if ps.getD 0 0=5 then .tup (q.map frD) else if ps.getD 0 0=6 then spA ps else rwQ q
noncomputable def gI (ds:List D) (r:Sl):Prop:=∃ (q:List Rat) (ps:List Int),ds=[rwQ q,.lst (ps.map .int)]/\1<=q.length/\q.length<=7/\ps.length=6/\0<=ps.getD 2 0/\ps.getD 2 0 < 25/\r=.d (spY q ps)
theorem vF {xs:List D} {k:Nat} (h:k < xs.length) (z:D):(Hy.cutD xs none (some (k:Int))++[z])++Hy.cutD xs (some ((k:Int) + 1)) none=xs.set k z:=by
 rw [show (k:Int) + 1=((k + 1:Nat):Int) from rfl,jQ,mI _ (by omega),List.set_eq_take_append_cons_drop,if_pos h]
 simp
section
variable {P:Program} {w:World} {K:PySem.W.Frag} {mg:Str->Option Value} {base:Heap} {k:Nat} {f:Addr} {fd:FuncData} {qual:Str}
set_option maxHeartbeats 1000000 in
theorem ot (F:Fun K "_law_spoilt" qual (top 81) f fd) (hb:∀ x ∈ aj,mg x=none) (c_l_any:Cal P w K mg base k "_law_any" jc):aJ P w K mg base CX0 (k + 1) f fd ["_law_row_here","_law_parts"] (spD K gI):=by
 refine fnD F i3 hb (by rintro _ _ ⟨_,_,rfl,_⟩; rfl) ?_
 rintro _ _ ⟨q,ps,rfl,q1,q7,l6,t0,t1,rfl⟩ cdv A outer s H E b
 have nd:=i3.nd
 obtain ⟨p0,p1,p2,p3,p4,p5,rfl⟩:∃ p0 p1 p2 p3 p4 p5,ps=[p0,p1,p2,p3,p4,p5]:=by
   match ps,l6 with
   | [p0,p1,p2,p3,p4,p5],_=>exact ⟨p0,p1,p2,p3,p4,p5,rfl⟩
 have t0:0<=p2:=t0
 have t1:p2 < 25:=t1
 obtain ⟨j,rfl⟩:=Int.eq_ofNat_of_zero_le t0
 have j25:j < 25:=by omega
 have fI:=fmn (a:=p1) (b:=(q.length:Int)) (by omega)
 have eI:p1.fmod (q.length:Nat)=(spI q [p0,p1,(j:Int),p3,p4,p5]:Nat):=by unfold spI; show _=((p1.fmod (q.length:Nat)).toNat:Int); omega
 have hI:spI q [p0,p1,(j:Int),p3,p4,p5] < q.length:=by omega
 have lq:(q.map frD).length=q.length:=List.length_map ..
 refine av 2 nd (s:=.d (.int (spI q [p0,p1,(j:Int),p3,p4,p5]:Nat))) (by rw [<- eI]; exact aA (aQ (aa 1) af (aO (aT (i:=1) rfl))) (a5 b (ae (aa 0) ah) (eC (n:=q.length) lq)) (cc (by omega))) ?_
 refine av 3 nd (aQ (aa 1) af (aO (aT (i:=0) rfl))) ?_
 unfold spY
 show PSs _ _ (dS K [.d (rwQ q),.d (.lst ([p0,p1,(j:Int),p3,p4,p5].map .int)),.d (.int (spI q [p0,p1,(j:Int),p3,p4,p5]:Nat)),.d (.int p0)] _)
 generalize spI q [p0,p1,(j:Int),p3,p4,p5]=at_ at hI
 have e0:[p0,p1,(j:Int),p3,p4,p5].getD 0 0=p0:=rfl
 have eA:spA [p0,p1,(j:Int),p3,p4,p5]=(anC p3).getD j .non:=rfl
 rw [e0,eA]
 have ec:Hy.cutD ([p0,p1,(j:Int),p3,p4,p5].map D.int) (some 2) none=[.int (j:Nat),.int p3,.int p4,.int p5]:=rfl
 refine aY (aF (aa 3) af bJ) (λh=>?_) λh=>?_
 · rw [if_pos (of_decide_eq_true h)]
   exact ax (aH (eo (aa 0) (aH (br (ae (cf (ae af (ae af ah))) ah))) (by rw [lq]; show _ + 1 < _; omega))) rfl
 rw [if_neg (of_decide_eq_false h)]
 refine aY (aF (aa 3) af bJ) (λh=>?_) λh=>?_
 · rw [if_pos (of_decide_eq_true h)]
   exact ax (aH (nu (aa 0) dH (cP (fS af)))) rfl
 rw [if_neg (of_decide_eq_false h)]
 refine aY (aF (aa 3) af bJ) (λh=>?_) λh=>?_
 · rw [if_pos (of_decide_eq_true h)]
   refine ax (aH (bH (cmp 0 (f:=λk=>frD ((k:Nat):Int)) b (eG (n:=((8:Nat):Int)) b af (by decide) (by decide)) dr (by rw [ay]; decide) λk hk s0 H0 fp=>?_))) ?_
   · rw [mf]
     exact cf (ae (aa 0) (ae af ah))
   · rw [ay]; rfl
 rw [if_neg (of_decide_eq_false h)]
 refine aY (aF (aa 3) af bJ) (λh=>?_) λh=>?_
 · rw [if_pos (of_decide_eq_true h),<- vF (by rw [lq]; exact hI)]
   have l1:(Hy.cutD (q.map frD) none (some (at_:Int))).length<=7:=by rw [jQ,List.length_take]; omega
   have l2:(Hy.cutD (q.map frD) (some ((at_:Int) + 1)) none).length<=7:=by rw [show (at_:Int) + 1=((at_ + 1:Nat):Int) from rfl,mI _ (by omega),List.length_drop]; omega
   exact ax (aH (eo (aH (eo (aH (nu (aa 0) dH (cP (aa 2)))) (aH (br (ae (x_call b c_l_any (ae (aH (nu (aa 1) (cP af) dH)) ah) ⟨j,p3,_,by rw [ec],j25,rfl⟩) ah))) (by show _ + 1 < _; omega))) (aH (nu (aa 0) (cP (aA (aa 2) af bj)) dH)) (by rw [List.length_append]; show _ + 1 + _ < _; omega))) rfl
 rw [if_neg (of_decide_eq_false h)]
 refine aY (aF (aa 3) af bJ) (λh=>?_) λh=>?_
 · rw [if_pos (of_decide_eq_true h)]
   exact ax (mZ b (ae (aa 0) ah) xE) rfl
 rw [if_neg (of_decide_eq_false h)]
 refine aY (aF (aa 3) af bJ) (λh=>?_) λh=>?_
 · rw [if_pos (of_decide_eq_true h)]
   exact ax (x_call b c_l_any (ae (aH (nu (aa 1) (cP af) dH)) ah) ⟨j,p3,_,by rw [ec],j25,rfl⟩) rfl
 rw [if_neg (of_decide_eq_false h)]
 exact ax (aa 0) rfl
end
theorem Ak {a b:Int} (h:cV (.tup [.int a,.int b])=true):∃ q:Rat,D.tup [.int a,.int b]=frD q/\q.num=a/\((q.den:Nat):Int)=b:=by
 have h:(decide (1<=b) && decide ((Int.gcd a b:Int)=1))=true:=h
 rw [Bool.and_eq_true] at h
 have h1:=of_decide_eq_true h.1
 have h2:=of_decide_eq_true h.2
 obtain ⟨n,rfl⟩:=Int.eq_ofNat_of_zero_le (show 0<=b by omega)
 have h3:Int.gcd a (n:Int)=1:=by omega
 exact ⟨⟨a,n,by omega,h3⟩,rfl,rfl,rfl⟩
theorem w5:Qs 133 133 1:=⟨by unfold Bd; decide +kernel,by decide +kernel⟩
theorem AI {a:Int} (a0:0<=a) (a1:a < 10 ^ 30):∀ i,i < 25->cV ((anC a).getD i .non)=true->∃ q,(anC a).getD i .non=frD q/\Qs 133 133 q:=λi hi h=>by
 match i,hi with
 | 6,_=>exact ⟨1,rfl,w5⟩
 | 11,_=>
   obtain ⟨q,e,e1,e2⟩:=Ak (a:=a) (b:=2) h
   refine ⟨q,e,?_,?_⟩
   · rw [e2]
     unfold Bd
     decide +kernel
   · rw [e1]
     have:a.natAbs<=2 ^ 133:=Nat.le_trans (show a.natAbs<=10 ^ 30 by omega) (by decide +kernel)
     exact Nat.le_trans this (Nat.le_mul_of_pos_right _ (by omega))
 | 0,_ | 1,_ | 2,_ | 3,_ | 4,_ | 5,_ | 7,_ | 8,_ | 9,_ | 10,_ | 12,_ | 13,_ | 14,_ | 15,_ | 16,_ | 20,_ | 21,_ | 22,_ | 23,_ | 24,_=>exact nomatch (show false=true from h)
 | 17,_=>exact absurd (show cV (.tup [.int 2,.int 4])=true from h) (by decide +kernel)
 | 18,_=>exact absurd (show cV (.tup [.int 1,.int 0])=true from h) (by decide +kernel)
 | 19,_=>exact absurd (show cV (.tup [.int 3,.int (-1)])=true from h) (by decide +kernel)
 | i + 25,h=>omega
theorem rw_an {a:Int}:∀ i,i < 25->bx ((anC a).getD i .non)=true->(anC a).getD i .non=rwQ [1]:=λi hi h=>by
 match i,hi with
 | 13,_=>rfl
 | 0,_ | 1,_ | 2,_ | 3,_ | 4,_ | 5,_ | 6,_ | 9,_ | 10,_ | 11,_ | 14,_ | 15,_ | 17,_ | 18,_ | 19,_ | 23,_=>exact nomatch (show false=true from h)
 | 7,_=>exact absurd (show bx (.lst [])=true from h) (by decide +kernel)
 | 8,_=>exact absurd (show bx (.lst [.lst []])=true from h) (by decide +kernel)
 | 12,_=>exact absurd (show bx (.lst [.int 1])=true from h) (by decide +kernel)
 | 16,_=>exact absurd (show bx (.lst [.lst [.tup [.int 1,.int 1]]])=true from h) (by decide +kernel)
 | 20,_=>exact absurd (show bx (.lst [.lst [.int 1]])=true from h) (by decide +kernel)
 | 21,_=>exact absurd (show bx (.lst [.str "(1, 1)"])=true from h) (by decide +kernel)
 | 22,_=>exact absurd (show bx (.lst [.non])=true from h) (by decide +kernel)
 | 24,_=>exact absurd (show bx (.lst [.lst [.tup [.int 1,.int 1]],.lst []])=true from h) (by decide +kernel)
 | i + 25,h=>omega
theorem yO {a:Int}:∀ i,i < 25->eO ((anC a).getD i .non)<=2:=λi hi=>by
 match i,hi with
 | 0,_ | 1,_ | 2,_ | 3,_ | 4,_ | 5,_ | 6,_ | 7,_ | 8,_ | 9,_ | 10,_ | 11,_ | 12,_ | 13,_ | 14,_ | 15,_ | 16,_ | 17,_ | 18,_ | 19,_ | 20,_ | 21,_ | 22,_ | 23,_ | 24,_=>first | exact Nat.zero_le 2 | exact Nat.le_refl 2 | exact Nat.le_succ 1
 | i + 25,h=>omega
theorem vJ (q:List Rat):∃ q':List Rat,Hy.cutD (q.map frD) none (some (-1))=q'.map frD/\(∀ z ∈ q',z ∈ q)/\q'.length<=q.length:=by
 unfold Hy.cutD
 refine ⟨(q.drop (HT.sIx (q.map frD).length 0 none)).take (HT.sIx (q.map frD).length (q.map frD).length (some (-1)) - HT.sIx (q.map frD).length 0 none),by rw [List.map_take,List.map_drop],λz hz=>List.mem_of_mem_drop (List.mem_of_mem_take hz),by rw [List.length_take,List.length_drop]; omega⟩
theorem yZ {q:List Rat} {ps:List Int} (l7:q.length<=7) (hq:∀ z ∈ q,Qs 133 133 z) (p2:0<=ps.getD 2 0/\ps.getD 2 0 < 25) (p3:0<=ps.getD 3 0/\ps.getD 3 0 < 10 ^ 30):eO (spY q ps)<=1000/\(bx (spY q ps)=true->∃ q':List Rat,spY q ps=rwQ q'/\1<=q'.length/\q'.length<=7/\∀ z ∈ q',Qs 133 133 z):=by
 have i25:(ps.getD 2 0).toNat < 25:=by omega
 have ln:∀ q':List Rat,bx (rwQ q')=true->1<=q'.length/\q'.length<=7:=λq' h=>by
   have h:(eK (.lst (q'.map frD)) && ((q'.map frD).map cV).all id)=true:=h
   rw [Bool.and_eq_true] at h
   have:=jO h.1
   rwa [List.length_map] at this
 have go:∀ q':List Rat,spY q ps=rwQ q'->(∀ z ∈ q',Qs 133 133 z)->bx (spY q ps)=true->∃ q':List Rat,spY q ps=rwQ q'/\1<=q'.length/\q'.length<=7/\∀ z ∈ q',Qs 133 133 z:=λq' e hz h=>by
   have l:=ln q' (by rw [<- e]; exact h)
   exact ⟨q',e,l.1,l.2,hz⟩
 by_cases h1:ps.getD 0 0=1
 · have e:spY q ps=rwQ (q++[1]):=by
     unfold spY rwQ
     rw [if_pos h1,List.map_append]
     rfl
   refine ⟨by rw [e]; show ((q++[1]).map frD).length<=1000; rw [List.length_map,List.length_append]; simp; omega,go _ e λz hz=>?_⟩
   rcases List.mem_append.mp hz with hz | hz
   · exact hq z hz
   · rw [List.mem_singleton.mp hz]; exact w5
 by_cases h2:ps.getD 0 0=2
 · obtain ⟨q',e1,e2,e3⟩:=vJ q
   have e:spY q ps=rwQ q':=by
     unfold spY rwQ
     rw [if_neg h1,if_pos h2,e1]
   refine ⟨?_,go _ e λz hz=>hq z (e2 z hz)⟩
   rw [e]
   show (q'.map frD).length<=1000
   rw [List.length_map]
   omega
 by_cases h3:ps.getD 0 0=3
 · have e:spY q ps=rwQ ((List.range 8).map λk=>(((k:Nat):Int):Rat)):=by
     unfold spY rwQ
     rw [if_neg h1,if_neg h2,if_pos h3,List.map_map]
     rfl
   refine ⟨by rw [e]; show (((List.range 8).map λk=>(((k:Nat):Int):Rat)).map frD).length<=1000; rw [List.length_map,List.length_map,List.length_range]; decide,λh=>?_⟩
   have:=(ln _ (by rw [<- e]; exact h)).2
   rw [List.length_map,List.length_range] at this
   omega
 by_cases h4:ps.getD 0 0=4
 · have e:spY q ps=.lst ((q.map frD).set (spI q ps) (spA ps)):=by
     unfold spY
     rw [if_neg h1,if_neg h2,if_neg h3,if_pos h4]
   refine ⟨by rw [e]; show ((q.map frD).set _ _).length<=1000; rw [List.length_set,List.length_map]; omega,λh=>?_⟩
   by_cases hl:spI q ps < q.length
   · have h':=h
     rw [e] at h'
     have h':(eK (.lst ((q.map frD).set (spI q ps) (spA ps))) && (((q.map frD).set (spI q ps) (spA ps)).map cV).all id)=true:=h'
     rw [Bool.and_eq_true,List.all_eq_true] at h'
     have hm:spA ps ∈ (q.map frD).set (spI q ps) (spA ps):=List.mem_set (by rw [List.length_map]; exact hl) _
     have hf:cV (spA ps)=true:=h'.2 _ (List.mem_map.mpr ⟨_,hm,rfl⟩)
     obtain ⟨q1,e1,e2⟩:=AI p3.1 p3.2 _ i25 hf
     have e1:spA ps=frD q1:=e1
     refine go (q.set (spI q ps) q1) ?_ (λz hz=>?_) h
     · rw [e,e1]
       unfold rwQ
       rw [List.map_set]
     · rcases List.mem_or_eq_of_mem_set hz with hz | hz
       · exact hq z hz
       · rw [hz]; exact e2
   · refine go q ?_ hq h
     rw [e,List.set_eq_of_length_le (by rw [List.length_map]; omega)]
     rfl
 by_cases h5:ps.getD 0 0=5
 · have e:spY q ps=.tup (q.map frD):=by
     unfold spY
     rw [if_neg h1,if_neg h2,if_neg h3,if_neg h4,if_pos h5]
   refine ⟨by rw [e]; exact Nat.zero_le _,λh=>?_⟩
   rw [e] at h
   exact nomatch (show false=true from h)
 by_cases h6:ps.getD 0 0=6
 · have e:spY q ps=spA ps:=by
     unfold spY
     rw [if_neg h1,if_neg h2,if_neg h3,if_neg h4,if_neg h5,if_pos h6]
   refine ⟨by rw [e]; exact Nat.le_trans (yO _ i25) (by decide),λh=>?_⟩
   have e':spA ps=rwQ [1]:=rw_an _ i25 (by rw [e] at h; exact h)
   exact go [1] (e.trans e') (λz hz=>by rw [List.mem_singleton.mp hz]; exact w5) h
 · have e:spY q ps=rwQ q:=by
     unfold spY
     rw [if_neg h1,if_neg h2,if_neg h3,if_neg h4,if_neg h5,if_neg h6]
   exact ⟨by rw [e]; show (q.map frD).length<=1000; rw [List.length_map]; omega,go q e hq⟩
section
variable {P:Program} {w:World} {K:PySem.W.Frag} {mg:Str->Option Value} {base:Heap} {k:Nat} {f:Addr} {fd:FuncData} {qual:Str}
end
noncomputable def tlB (kd:Nat):Int:=if kd=0 then 114 else if kd=1 then 5 else if kd=2 then 60 else 2 * 10 ^ 40 * 10 ^ 40
noncomputable def tlP (c:Int) (n kd:Nat):List Int:=nums c (List.replicate n (tlB kd))
noncomputable def tlM (c:Int) (R C kd:Nat):List (List Rat):=(List.range R).map λi=>(List.range C).map λj=>nmQ kd ((tlP c (R * C) kd).getD (C * i + j) 0)
theorem Aa {kd:Nat} (h:kd < 4):atI [D.int 114,.int 5,.int 60,.int (2 * 10 ^ 40 * 10 ^ 40)] (kd:Int)=some (.int (tlB kd)):=by
 rcases (by omega:kd=0\/kd=1\/kd=2\/kd=3) with rfl | rfl | rfl | rfl <;> rfl
theorem xJ {kd:Nat}:0 < tlB kd/\aE (tlB kd):=by
 unfold tlB
 split
 · exact nJ (by decide) (by decide)
 · split
   · exact nJ (by decide) (by decide)
   · split
     · exact nJ (by decide) (by decide)
     · exact ⟨by decide,(show Bd 280 ((2:Int) * 10 ^ 40 * 10 ^ 40) by unfold Bd; decide +kernel).aE (by decide) (by decide)⟩
theorem yY {c:Int} {R C kd:Nat} (h1:1<=R) (h2:R<=7) (h3:1<=C) (h4:C<=7):Tq R C (tlM c R C kd):=⟨h1,h2,h3,h4,by simp [tlM],λr hr=>by
 unfold tlM at hr
 obtain ⟨i,_,rfl⟩:=List.mem_map.mp hr
 simp⟩
theorem xp {c:Int} {R C kd:Nat}:∀ r ∈ tlM c R C kd,∀ x ∈ r,Qs (kD kd) (kV kd) x:=λr hr x hx=>by
 unfold tlM at hr
 obtain ⟨i,_,rfl⟩:=List.mem_map.mp hr
 obtain ⟨j,_,rfl⟩:=List.mem_map.mp hx
 exact wK _
noncomputable def iG (ds:List D) (r:Sl):Prop:=∃ (c:Int) (R C kd:Nat),ds=[.int c,.int (R:Nat),.int (C:Nat),.int (kd:Nat)]/\R<=7/\C<=7/\kd < 4/\r=.o ((tlM c R C kd).map rwQ)
section
variable {P:Program} {w:World} {K:PySem.W.Frag} {mg:Str->Option Value} {base:Heap} {k:Nat} {f:Addr} {fd:FuncData} {qual:Str}
set_option maxHeartbeats 4000000 in
theorem oQ (F:Fun K "_law_table" qual (top 73) f fd) (hb:∀ x ∈ aj,mg x=none) (c_l_numbers:Cal P w K mg base k "_law_numbers" b8) (c_l_number:Cal P w K mg base k "_law_number" eV):aJ P w K mg base CX0 (k + 1) f fd ["_law_cell_here","_law_many","_law_wide","_law_kind"] (spD K iG):=by
 refine fnD F jP hb (by rintro _ _ ⟨_,_,_,_,rfl,_⟩; rfl) ?_
 rintro _ _ ⟨c,R,C,kd,rfl,r7,c7,k4,rfl⟩ cdv A outer s H E b
 have nd:=jP.nd
 have rc:R * C<=49:=Nat.mul_le_mul r7 c7
 have eRC:(R:Int) * (C:Int)=((R * C:Nat):Int):=by rw [Int.natCast_mul]
 refine av 4 nd (aQ (aH (br (ae af (ae af (ae af (ae (aA (aA af (aA af af (gh ⟨by decide,by decide,by decide⟩)) (bC (mkL (by decide)))) (aA af af (gh ⟨by decide,by decide,by decide⟩)) (bC m40)) ah)))))) (aa 3) (aO (Aa k4))) ?_
 refine av 5 nd (aH (x_call b c_l_numbers (ae (aa 0) (ae (aH (bH (cmp 0 (f:=λ_=>.int (tlB kd)) b (eG (n:=((R * C:Nat):Int)) b (by rw [<- eRC]; exact aA (aa 1) (aa 2) (bC (mkL (by omega)))) (by omega) (by omega)) dr (by rw [ay]; omega) λi hi s0 H0 fp=>(aa 1)))) ah)) ⟨c,List.replicate (R * C) (tlB kd),?_,?_,?_,rfl⟩)) ?_
 · rw [ay,Int.toNat_natCast,List.map_replicate]
   refine congrArg (λl=>[D.int c,D.lst l]) (List.ext_getElem (by simp) λi h1 h2=>by simp)
 · rw [List.length_replicate]; omega
 · intro x hx
   rw [(List.mem_replicate.mp hx).2]
   exact xJ
 have lp:(tlP c (R * C) kd).length=R * C:=by unfold tlP; rw [ig,List.length_replicate]
 refine ax (bH (cmp 0 (f:=λi=>rwQ ((List.range C).map λj=>nmQ kd ((tlP c (R * C) kd).getD (C * i + j) 0))) b (eG b (aa 1) (by omega) (by omega)) dr (by rw [ay]; omega) λi hi s0 H0 fp=>?_)) ?_
 · rw [ay,Int.toNat_natCast] at hi
   refine aH (bH (cmp 0 (f:=λj=>frD (nmQ kd ((tlP c (R * C) kd).getD (C * i + j) 0))) (b.comp s0 H0 _ fp) (eG (b.comp s0 H0 _ fp) (aa 3) (by omega) (by omega)) dr (by rw [ay]; omega) λj hj s1 H1 fp1=>?_)) ?_
   · rw [ay,Int.toNat_natCast] at hj
     have h1:C * i + j < R * C:=by
       have:C * (i + 1)<=C * R:=Nat.mul_le_mul_left _ (by omega)
       rw [Nat.mul_succ,Nat.mul_comm C R] at this
       omega
     have e:(C:Int) * (i:Int) + (j:Int)=((C * i + j:Nat):Int):=by rw [Int.natCast_add,Int.natCast_mul]
     refine x_call ((b.comp s0 H0 _ fp).comp s1 H1 _ fp1) c_l_number (ae (aa 2) (ae (aQ (aa 3) (aA (aA (aa 4) (aa 1) (bC (mkL (by omega)))) (aa 0) bj) (aO ?_)) ah)) ⟨kd,_,rfl,k4,rfl⟩
     rw [e]
     exact atR (show C * i + j < (tlP c (R * C) kd).length by rw [lp]; exact h1)
   · rw [ay,Int.toNat_natCast]
     refine congrArg (λl=>some (D.lst l)) ?_
     rw [List.map_map]
     rfl
 · unfold tlM
   rw [ay,Int.toNat_natCast,List.map_map]
   rfl
end
theorem we {m n k:Nat} {ls c:List Int}:(ls,c) ∈ kys m n k ↔ ∃ s,s < k/\ls ∈ chs m (s + 1)/\c ∈ chs n (s + 1):=by
 unfold kys ky1
 constructor
 · intro h
   obtain ⟨s,hs,h⟩:=List.mem_flatMap.mp h
   obtain ⟨l,hl,h⟩:=List.mem_flatMap.mp h
   obtain ⟨d,hd,e⟩:=List.mem_map.mp h
   cases e
   exact ⟨s,List.mem_range.mp hs,hl,hd⟩
 · rintro ⟨s,hs,h1,h2⟩
   exact List.mem_flatMap.mpr ⟨s,List.mem_range.mpr hs,List.mem_flatMap.mpr ⟨ls,h1,List.mem_map.mpr ⟨c,h2,rfl⟩⟩⟩
noncomputable def e7 (ds:List D) (r:Sl):Prop:=∃ (m n:Nat) (M:List (List Rat)),ds=[tbQ M]/\Tq m n M/\(∀ r ∈ M,∀ x ∈ r,Qs 3 9 x)/\fuO (whM M (M.map scL)) m n 0=none/\r=.d .non
theorem u0 {R C:Nat} {M:List (List Rat)} {rs cs:List Int} (t:Tq R C M) (q:∀ r ∈ M,∀ x ∈ r,Qs 3 9 x) (e:fuO (whM M (M.map scL)) R C 0=some (rs,cs)):∃ xs,eD [tbQ M] (.o xs):=by
 have r7:=t.r7
 have c7:=t.c7
 have h1:(rs,cs) ∈ kys R C (min R C):=by
   unfold fuO at e
   obtain ⟨p,hp,e⟩:=List.mem_map.mp (List.mem_of_find?_eq_some e)
   rw [<- e]
   exact (qj hp).1
 obtain ⟨s,hs,m1,m2⟩:=we.mp h1
 have o1:=eQ R (s + 1) rs m1
 have o2:=eQ C (s + 1) cs m2
 have z:∀ a b:Nat,a<=7->b<=7->9 + a * (9 + (1 + a * 3) + 3) + (1 + b * 3)<=8999:=λa b ha hb=>by
   have h1:a * (9 + (1 + a * 3) + 3)<=7 * (9 + (1 + 7 * 3) + 3):=Nat.mul_le_mul ha (by omega)
   omega
 exact ⟨_,R,C,s + 1,3,9,M,rs,cs,rfl,⟨t,q,o1,o2,by omega,by omega,by omega,by omega⟩,e,z _ _ (by omega) c7,rfl⟩
section
variable {P:Program} {w:World} {K:PySem.W.Frag} {mg:Str->Option Value} {base:Heap} {k:Nat} {f:Addr} {fd:FuncData} {qual:Str}
theorem nB (F:Fun K "against" qual (top 63) f fd) (hb:∀ x ∈ aj,mg x=none) (c_first_below:Cal P w K mg base k "first_below" cH):aJ P w K mg base CX0 (k + 1) f fd ["table"] (spD K e7):=by
 refine fnD F cA hb (by rintro _ _ ⟨_,_,_,rfl,_⟩; rfl) ?_
 rintro _ _ ⟨m,n,M,rfl,t,hq,hf,rfl⟩ cdv A outer s H E b
 have nd:=cA.nd
 have n7:=t.c7
 refine av 1 nd (s:=fuS none) (by rw [<- hf]; exact x_call b c_first_below (ae (aa 0) ah) ⟨m,n,3,9,M,rfl,t,hq,by omega,rfl⟩) ?_
 exact aY (aF (aa 1) gj (pN (o:=none))) (λ_=>ax gj rfl) λh=>(by have h:true=false:=h; cases h)
end
noncomputable def duW (n:Nat) (no:Bool) (y:D) (C:Nat):Str:=if 2 < n/\no=true then ("NoTable" : Str) else if n < 5/\bx y=false then ("NoRow" : Str) else if (n=3\/n=4)/\eO y ≠ C then ("NoFit" : Str) else ("" : Str)
noncomputable def lI (ds:List D) (r:Sl):Prop:=∃ (n R C:Nat) (M:List (List Rat)) (x y:D) (no:Bool),ds=[.int (n:Nat),x,y,.bl no]/\n < 6/\eO y<=1000/\(no=false->x=tbQ M/\Tq R C M)/\r=.d (.str (duW n no y C))
section
variable {P:Program} {w:World} {K:PySem.W.Frag} {mg:Str->Option Value} {base:Heap} {k:Nat} {f:Addr} {fd:FuncData} {qual:Str}
theorem ub (F:Fun K "_law_due" qual (top 83) f fd) (hb:∀ x ∈ aj,mg x=none) (c_l_is_row:Cal P w K mg base k "_law_is_row" gw):aJ P w K mg base CX0 (k + 1) f fd ["_law_what","_law_table_here","_law_row_here","_law_none"] (spD K lI):=by
 refine fnD F mY hb (by rintro _ _ ⟨_,_,_,_,_,_,_,rfl,_⟩; rfl) ?_
 rintro _ _ ⟨n,R,C,M,x,y,no,rfl,n6,ly,hx,rfl⟩ cdv A outer s H E b
 have nd:=mY.nd
 unfold duW
 refine aY (PW.pt (lb (aF (aa 0) af mW) λh=>(jH (bo (aa 3))))) (λh=>?_) λh=>?_
 · have h:(decide (((n:Nat):Int) > 2) && no)=true:=h
   rw [Bool.and_eq_true] at h
   have h1:=of_decide_eq_true h.1
   rw [if_pos ⟨by omega,h.2⟩]
   exact ax a8 rfl
 have h:(decide (((n:Nat):Int) > 2) && no)=false:=h
 have hn:¬ (2 < n/\no=true):=λ⟨z1,z2⟩=>by
   rw [decide_eq_true (show ((n:Nat):Int) > 2 by omega),z2] at h
   cases h
 rw [if_neg hn]
 refine aY (PW.pt (lb (aF (aa 0) af pv) λh=>(jH (bB (bo (x_call b c_l_is_row (ae (aa 2) ah) ⟨y,rfl,ly,rfl⟩)))))) (λh=>?_) λh=>?_
 · have h:(decide (((n:Nat):Int) < 5) && !bx y)=true:=h
   rw [Bool.and_eq_true] at h
   have h1:=of_decide_eq_true h.1
   rw [if_pos ⟨by omega,AH h.2⟩]
   exact ax a8 rfl
 have h:(decide (((n:Nat):Int) < 5) && !bx y)=false:=h
 have hr:¬ (n < 5/\bx y=false):=λ⟨z1,z2⟩=>by
   rw [decide_eq_true (show ((n:Nat):Int) < 5 by omega),z2] at h
   cases h
 rw [if_neg hr]
 by_cases z:n=3\/n=4
 · have hno:no=false:=by
     cases no
     · rfl
     · exact absurd ⟨by omega,rfl⟩ hn
   obtain ⟨rfl,t⟩:=hx hno
   have hy:bx y=true:=by
     cases e:bx y
     · exact absurd ⟨by omega,e⟩ hr
     · rfl
   obtain ⟨ys,rfl⟩:=og hy
   have r1:=t.r1
   have e0:atI (M.map rwQ) 0=some (rwQ (M.getD 0 [])):=cR [] (i:=0) (by rw [t.len]; omega)
   have ei:(([3,4]:List Int).any λw=>decide (w=((n:Nat):Int)))=true:=by
     rcases z with rfl | rfl <;> rfl
   refine ax (aQ (z:=.str (if (n=3\/n=4)/\eO (.lst ys) ≠ C then ("NoFit" : Str) else ("" : Str))) (aH (br (ae a8 (ae a8 ah)))) (mZ b (ae (fb (d9 (aa 0) (cf (ae af (ae af ah))) (wG (ns:=[3,4]))) λh=>(ir (d9 (a5 b (ae (aa 2) ah) cX) (a5 b (ae (aQ (aa 1) af (aO e0)) ah) (eC (n:=C) (by rw [List.length_map]; exact t.at_ (by omega)))) gD))) ah) qH) (aO ?_)) rfl
   rw [ei]
   by_cases q:ys.length=C
   · have er:(if (n=3\/n=4)/\eO (.lst ys) ≠ C then ("NoFit" : Str) else ("" : Str)) = "":=if_neg (λw=>w.2 q)
     rw [er,decide_eq_true (show ((ys.length:Nat):Int)=(C:Nat) by omega)]
     rfl
   · have er:(if (n=3\/n=4)/\eO (.lst ys) ≠ C then ("NoFit" : Str) else ("" : Str)) = "NoFit":=if_pos ⟨z,q⟩
     rw [er,decide_eq_false (show ¬ ((ys.length:Nat):Int)=(C:Nat) by omega)]
     rfl
 · rw [if_neg (λw=>z w.1)]
   have ei:(([3,4]:List Int).any λw=>decide (w=((n:Nat):Int)))=false:=by
     have a3:decide ((3:Int)=(n:Nat))=false:=decide_eq_false (by omega)
     have a4:decide ((4:Int)=(n:Nat))=false:=decide_eq_false (by omega)
     simp only [List.any_cons,List.any_nil,a3,a4]
     rfl
   refine ax (aQ (z:=.str "") (aH (br (ae a8 (ae a8 ah)))) (mZ b (ae (fb (q:=true) (d9 (aa 0) (cf (ae af (ae af ah))) (wG (ns:=[3,4]))) λh=>(by rw [ei] at h; cases h)) ah) qH) (aO (by rw [ei]; rfl))) rfl
end
end K41
namespace Hy
open PySem PySem.Spec PyProof.Rows L2
open Ev (D Den au)
section
variable {P:Program} {w:World} {K:PySem.W.Frag} {h:Heap} {mg:Str->Option Value} {base:Heap} {x:Str} {st:Stmt} {f:Addr} {ps:List Str} {k:Nat} {Φ:List D->Nat->Prop} {cl:Nat->Addr}
theorem Dfn.kz (d:Dfn K x st f) (X:K.In h) (G:h.Ns mainGlobals mg) (b:BdA x st ps) (o:∀ fd,Fun K x x st f fd->aJ P w K mg base (Hx.CXe P w cl) k f fd ps (spX K cl Φ)):bV P w K mg base cl k x Φ:=by
 obtain ⟨fd,F,h1,h2,h3⟩:=d.fn X G b
 exact ⟨f,fd,ps,o fd F,h1,h2,h3⟩
end
theorem pf {K:PySem.W.Frag} {C D:Addr} {dd:Option Addr} {cd:ClassData} {sl:Array (Option Value)} {b:Bool} (h:(Value.ref C == Value.ref D)=false) (e:K.lookup D=some ⟨.type "type",dd,.cls cd,sl⟩) (s:PySem.W.subIn K (.ref C) (.ref D)=some b):PySem.W.kitCls K (.ref C) (.ref D)=some b/\PySem.W.kitOne K (.ref C) (.ref D)=some b:=by
 have z:PySem.W.kitCls K (.ref C) (.ref D)=some b:=by
   have c:PySem.W.clsIn K D=some cd:=by unfold PySem.W.clsIn; rw [e]
   have t:PySem.W.typeIn K (.ref D)=some (.type "type"):=by show (K.lookup D).map _=_; rw [e]; rfl
   show (if ((PySem.W.clsIn K D).isSome && PySem.W.typeIn K (.ref D) == some (.type "type"))=true then PySem.W.subIn K (.ref C) (.ref D) else none)=some b
   rw [if_pos (by rw [c,t]; simp)]
   exact s
 refine ⟨z,?_⟩
 unfold PySem.W.kitOne
 rw [if_neg (by rw [h]; decide)]
 exact z
theorem sx {K:PySem.W.Frag} {C:Addr}:PySem.W.kitOne K (.ref C) (.ref C)=some true:=by
 unfold PySem.W.kitOne
 rw [if_pos (by simp)]
theorem vj {K:PySem.W.Frag} {C:Addr} (s:PySem.W.subIn K (.ref C) (.type "ValueError")=some true):PySem.W.kitOne K (.ref C) (.type "ValueError")=some true:=by
 unfold PySem.W.kitOne
 rw [if_neg (by simp)]
 show (if PySem.W.kitMeta "ValueError" = true then PySem.W.subIn K (.ref C) (.type "ValueError") else none)=some true
 rw [if_pos (by decide +kernel)]
 exact s
theorem xW {K:PySem.W.Frag} {C S:Addr} (h:PySem.W.subIn K (.ref S) (.type "BaseException")=some true) (k:PySem.W.kitCls K (.ref C) (.ref S)=some true):PySem.W.exmOne K (.ref C) (.ref S)=some true:=by
 unfold PySem.W.exmOne
 rw [if_pos (by rw [h]; rfl)]
 exact k
end Hy
namespace K41
open PySem PySem.Spec PyProof.Rows L2 Hy
open Ev (D Den au aG aE)
open PySem.W (nsIn subIn findIn mroIn specialIn takesIn)
noncomputable def vc (K:PySem.W.Frag) (SM:Addr):Prop:=∃ dd cd sl oN,K.lookup SM=some ⟨.type "type",dd,.cls cd,sl⟩/\K.lookup cd.ns=some oN/\Hx.nsO oN=true/\nsIn K cd.ns "__init__" = some none/\subIn K (.ref SM) (.type "BaseException")=some true
theorem vc.of {K:PySem.W.Frag} {SM:Addr} {dd:Option Addr} {cd:ClassData} {sl:Array (Option Value)} {oN:Obj} (a:K.lookup SM=some ⟨.type "type",dd,.cls cd,sl⟩) (b:K.lookup cd.ns=some oN) (c:Hx.nsO oN=true) (d:nsIn K cd.ns "__init__" = some none) (e:subIn K (.ref SM) (.type "BaseException")=some true):vc K SM:=⟨_,_,_,_,a,b,c,d,e⟩
structure rf (K:PySem.W.Frag) (SM C:Addr):Prop where
 obj:∃ nm q N bs hdct sn sub ab col dd k0 k1 k2 k3 k5 oN,K.lookup C=some (excClassObj nm q C N bs (.ref SM :: Hx.bmV) hdct sn sub ab col dd k0 k1 k2 k3 k5 "ValueError.__new__")/\K.lookup N=some oN/\Hx.nsO oN=true/\nsIn K N "__init__" = some none
 ga:findIn K (.ref C) "__getattribute__" = some (some (.builtin "BaseException.__getattribute__"))
 gb:findIn K (.ref C) "__getattr__" = some none
 gc:findIn K (.ref C) "__class__" = some (some (.builtin "object.__class__"))
 gd:mroIn K C (.type "object")=some true
 ge:mroIn K C (.type "BaseException")=some true
 sS:subIn K (.ref C) (.ref SM)=some true
 nx:(Value.ref C == Value.ref SM)=false
 sV:subIn K (.ref C) (.type "ValueError")=some true
theorem rf.of {K:PySem.W.Frag} {SM C N:Addr} {nm qn:Str} {bs sub:List Value} {hd ab:Bool} {sn:List Str} {col:Option Bool} {dd:Option Addr} {ka kb kc kd ke:Option Value} {oN:Obj} (w:K.lookup C=some (excClassObj nm qn C N bs (.ref SM :: Hx.bmV) hd sn sub ab col dd ka kb kc kd ke "ValueError.__new__")) (v:K.lookup N=some oN) (o:Hx.nsO oN=true) (i:nsIn K N "__init__" = some none)
   (ga:findIn K (.ref C) "__getattribute__" = some (some (.builtin "BaseException.__getattribute__"))) (gb:findIn K (.ref C) "__getattr__" = some none) (gc:findIn K (.ref C) "__class__" = some (some (.builtin "object.__class__"))) (gd:mroIn K C (.type "object")=some true) (ge:mroIn K C (.type "BaseException")=some true)
   (sS:subIn K (.ref C) (.ref SM)=some true) (nx:(Value.ref C == Value.ref SM)=false) (sV:subIn K (.ref C) (.type "ValueError")=some true):rf K SM C:=⟨⟨_,_,_,_,_,_,_,_,_,_,_,_,_,_,_,_,w,v,o,i⟩,ga,gb,gc,gd,ge,sS,nx,sV⟩
noncomputable def zS (K:PySem.W.Frag) (C:Addr):Prop:=∃ dd cd sl,K.lookup C=some ⟨.type "type",dd,.cls cd,sl⟩
inductive Tys (K:PySem.W.Frag):List Addr->Prop
 | nil:Tys K []
 | cons {C:Addr} {Cs:List Addr} {dd:Option Addr} {cd:ClassData} {sl:Array (Option Value)} (h:K.lookup C=some ⟨.type "type",dd,.cls cd,sl⟩) (r:Tys K Cs):Tys K (C :: Cs)
inductive Nss (K:PySem.W.Frag):List Str->List Addr->Prop
 | nil:Nss K [] []
 | cons {n:Str} {ns:List Str} {C:Addr} {Cs:List Addr} (h:nsIn K mainGlobals n=some (some (.ref C))) (r:Nss K ns Cs):Nss K (n :: ns) (C :: Cs)
inductive Off (K:PySem.W.Frag) (C:Addr):List Addr->Prop
 | nil:Off K C []
 | cons {D:Addr} {Ds:List Addr} (n:(Value.ref C == Value.ref D)=false) (s:subIn K (.ref C) (.ref D)=some false) (r:Off K C Ds):Off K C (D :: Ds)
theorem Tys.at_ {K:PySem.W.Frag}:∀ {Cs:List Addr} {i:Nat},Tys K Cs->i < Cs.length->zS K (Cs.getD i 0)
 | _ :: _,0,.cons h _,_=>⟨_,_,_,h⟩
 | _ :: _,i + 1,.cons _ r,h=>Tys.at_ (i:=i) r (Nat.lt_of_succ_lt_succ h)
theorem Nss.at_ {K:PySem.W.Frag}:∀ {ns:List Str} {Cs:List Addr} {i:Nat},Nss K ns Cs->i < Cs.length->nsIn K mainGlobals (ns.getD i "")=some (some (.ref (Cs.getD i 0)))
 | _,_ :: _,0,.cons h _,_=>h
 | _,_ :: _,i + 1,.cons _ r,h=>Nss.at_ (i:=i) r (Nat.lt_of_succ_lt_succ h)
theorem Off.at_ {K:PySem.W.Frag} {C:Addr}:∀ {Ds:List Addr} {i:Nat},Off K C Ds->i < Ds.length->(Value.ref C == Value.ref (Ds.getD i 0))=false/\subIn K (.ref C) (.ref (Ds.getD i 0))=some false
 | _ :: _,0,.cons n s _,_=>⟨n,s⟩
 | _ :: _,i + 1,.cons _ _ r,h=>Off.at_ (i:=i) r (Nat.lt_of_succ_lt_succ h)
theorem zJ {K:PySem.W.Frag} {h:Heap} {mg:Str->Option Value} {SM:Addr} {Cs:List Addr} {ns:List Str} {cs:List Nat} (X:K.In h) (G:h.Ns mainGlobals mg) (aS:nsIn K mainGlobals "SmoothError" = some (some (.ref SM))) (S:vc K SM) (zV:nsIn K mainGlobals "ValueError" = some none) (gG:specialIn K (.builtin "object.__class__") "__get__" = some (some (.builtin "getset_descriptor.__get__"))) (gT:takesIn K (.builtin "object.__class__")=some true) (N:Nss K ns Cs) (hn:∀ i,i < 19->wordOf i=ns.getD i "") (T:Tys K Cs) (hl:Cs.length=19)
   (R:∀ c ∈ cs,c < 19/\rf K SM (Cs.getD c 0)/\Off K (Cs.getD c 0) (Cs.take c)/\Off K (Cs.getD c 0) (Cs.drop (c + 1))):∃ cl,Cls K mg cl cs:=by
 obtain ⟨ddS,cdS,slS,oNS,lS,nS,oS,iS,bS⟩:=S
 refine ⟨λc=>Cs.getD c 0,λc hc=>(R c hc).1,⟨SM,PySem.W.mg_of X G aS,λc hc=>?_⟩,λc hc=>?_,λc hc i hi=>?_,λc hc=>vj (R c hc).2.1.sV,PySem.W.mg_none_of X G zV⟩
 · have r:=(R c hc).2.1
   obtain ⟨dd,cd,sl,w⟩:=T.at_ (i:=c) (by rw [hl]; exact (R c hc).1)
   exact ⟨⟨r.obj,⟨_,_,_,_,_,lS,nS,oS,iS⟩,⟨by unfold PySem.W.clsIn; rw [w]; rfl,r.ga,r.gb,r.gc,gG,gT,r.gd,r.ge⟩⟩,xW bS (pf r.nx lS r.sS).1⟩
 · have:=N.at_ (i:=c) (by rw [hl]; exact hc)
   rw [<- hn c hc] at this
   exact PySem.W.mg_of X G this
 · obtain ⟨c9,r,o1,o2⟩:=R c hc
   obtain ⟨dd,cd,sl,w⟩:=T.at_ (i:=i) (by rw [hl]; exact hi)
   rcases Nat.lt_trichotomy c i with z | z | z
   · obtain ⟨n,s⟩:=o2.at_ (i:=i - (c + 1)) (by rw [List.length_drop,hl]; omega)
     have e:(Cs.drop (c + 1)).getD (i - (c + 1)) 0=Cs.getD i 0:=by
       rw [List.getD,List.getD,List.getElem?_drop,show c + 1 + (i - (c + 1))=i by omega]
     rw [e] at n s
     rw [decide_eq_false (by omega)]
     exact (pf n w s).2
   · subst z
     rw [decide_eq_true rfl]
     exact sx
   · obtain ⟨n,s⟩:=o1.at_ (i:=i) (by rw [List.length_take,hl]; omega)
     have e:(Cs.take c).getD i 0=Cs.getD i 0:=by
       rw [List.getD,List.getD,List.getElem?_take,if_pos z]
     rw [e] at n s
     rw [decide_eq_false (by omega)]
     exact (pf n w s).2
section
variable {P:Program} {w:World} {K:PySem.W.Frag} {mg:Str->Option Value} {base:Heap} {k:Nat} {f:Addr} {fd:FuncData} {qual:Str}
end
end K41
namespace K41
open PySem PySem.Spec PyProof.Rows L2 Hy
open Ev (D Den au aG aE)
noncomputable def gu (ds:List D) (r:Sl):Prop:=∃ (n R C:Nat) (M:List (List Rat)) (x y:D) (no:Bool),ds=[.int (n:Nat),x,y]/\n < 6/\(no=false->x=tbQ M/\Tq R C M/\∀ r ∈ M,∀ q ∈ r,Qs 3 9 q)/\(no=true->mh x=false)/\(bx y=true->∃ q:List Rat,y=rwQ q/\1<=q.length/\q.length<=7/\∀ z ∈ q,Qs 133 133 z)/\r=.d (.str (duW n no y C))
theorem mx6:∀ w,w < 6->(if (((w:Nat):Int) - 2) > (0:Int) then (((w:Nat):Int) - 2) else (0:Int))=((w - 2:Nat):Int):=λw _=>by split <;> omega
theorem yb {X:Cx} {xs:List D}:cQ X (compareOp .Is) (.lst xs) .non (.bl false):=⟨_,pj,λ_ v w H Q _ d1 d2 k=>by
 cases d2
 cases d1
 exact ⟨rfl,by rw [decide_eq_false (by intro z; cases z)]; exact k _ H (aq.refl _) .bl⟩⟩
section
variable {P:Program} {w:World} {K:PySem.W.Frag} {mg:Str->Option Value} {base:Heap} {k:Nat} {f:Addr} {fd:FuncData} {qual:Str}
set_option maxHeartbeats 4000000 in
theorem nR {cl:Nat->Addr} {cs:List Nat} {fw:Addr} (F:Fun K "_law_answer" qual (top 82) f fd) (hb:∀ x ∈ aj,mg x=none) (Z:Cls K mg cl cs) (hcs:∀ c,c=1\/c=4\/c=9->c ∈ cs) (hm:mg "_law_word" = some (.ref fw)) (hk:PySem.W.keepIn K (.ref fw)=true) (hW:∀ c ∈ cs,eL P w K mg base cl k fw c) (c_least_changes:Cal P w K mg base k "least_changes" bD) (c_most_changes:Cal P w K mg base k "most_changes" cq) (c_first_sign:Cal P w K mg base k "first_sign" cv) (c_behind:Cal P w K mg base k "behind" fN) (c_tells_against:Cal P w K mg base k "tells_against" bE) (c_against:Cal P w K mg base k "against" eD) (c_against0:Cal P w K mg base k "against" e7) (x_least_changes:bV P w K mg base cl k "least_changes" cU) (x_most_changes:bV P w K mg base cl k "most_changes" cU) (x_first_sign:bV P w K mg base cl k "first_sign" cU) (x_behind:bV P w K mg base cl k "behind" nc) (x_tells_against:bV P w K mg base cl k "tells_against" nc) (x_against:bV P w K mg base cl k "against" fh):aJ P w K mg base CX0 (k + 1) f fd ["_law_what","_law_table_here","_law_row_here"] (spD K gu):=by
 obtain ⟨S,hS,hx⟩:=Z.ex
 refine fnD F iX hb (by rintro _ _ ⟨_,_,_,_,_,_,_,rfl,_⟩; rfl) ?_
 have nd:=iX.nd
 rintro _ _ ⟨n0,R,C,M,x,y,no,rfl,w6,hx1,hx2,hy,rfl⟩ cdv A outer s H E b
 have ew:∀ j:Nat,decide (((n0:Nat):Int)=((j:Nat):Int))=true->n0=j:=λj h=>by have:=of_decide_eq_true h; omega
 have en:∀ j:Nat,decide (((n0:Nat):Int)=((j:Nat):Int))=false->n0 ≠ j:=λj h e=>by have:=of_decide_eq_false h; omega
 have raise:∀ c,(c=1\/c=4\/c=9)->(n0 < 3->cU [y] c)->(n0=3\/n0=4->nc [x,y] c)->(n0=5->fh [x] c)->duW n0 no y C=wordOf c->PSs (Xc P w K mg base ["_law_what","_law_table_here","_law_row_here","_law_found","_law_e","_law_kinds"] qual (top 82) f cdv A outer s H E) (a7 (top 82)) (dS K [.d (.int (n0:Nat)),.d x,.d y,.un,.un,.un] { nx:=λ_=>Sl.d (.str (duW n0 no y C))=.d .non,rt:=λr'=>r'=.d (.str (duW n0 no y C)) }):=λc hc q0 q3 q5 e=>by
   have kc:=hcs c hc
   refine yq b nd (λpins E Ex ps=>?_) (by rw [e]) hS (hx c kc).2 hm hk (hW c kc) 4
   refine fU (M:=λ_=>False) (aF (aa 0) af bJ) (λh=>?_) (λg0=>?_) λ_ z=>z.elim
   · exact fB 3 nd (bf (c:=c) (C:=false) b.room ps x_least_changes (ae (aa 2) ah) (q0 (by have:=ew 0 h; omega)))
   refine fU (M:=λ_=>False) (aF (aa 0) af bJ) (λh=>?_) (λg1=>?_) λ_ z=>z.elim
   · exact fB 3 nd (bf (c:=c) (C:=false) b.room ps x_most_changes (ae (aa 2) ah) (q0 (by have:=ew 1 h; omega)))
   refine fU (M:=λ_=>False) (aF (aa 0) af bJ) (λh=>?_) (λg2=>?_) λ_ z=>z.elim
   · exact fB 3 nd (bf (c:=c) (C:=false) b.room ps x_first_sign (ae (aa 2) ah) (q0 (by have:=ew 2 h; omega)))
   refine fU (M:=λ_=>False) (aF (aa 0) af bJ) (λh=>?_) (λg3=>?_) λ_ z=>z.elim
   · exact fB 3 nd (bf (c:=c) (C:=false) b.room ps x_behind (ae (aa 1) (ae (aa 2) ah)) (q3 (by have:=ew 3 h; omega)))
   refine fU (M:=λ_=>False) (aF (aa 0) af bJ) (λh=>?_) (λg4=>?_) λ_ z=>z.elim
   · exact fB 3 nd (bf (c:=c) (C:=false) b.room ps x_tells_against (ae (aa 1) (ae (aa 2) ah)) (q3 (by have:=ew 4 h; omega)))
   have n5:n0=5:=by
     have:=en 0 g0
     have:=en 1 g1
     have:=en 2 g2
     have:=en 3 g3
     have:=en 4 g4
     omega
   exact fB 3 nd (bf (c:=c) (C:=false) b.room ps x_against (ae (aa 1) ah) (q5 n5))
 have good:∀ z:D,(n0=0->∃ s,bD [y] s/\fzD s=some z)->(n0=1->∃ s,cq [y] s/\fzD s=some z)->(n0=2->∃ s,cv [y] s/\fzD s=some z)->(n0=3->∃ s,fN [x,y] s/\fzD s=some z)->(n0=4->∃ s,bE [x,y] s/\fzD s=some z)->(n0=5->(∃ s,eD [x] s/\fzD s=some z/\∃ zs,z=.lst zs)\/(e7 [x] (.d .non)/\z=.non))->(n0 < 5->([cw .int z,cw .list z,cw .bool z,cw .list z]:List Bool).getD (n0 - 2) false=true)->duW n0 no y C = "" -> PSs (Xc P w K mg base ["_law_what","_law_table_here","_law_row_here","_law_found","_law_e","_law_kinds"] qual (top 82) f cdv A outer s H E) (a7 (top 82)) (dS K [.d (.int (n0:Nat)),.d x,.d y,.un,.un,.un] { nx:=λ_=>Sl.d (.str (duW n0 no y C))=.d .non,rt:=λr'=>r'=.d (.str (duW n0 no y C)) }):=λz q0 q1 q2 q3 q4 q5 ht e=>by
   refine yh (M:=λτ=>τ=[.d (.int (n0:Nat)),.d x,.d y,.d z,.un,.un]) nd (λpins=>?_) hS 4 λτ eτ=>?_
   · refine fU (M:=λτ=>τ=[.d (.int (n0:Nat)),.d x,.d y,.d z,.un,.un]) (aF (aa 0) af bJ) (λh=>?_) (λg0=>?_) λ_ e=>aR e
     · obtain ⟨s,f1,f2⟩:=q0 (ew 0 h)
       exact av 3 nd (aH (x_call (b.xn pins) c_least_changes (ae (aa 2) ah) f1) f2) (aR rfl)
     refine fU (M:=λτ=>τ=[.d (.int (n0:Nat)),.d x,.d y,.d z,.un,.un]) (aF (aa 0) af bJ) (λh=>?_) (λg1=>?_) λ_ e=>aR e
     · obtain ⟨s,f1,f2⟩:=q1 (ew 1 h)
       exact av 3 nd (aH (x_call (b.xn pins) c_most_changes (ae (aa 2) ah) f1) f2) (aR rfl)
     refine fU (M:=λτ=>τ=[.d (.int (n0:Nat)),.d x,.d y,.d z,.un,.un]) (aF (aa 0) af bJ) (λh=>?_) (λg2=>?_) λ_ e=>aR e
     · obtain ⟨s,f1,f2⟩:=q2 (ew 2 h)
       exact av 3 nd (aH (x_call (b.xn pins) c_first_sign (ae (aa 2) ah) f1) f2) (aR rfl)
     refine fU (M:=λτ=>τ=[.d (.int (n0:Nat)),.d x,.d y,.d z,.un,.un]) (aF (aa 0) af bJ) (λh=>?_) (λg3=>?_) λ_ e=>aR e
     · obtain ⟨s,f1,f2⟩:=q3 (ew 3 h)
       exact av 3 nd (aH (x_call (b.xn pins) c_behind (ae (aa 1) (ae (aa 2) ah)) f1) f2) (aR rfl)
     refine fU (M:=λτ=>τ=[.d (.int (n0:Nat)),.d x,.d y,.d z,.un,.un]) (aF (aa 0) af bJ) (λh=>?_) (λg4=>?_) λ_ e=>aR e
     · obtain ⟨s,f1,f2⟩:=q4 (ew 4 h)
       exact av 3 nd (aH (x_call (b.xn pins) c_tells_against (ae (aa 1) (ae (aa 2) ah)) f1) f2) (aR rfl)
     have n5:n0=5:=by
       have:=en 0 g0
       have:=en 1 g1
       have:=en 2 g2
       have:=en 3 g3
       have:=en 4 g4
       omega
     rcases q5 n5 with ⟨s,f1,f2,_⟩ | ⟨f1,rfl⟩
     · exact av 3 nd (aH (x_call (b.xn pins) c_against (ae (aa 1) ah) f1) f2) (aR rfl)
     · exact av 3 nd (x_call (b.xn pins) c_against0 (ae (aa 1) ah) f1) (aR rfl)
   · subst eτ
     have last:∀ zz:(([cw .int z,cw .list z,cw .bool z,cw .list z]:List Bool).getD (n0 - 2) false=true),PSs (Xc P w K mg base ["_law_what","_law_table_here","_law_row_here","_law_found","_law_e","_law_kinds"] qual (top 82) f cdv A outer s H E) ((a7 (top 82)).drop 2) (dS K [.d (.int (n0:Nat)),.d x,.d y,.d z,.un,.un] { nx:=λ_=>Sl.d (.str (duW n0 no y C))=.d .non,rt:=λr'=>r'=.d (.str (duW n0 no y C)) }):=λzz=>by
       have hz:atI [D.bl (cw .int z),.bl (cw .list z),.bl (cw .bool z),.bl (cw .list z)] (if (((n0:Nat):Int) - 2) > (0:Int) then (((n0:Nat):Int) - 2) else (0:Int))=some (.bl true):=by
         rw [mx6 n0 w6]
         refine aT ?_
         rcases (by omega:n0 - 2=0\/n0 - 2=1\/n0 - 2=2\/n0 - 2=3) with q | q | q | q <;> rw [q] at zz ⊢ <;> exact congrArg (λb=>some (D.bl b)) zz
       refine av 5 nd (aH (br (ae (cx .int b (aa 3)) (ae (cx .list b (aa 3)) (ae (cx .bool b (aa 3)) (ae (cx .list b (aa 3)) ah)))))) ?_
       refine ax (aQ (aH (br (ae a8 (ae a8 ah)))) (mZ b (ae (aQ (aa 5) (a5 b (ae af (ae (aA (aa 0) af fj) ah)) (wI b.calm)) (aO hz)) ah) qH) (aO (z:=.str "") rfl)) ?_
       rw [e]
     by_cases n5:n0=5
     · rcases q5 n5 with ⟨s,f1,f2,zs,rfl⟩ | ⟨f1,rfl⟩
       · refine dZ (t:=decide (((n0:Nat):Int)=5) && false) (PW.pt (lb (aF (aa 0) af bJ) λh=>(jH (aF (aa 3) gj yb)))) (Bool.and_false _) (last ?_)
         rw [n5]
         rfl
       · refine aY (t:=decide (((n0:Nat):Int)=5) && true) (PW.pt (lb (aF (aa 0) af bJ) λh=>(jH (aF (aa 3) gj (pN (o:=none)))))) (λ_=>ax a8 (by rw [e])) λh=>?_
         rw [decide_eq_true (show ((n0:Nat):Int)=5 by omega)] at h
         cases h
     · have d5:decide (((n0:Nat):Int)=5)=false:=decide_eq_false (by omega)
       exact dZ (t:=decide (((n0:Nat):Int)=5) && true) (PW.pt (lb (aF (aa 0) af bJ) λh=>(by rw [d5] at h; cases h))) (by rw [d5]; rfl) (last (ht (by omega)))
 have smallG:∀ q:List Rat,y=rwQ q->1<=q.length->q.length<=7->n0 < 3->duW n0 no y C = "" -> PSs (Xc P w K mg base ["_law_what","_law_table_here","_law_row_here","_law_found","_law_e","_law_kinds"] qual (top 82) f cdv A outer s H E) (a7 (top 82)) (dS K [.d (.int (n0:Nat)),.d x,.d y,.un,.un,.un] { nx:=λ_=>Sl.d (.str (duW n0 no y C))=.d .non,rt:=λr'=>r'=.d (.str (duW n0 no y C)) }):=λq eq l1 l7 n3 du=>by
   subst eq
   rcases (by omega:n0=0\/n0=1\/n0=2) with n4 | n4 | n4
   · exact good (.int _) (λ_=>⟨_,⟨q,rfl,l1,l7,rfl⟩,rfl⟩) (λz=>by omega) (λz=>by omega) (λz=>by omega) (λz=>by omega) (λz=>by omega) (λ_=>by rw [n4]; rfl) du
   · exact good (.int _) (λz=>by omega) (λ_=>⟨_,⟨q,rfl,l1,l7,rfl⟩,rfl⟩) (λz=>by omega) (λz=>by omega) (λz=>by omega) (λz=>by omega) (λ_=>by rw [n4]; rfl) du
   · exact good (.int _) (λz=>by omega) (λz=>by omega) (λ_=>⟨_,⟨q,rfl,l1,l7,rfl⟩,rfl⟩) (λz=>by omega) (λz=>by omega) (λz=>by omega) (λ_=>by rw [n4]; rfl) du
 by_cases hn:no=true
 · subst hn
   have nt:=hx2 rfl
   by_cases n3:n0 < 3
   · by_cases hr:bx y=true
     · obtain ⟨q,rfl,l1,l7,qs⟩:=hy hr
       have du:duW n0 true (rwQ q) C = "":=by
         unfold duW
         rw [if_neg (λz=>by omega),if_neg (λz=>by rw [hr] at z; exact absurd z.2 (by decide)),if_neg (λz=>by omega)]
       exact smallG q rfl l1 l7 n3 du
     · have hr:bx y=false:=by simpa using hr
       exact raise 9 (.inr (.inr rfl)) (λ_=>⟨y,rfl,hr,rfl⟩) (λz=>by omega) (λz=>by omega) (by unfold duW; rw [if_neg (λz=>by omega),if_pos ⟨by omega,hr⟩]; rfl)
   · exact raise 1 (.inl rfl) (λz=>by omega) (λ_=>⟨x,y,rfl,.inl ⟨nt,rfl⟩⟩) (λ_=>⟨x,rfl,nt,rfl⟩) (by unfold duW; rw [if_pos ⟨by omega,rfl⟩]; rfl)
 · have hn:no=false:=by simpa using hn
   subst hn
   obtain ⟨rfl,t,hq⟩:=hx1 rfl
   have r7:=t.r7
   have c1:=t.c1
   have c7:=t.c7
   by_cases n5:n0=5
   · have du:duW n0 false y C = "":=by
       unfold duW
       rw [if_neg (λz=>absurd z.2 (by decide)),if_neg (λz=>by omega),if_neg (λz=>by omega)]
     cases ef:fuO (whM M (M.map scL)) R C 0 with
     | none=>exact good .non (λz=>by omega) (λz=>by omega) (λz=>by omega) (λz=>by omega) (λz=>by omega) (λ_=>.inr ⟨⟨R,C,M,rfl,t,hq,ef,rfl⟩,rfl⟩) (λz=>by omega) du
     | some p=>
       obtain ⟨rs,cs'⟩:=p
       obtain ⟨xs,fa⟩:=u0 t hq ef
       exact good (.lst xs) (λz=>by omega) (λz=>by omega) (λz=>by omega) (λz=>by omega) (λz=>by omega) (λ_=>.inl ⟨_,fa,rfl,xs,rfl⟩) (λz=>by omega) du
   · by_cases hr:bx y=true
     · obtain ⟨q,rfl,l1,l7,qs⟩:=hy hr
       by_cases n3:n0 < 3
       · have du:duW n0 false (rwQ q) C = "":=by
           unfold duW
           rw [if_neg (λz=>absurd z.2 (by decide)),if_neg (λz=>by rw [hr] at z; exact absurd z.2 (by decide)),if_neg (λz=>by omega)]
         exact smallG q rfl l1 l7 n3 du
       · have lD:eO (rwQ q)=q.length:=List.length_map ..
         by_cases lq:q.length=C
         · have du:duW n0 false (rwQ q) C = "":=by
             unfold duW
             rw [if_neg (λz=>absurd z.2 (by decide)),if_neg (λz=>by rw [hr] at z; exact absurd z.2 (by decide)),if_neg (λz=>z.2 (by rw [lD,lq]))]
           have hq':∀ r ∈ M,∀ x ∈ r,Qs 133 133 x:=λr hr x hx=>(hq r hr x hx).mo (by decide) (by decide)
           rcases (by omega:n0=3\/n0=4) with n4 | n4
           · exact good (.lst _) (λz=>by omega) (λz=>by omega) (λz=>by omega) (λ_=>⟨_,⟨R,C,133,133,M,q,rfl,t,lq,hq',qs,by omega,by omega,by omega,rfl⟩,rfl⟩) (λz=>by omega) (λz=>by omega) (λ_=>by rw [n4]; rfl) du
           · exact good (.bl _) (λz=>by omega) (λz=>by omega) (λz=>by omega) (λz=>by omega) (λ_=>⟨_,⟨R,C,133,133,M,q,rfl,t,lq,hq',qs,by omega,by omega,by omega,rfl⟩,rfl⟩) (λz=>by omega) (λ_=>by rw [n4]; rfl) du
         · refine raise 4 (.inr (.inl rfl)) (λz=>by omega) (λ_=>⟨_,_,rfl,.inr ⟨R,C,M,rfl,t,.inr ⟨q,rfl,l1,l7,λz=>lq z.symm,rfl⟩⟩⟩) (λz=>by omega) ?_
           unfold duW
           rw [if_neg (λz=>absurd z.2 (by decide)),if_neg (λz=>by rw [hr] at z; exact absurd z.2 (by decide)),if_pos ⟨by omega,by rw [lD]; exact lq⟩]
           rfl
     · have hr:bx y=false:=by simpa using hr
       exact raise 9 (.inr (.inr rfl)) (λ_=>⟨y,rfl,hr,rfl⟩) (λz=>⟨_,y,rfl,.inr ⟨R,C,M,rfl,t,.inl ⟨hr,rfl⟩⟩⟩) (λz=>by omega) (by unfold duW; rw [if_neg (λz=>absurd z.2 (by decide)),if_pos ⟨by omega,hr⟩]; rfl)
end
theorem zC:∀ i,i < 25->i ≠ 16->mh ((anC 3).getD i .non)=false:=by decide +kernel
noncomputable def bs6:List Int:=[9,7,25,10 ^ 30,6,24]
theorem uF:∀ b ∈ bs6,0 < b/\aE b:=λb hb=>by
 have:b=10 ^ 30\/(0 < b/\b < 2 ^ 60):=by revert b; decide +kernel
 rcases this with rfl | h
 · exact ⟨by decide,(show Bd 100 ((10:Int) ^ 30) by unfold Bd; decide +kernel).aE (by decide) (by decide)⟩
 · exact nJ h.1 h.2
theorem six {ps:List Int} (h:ps.length=6):∃ p0 p1 p2 p3 p4 p5,ps=[p0,p1,p2,p3,p4,p5]:=by
 match ps,h with
 | [p0,p1,p2,p3,p4,p5],_=>exact ⟨p0,p1,p2,p3,p4,p5,rfl⟩
noncomputable def qQ (ds:List D) (r:Sl):Prop:=∃ ns:List Int,ns.length<=63/\ds=[.lst (ns.map .int)]/\r=.d (.bl true)
section
variable {P:Program} {w:World} {K:PySem.W.Frag} {mg:Str->Option Value} {base:Heap} {k:Nat} {f:Addr} {fd:FuncData} {qual:Str}
set_option maxHeartbeats 4000000 in
theorem yv (F:Fun K "law" qual (top 84) f fd) (hb:∀ x ∈ aj,mg x=none) (c_l_cell:Cal P w K mg base k "_law_cell" jj) (c_l_size:Cal P w K mg base k "_law_size" jy) (c_l_numbers:Cal P w K mg base k "_law_numbers" b8) (c_l_spoilt:Cal P w K mg base k "_law_spoilt" gI) (c_l_row:Cal P w K mg base k "_law_row" lF) (c_l_rest:Cal P w K mg base k "_law_rest" jv) (c_l_table:Cal P w K mg base k "_law_table" iG) (c_l_any:Cal P w K mg base k "_law_any" jc) (c_l_answer:Cal P w K mg base k "_law_answer" gu) (c_l_due:Cal P w K mg base k "_law_due" lI):aJ P w K mg base CX0 (k + 1) f fd ["_law_script"] (spD K qQ):=by
 refine fnD F tW hb (by rintro _ _ ⟨_,_,rfl,_⟩; rfl) ?_
 rintro _ _ ⟨ns,hn,rfl,rfl⟩ cdv A outer s H E b
 have nd:=tW.nd
 have hN:∃ N:Nat,(if (if ((ns.map D.int).length:Int) < 20 then ((ns.map D.int).length:Int) else 20) > 1 then (if ((ns.map D.int).length:Int) < 20 then ((ns.map D.int).length:Int) else 20) else 1)=(N:Nat)/\N<=20:=by
   refine ⟨(if (if ((ns.map D.int).length:Int) < 20 then ((ns.map D.int).length:Int) else 20) > 1 then (if ((ns.map D.int).length:Int) < 20 then ((ns.map D.int).length:Int) else 20) else 1).toNat,?_,?_⟩
   · repeat' split
     all_goals omega
   · repeat' split
     all_goals omega
 obtain ⟨N,eN,N6⟩:=hN
 refine cM 1 (λi τ=>∃ s1 s2 s3 s4 s5 s6 s7 s8 s9,τ=[.d (.lst (ns.map .int)),s1,s2,s3,s4,s5,s6,s7,s8,s9]) b nd (eG (n:=(N:Nat)) b (by rw [<- eN]; exact a5 b (ae af (ae (a5 b (ae af (ae (a5 b (ae (aa 0) ah) cX) ah)) (qE b.calm)) ah)) (wI b.calm)) (by omega) (by omega)) dr ⟨.un,.un,.un,.un,.un,.un,.un,.un,.un,rfl⟩ (λi hi τ h=>?_) λτ h=>?_
 · obtain ⟨s1,s2,s3,s4,s5,s6,s7,s8,s9,rfl⟩:=h
   refine av 2 nd (x_call b c_l_cell (ae (aa 0) (ae (aa 1) ah)) ⟨ns,i,rfl,rfl⟩) ?_
   generalize ns.getD i 0=c
   refine yM (x_call b c_l_size (ae (aa 2) ah) ⟨c,rfl,rfl⟩) (zG b.calm (p9 3 nd (p9 4 nd zc))) ?_
   obtain ⟨R1,R7,C1,C7⟩:=zi c
   generalize szR c=R0 at R1 R7
   generalize szC c=C0 at C1 C7
   have mn:∀ a:Nat,(if (4:Int) < ((a:Nat):Int) then (4:Int) else ((a:Nat):Int))=((min a 4:Nat):Int):=λa=>by split <;> omega
   refine fU (M:=λτ=>∃ R C:Nat,(1<=R/\R<=7/\1<=C/\C<=7)/\τ=[.d (.lst (ns.map .int)),.d (.int (i:Nat)),.d (.int c),.d (.int (R:Nat)),.d (.int (C:Nat)),s5,s6,s7,s8,s9]) (aF (aa 1) af mW) (λ_=>?_) (λ_=>aR ⟨R0,C0,⟨R1,R7,C1,C7⟩,rfl⟩) ?_
   · refine av 3 nd (s:=.d (.int (min R0 4:Nat))) (by rw [<- mn R0]; exact a5 b (ae (aa 3) (ae af ah)) (qE b.calm)) ?_
     refine av 4 nd (s:=.d (.int (min C0 4:Nat))) (by rw [<- mn C0]; exact a5 b (ae (aa 4) (ae af ah)) (qE b.calm)) ?_
     exact aR ⟨min R0 4,min C0 4,⟨by omega,by omega,by omega,by omega⟩,rfl⟩
   clear R1 R7 C1 C7
   rintro _ ⟨R,C,⟨R1,R7,C1,C7⟩,rfl⟩
   refine av 5 nd (aH (x_call b c_l_numbers (ae (aA (x_call b c_l_cell (ae (aa 0) (ae (aA (aa 1) af bj) ah)) ⟨ns,i + 1,rfl,rfl⟩) (aA af (aa 1) (bC (mkL (by decide)))) bj) (ae (aH (br (ae af (ae af (ae af (ae (aA af af (gh ⟨by decide,by decide,by decide⟩)) (ae af (ae af ah)))))))) ah)) ⟨_,bs6,rfl,by decide,uF,rfl⟩)) ?_
   generalize ns.getD (i + 1) 0 + 7 * (i:Nat)=c2
   have l6:(nums c2 bs6).length=6:=ig ..
   have lt:=λi (h:i < 6)=>me (c:=c2) (λb hb=>(uF b hb).1) (i:=i) h
   generalize nums c2 bs6=ps at l6 lt
   have t2:0<=ps.getD 2 0/\ps.getD 2 0 < 25:=lt 2 (by decide)
   have t3:0<=ps.getD 3 0/\ps.getD 3 0 < 10 ^ 30:=lt 3 (by decide)
   have t5:0<=ps.getD 5 0/\ps.getD 5 0 < 24:=lt 5 (by decide)
   have lr:(rwL (rsZ c 6272) C C).length=C:=by unfold rwL; rw [List.length_map,List.length_range]
   refine av 6 nd (x_call b c_l_spoilt (ae (aH (x:=rwQ (rwL (rsZ c 6272) C C)) (x_call b c_l_row (ae (x_call b c_l_rest (ae (aa 2) (ae af ah)) ⟨_,_,rfl,by decide,by decide,rfl⟩) (ae (aa 4) ah)) ⟨_,C,rfl,C1,C7,rfl⟩)) (ae (aa 5) ah)) ⟨_,ps,rfl,by rw [lr]; exact C1,by rw [lr]; exact C7,l6,t2.1,t2.2,rfl⟩) ?_
   obtain ⟨ly,hy⟩:=yZ (q:=rwL (rsZ c 6272) C C) (ps:=ps) (by rw [lr]; exact C7) yr t2 t3
   generalize spY (rwL (rsZ c 6272) C C) ps=y at ly hy ⊢
   obtain ⟨p0,p1,p2,p3,p4,p5,rfl⟩:=six l6
   have t5:0<=p5/\p5 < 24:=t5
   clear lt l6 t2 t3
   refine av 7 nd (d9 (aQ (aa 5) af (aO (aT (i:=4) rfl))) af bJ) ?_
   generalize decide (p4=1)=no
   obtain ⟨kd,ek,k3⟩:∃ kd:Nat,c.fmod 3=(kd:Nat)/\kd < 3:=by
     have:=fmn (a:=c) (b:=3) (by decide)
     exact ⟨(c.fmod 3).toNat,by omega,by omega⟩
   refine av 8 nd (aH (x:=tbQ (tlM (c.fdiv 5) R C kd)) (x_call b c_l_table (ae (aA (aa 2) af (bW (nJ (by decide) (by decide)).2)) (ae (aa 3) (ae (aa 4) (ae (aA (aa 2) af (cc (by decide))) ah)))) ⟨_,R,C,kd,by rw [ek],by omega,by omega,by omega,rfl⟩)) ?_
   have t:=yY (c:=c.fdiv 5) (R:=R) (C:=C) (kd:=kd) R1 R7 C1 C7
   have q:=xp (c:=c.fdiv 5) (R:=R) (C:=C) (kd:=kd)
   have ed:kD kd=3/\kV kd=4:=by unfold kD kV; rw [if_neg (by omega),if_neg (by omega)]; exact ⟨rfl,rfl⟩
   rw [ed.1,ed.2] at q
   have q:∀ r ∈ tlM (c.fdiv 5) R C kd,∀ x ∈ r,Qs 3 9 x:=λr hr x hx=>(q r hr x hx).mo (by decide) (by decide)
   generalize tlM (c.fdiv 5) R C kd=M at t q ⊢
   obtain ⟨j5,rfl⟩:=Int.eq_ofNat_of_zero_le t5.1
   have hj:∃ j:Nat,((j5:Nat):Int) + (if decide (((j5:Nat):Int) > 15)=true then 1 else 0)=(j:Nat)/\j < 25/\j ≠ 16:=by
     by_cases z:((j5:Nat):Int) > 15
     · exact ⟨j5 + 1,by rw [if_pos (decide_eq_true z)]; omega,by omega,by omega⟩
     · exact ⟨j5,by rw [if_neg (λe=>z (of_decide_eq_true e))]; omega,by omega,by omega⟩
   obtain ⟨j,ej,j25,j16⟩:=hj
   refine fU (M:=λτ=>τ=[.d (.lst (ns.map .int)),.d (.int (i:Nat)),.d (.int c),.d (.int (R:Nat)),.d (.int (C:Nat)),.d (.lst ([p0,p1,p2,p3,p4,(j5:Int)].map .int)),.d y,.d (.bl no),.d (if no then (anC 3).getD j .non else tbQ M),s9]) (bo (aa 7)) (λh=>?_) (λh=>?_) ?_
   · have h:no=true:=h
     subst h
     exact av 8 nd (x_call b c_l_any (ae (aH (br (ae (aA (aQ (aa 5) af (aO (aT (i:=5) rfl))) (mZ b (ae (d9 (aQ (aa 5) af (aO (aT (i:=5) rfl))) af mW) ah) qH) bj) (ae af ah)))) ah) ⟨j,3,[],by rw [<- ej],j25,rfl⟩) (aR rfl)
   · have h:no=false:=h
     subst h
     exact aR rfl
   rintro _ rfl
   have hno:no=true->mh (if no then (anC 3).getD j .non else tbQ M)=false:=λh=>by
     rw [if_pos h]
     exact zC j j25 j16
   have hyes:no=false->(if no then (anC 3).getD j .non else tbQ M)=tbQ M:=λh=>by rw [h]; rfl
   generalize (if no then (anC 3).getD j .non else tbQ M)=x at hno hyes ⊢
   refine cM 9 (λl τ=>∃ s9,τ=[.d (.lst (ns.map .int)),.d (.int (i:Nat)),.d (.int c),.d (.int (R:Nat)),.d (.int (C:Nat)),.d (.lst ([p0,p1,p2,p3,p4,(j5:Int)].map .int)),.d y,.d (.bl no),.d x,s9]) b nd (eG (n:=((6:Nat):Int)) b af (by decide) (by decide)) dr ⟨_,rfl⟩ (λl hl τ h=>?_) λτ h=>?_
   · obtain ⟨s9,rfl⟩:=h
     have l6:l < 6:=hl
     refine dZ (aF (x_call b c_l_answer (ae (aa 9) (ae (aa 8) (ae (aa 6) ah))) ⟨l,R,C,M,x,y,no,rfl,l6,λh=>⟨hyes h,t,q⟩,hno,hy,rfl⟩) (x_call b c_l_due (ae (aa 9) (ae (aa 8) (ae (aa 6) (ae (aa 7) ah)))) ⟨l,R,C,M,x,y,no,rfl,l6,ly,λh=>⟨hyes h,t⟩,rfl⟩) zX) ?_ (aR ⟨_,rfl⟩)
     rw [decide_eq_true rfl]
     rfl
   · obtain ⟨s9,rfl⟩:=h
     exact aR ⟨_,_,_,_,_,_,_,_,_,rfl⟩
 · obtain ⟨s1,s2,s3,s4,s5,s6,s7,s8,s9,rfl⟩:=h
   exact ax i4 rfl
end
end K41
namespace Hy
open PySem PySem.Spec PyProof.Rows L2
open Ev (D Den au)
theorem _root_.L2.Fun.yk {K:PySem.W.Frag} {x qual:Str} {st:Stmt} {f T:Addr} {fd:FuncData} {ps:List Str} {c:Value} {d:Option Addr} {items:Array Value} {n:Nat} {sl:Array (Option Value)} (_:L2.Fun K x qual st f fd) (hd:fd.defaults=.ref T) (lT:K.lookup T=some ⟨c,d,.seq items n,sl⟩)
   (h:∀ us:List Value,us.length=ps.length->∃ k,bindArgs fd ⟨us,[]⟩=seqItems? fd.defaults >>= k/\k (some items)=pure (ps.zip us)):L2.Binds K fd ps []:=λs us X hl=>by
 rw [List.append_nil] at hl ⊢
 obtain ⟨k,h1,h2⟩:=h us hl
 exact .of_defaults hd (X _ _ lT) rfl h1 h2
noncomputable def uL (K:PySem.W.Frag) (x:Str) (st:Stmt) (f:Addr) (i:Int):Prop:=PySem.W.nsIn K mainGlobals x=some (some (.ref f))/\(∃ oc od kV dc pm an cd ct sl T td tl tc tt tn,K.lookup f=some ⟨oc,od,.func (PySem.W.fnOf x x (cG st) (a7 st) (ak st) (.ref T) kV dc pm an cd ct),sl⟩/\PySem.W.codeIn K cd x=true/\K.lookup T=some ⟨tc,td,.seq #[.int i tt] tn,tl⟩)/\PySem.W.keepIn K (.ref f)=true
section
variable {P:Program} {w:World} {K:PySem.W.Frag} {h:Heap} {mg:Str->Option Value} {base:Heap} {x:Str} {st:Stmt} {f:Addr} {ps:List Str} {k:Nat} {Φ:List D->Sl->Prop} {i:Int}
theorem uL.of {oc tc:Value} {od an td:Option Addr} {kV dc pm cd ct:Value} {sl tl:Array (Option Value)} {T:Addr} {tt:Tok} {tn:Nat} (a:PySem.W.nsIn K mainGlobals x=some (some (.ref f))) (l:K.lookup f=some ⟨oc,od,.func (PySem.W.fnOf x x (cG st) (a7 st) (ak st) (.ref T) kV dc pm an cd ct),sl⟩) (c:PySem.W.codeIn K cd x=true) (d:K.lookup T=some ⟨tc,td,.seq #[.int i tt] tn,tl⟩) (k:PySem.W.keepIn K (.ref f)=true):uL K x st f i:=⟨a,⟨_,_,_,_,_,_,_,_,_,_,_,_,_,_,_,l,c,d⟩,k⟩
theorem uL.cal (d:uL K x st f i) (X:K.In h) (G:h.Ns mainGlobals mg) (b:∀ (T:Addr) (tt:Tok) (kV dc pm:Value) (an:Option Addr) (cd ct:Value) (us:List Value),us.length=ps.length->∃ k,bindArgs (PySem.W.fnOf x x (cG st) (a7 st) (ak st) (.ref T) kV dc pm an cd ct) ⟨us,[]⟩=seqItems? (.ref T) >>= k/\k (some #[.int i tt])=pure (ps.zip us))
   (o:∀ fd,Fun K x x st f fd->aJ P w K mg base CX0 k f fd ps (spD K Φ)):Cal P w K mg base k x Φ:=by
 obtain ⟨a,⟨oc,od,kV,dc,pm,an,cd,ct,sl,T,td,tl,tc,tt,tn,l,c',dt⟩,q⟩:=d
 have F:=pH l c' q
 exact ⟨f,_,ps,o _ F,PySem.W.mg_of X G a,q,F.yk rfl dt (b T tt kV dc pm an cd ct)⟩
end
end Hy
namespace K41
open PySem PySem.Spec PyProof.Rows L2 Hy
set_option maxHeartbeats 0 in
theorem all_mk {l:PySem.W.OpenLaw} {w:World} {K:PySem.W.Frag} {h:Heap} {mg:Str->Option Value} {fa f0 f1 f2 f3 f4 f5 f6 f7 f8 f9 f10 f11 f12 f13 f14 f15 f16 f17 f18 f19 f20 f21 f22 f23 f24 f25 f26 f27 f28 f29 f30 f31 f32 f33 f34 f35 f36 f37 f38 f39 f40 f41 f42 f43 f44 f45 f46 f47 f48 f49 f50 f51 f52 f53 f54 f55 f56:Addr} {t0:Tok} {SM C0 C1 C2 C3 C4 C5 C6 C7 C8 C9 C10 C11 C12 C13 C14 C15 C16 C17 C18:Addr} (X:K.In h) (G:h.Ns mainGlobals mg) (hfa:mg "law" = some (.ref fa))
   (h0:Dfn K "_law_cell" (top 67) f0) (h1:Dfn K "_law_numbers" (top 68) f1) (h2:Dfn K "_law_size" (top 74) f2) (h3:Dfn K "_law_any" (top 77) f3) (h4:Dfn K "_law_spoilt" (top 81) f4) (h5:Dfn K "_law_divisor" (top 70) f5) (h6:Dfn K "_law_made" (top 71) f6) (h7:Dfn K "_law_number" (top 72) f7) (h8:Dfn K "_law_table" (top 73) f8) (h9:Dfn K "_law_row" (top 78) f9) (h10:Dfn K "_law_rest" (top 69) f10) (h11:Dfn K "is_short_list" (top 29) f11) (h12:Dfn K "is_whole" (top 22) f12) (h13:Dfn K "common_divisor" (top 24) f13) (h14:Dfn K "is_fraction" (top 23) f14) (h15:Dfn K "is_row" (top 30) f15) (h16:Dfn K "look_row" (top 55) f16) (h17:Dfn K "sign_of" (top 56) f17) (h18:Dfn K "signs_of" (top 57) f18) (h19:Dfn K "least_changes" (top 58) f19) (h20:Dfn K "_law_word" (top 76) f20) (h21:Dfn K "most_changes" (top 59) f21) (h22:Dfn K "first_sign" (top 60) f22) (h23:Dfn K "is_table" (top 31) f23) (h24:Dfn K "look_table" (top 32) f24) (h25:Dfn K "column_of" (top 37) f25) (h26:Dfn K "columns_of" (top 36) f26) (h27:Dfn K "whole_row" (top 40) f27) (h28:Dfn K "whole_rows" (top 41) f28) (h29:Dfn K "scale_of" (top 39) f29) (h30:Dfn K "in_lowest_terms" (top 25) f30) (h31:uL K "fraction" (top 26) f31 (1)) (h32:Dfn K "sum_of_products" (top 47) f32) (h33:Dfn K "product_row" (top 46) f33) (h34:Dfn K "product" (top 45) f34) (h35:Dfn K "behind" (top 61) f35) (h36:Dfn K "tells_against" (top 62) f36) (h37:Dfn K "choices_of" (top 33) f37) (h38:Dfn K "along_last_row" (top 51) f38) (h39:Dfn K "one_row_more" (top 50) f39) (h40:Dfn K "all_determinants" (top 49) f40) (h41:Dfn K "first_under" (top 48) f41) (h42:Dfn K "first_below" (top 53) f42) (h43:Dfn K "picked" (top 34) f43) (h44:Dfn K "chosen" (top 35) f44) (h45:Dfn K "pivot_place" (top 43) f45) (h46:Dfn K "cleared" (top 44) f46) (h47:Dfn K "whole_determinant" (top 42) f47) (h48:Dfn K "with_signs_at" (top 65) f48) (h49:Dfn K "tops_against" (top 64) f49) (h50:Dfn K "against" (top 63) f50) (h51:Dfn K "_law_answer" (top 82) f51) (h52:Dfn K "_law_whole" (top 75) f52) (h53:Dfn K "_law_fraction" (top 79) f53) (h54:Dfn K "_law_is_row" (top 80) f54) (h55:Dfn K "_law_due" (top 83) f55) (h56:Dfn K "law" (top 84) f56) (hz:nsL K aj) (z0:PySem.W.nsIn K mainGlobals "MOST" = some (some (.int 7 t0))) (aS:PySem.W.nsIn K mainGlobals "SmoothError" = some (some (.ref SM))) (SS:vc K SM) (zV:PySem.W.nsIn K mainGlobals "ValueError" = some none) (gG:PySem.W.specialIn K (.builtin "object.__class__") "__get__" = some (some (.builtin "getset_descriptor.__get__"))) (gT:PySem.W.takesIn K (.builtin "object.__class__")=some true) (NN:Nss K ["NoFraction","NoTable","NoChoice","NoSquare","NoFit","NoUndoing","NoLadder","TooMany","NoPaper","NoRow","NoStairs","NoNumber","NoCorner","NoName","NoStep","NoWeight","NoDeed","NoText","NoWord"] [C0,C1,C2,C3,C4,C5,C6,C7,C8,C9,C10,C11,C12,C13,C14,C15,C16,C17,C18]) (TT:Tys K [C0,C1,C2,C3,C4,C5,C6,C7,C8,C9,C10,C11,C12,C13,C14,C15,C16,C17,C18]) (r1:rf K SM C1) (u1:Off K C1 [C0]) (v1:Off K C1 [C2,C3,C4,C5,C6,C7,C8,C9,C10,C11,C12,C13,C14,C15,C16,C17,C18]) (r4:rf K SM C4) (u4:Off K C4 [C0,C1,C2,C3]) (v4:Off K C4 [C5,C6,C7,C8,C9,C10,C11,C12,C13,C14,C15,C16,C17,C18]) (r9:rf K SM C9) (u9:Off K C9 [C0,C1,C2,C3,C4,C5,C6,C7,C8]) (v9:Off K C9 [C10,C11,C12,C13,C14,C15,C16,C17,C18]) :
   ∃ fd:FuncData,(∀ (s:Shared) (v:Value),BindsTo s fd ⟨[v],[]⟩ [("_law_script",v)])/\∀ base:Heap,K.In base->base.Ns mainGlobals mg->aJ l.prog w K mg base CX0 11 fa fd ["_law_script"] (spD K qQ):=by
 have hb:=hz.none X G
 have y_MOST:∃ t,mg "MOST" = some (.int 7 t):=⟨_,PySem.W.mg_of X G z0⟩
 obtain ⟨cl,Z⟩:∃ cl,Cls K mg cl [1,4,9]:=zJ X G aS SS zV gG gT NN (by decide) TT rfl (by
   intro c hc
   simp only [List.mem_cons,List.not_mem_nil,or_false] at hc
   rcases hc with rfl | rfl | rfl
   · exact ⟨by decide,r1,u1,v1⟩
   · exact ⟨by decide,r4,u4,v4⟩
   · exact ⟨by decide,r9,u9,v9⟩)
 obtain ⟨a,⟨oc,od,kV,dc,pm,an,cd,ct,sl,l0,c⟩,r⟩:=h56
 cases hfa.symm.trans (PySem.W.mg_of X G a)
 refine ⟨PySem.W.fnOf "law" "law" (cG (top 84)) (a7 (top 84)) (ak (top 84)) .none kV dc pm an cd ct,λs v=>.of_eq rfl,λbase _ _=>?_⟩
 have c_l_cell:Cal l.prog w K mg base 1 "_law_cell" jj:=h0.cal (ps:=["_law_script","_law_k"]) X G (λ_ _ _ _ _ _=>Hy.bd2 λ_ _=>rfl) λ_ F=>qV (k:=0) F hb
 have c_l_numbers:Cal l.prog w K mg base 1 "_law_numbers" b8:=h1.cal (ps:=["_law_cell_here","_law_bases"]) X G (λ_ _ _ _ _ _=>Hy.bd2 λ_ _=>rfl) λ_ F=>lW (k:=0) F hb
 have c_l_size:Cal l.prog w K mg base 2 "_law_size" jy:=h2.cal (ps:=["_law_cell_here"]) X G (λ_ _ _ _ _ _=>Hy.bd1 λ_=>rfl) λ_ F=>rW (k:=1) F hb c_l_numbers
 have c_l_any:Cal l.prog w K mg base 1 "_law_any" jc:=h3.cal (ps:=["_law_parts"]) X G (λ_ _ _ _ _ _=>Hy.bd1 λ_=>rfl) λ_ F=>tI (k:=0) F hb
 have c_l_spoilt:Cal l.prog w K mg base 2 "_law_spoilt" gI:=h4.cal (ps:=["_law_row_here","_law_parts"]) X G (λ_ _ _ _ _ _=>Hy.bd2 λ_ _=>rfl) λ_ F=>ot (k:=1) F hb c_l_any
 have c_l_divisor:Cal l.prog w K mg base 1 "_law_divisor" di:=h5.cal (ps:=["_law_one","_law_other"]) X G (λ_ _ _ _ _ _=>Hy.bd2 λ_ _=>rfl) λ_ F=>mB (k:=0) F hb
 have c_l_made:Cal l.prog w K mg base 2 "_law_made" jC:=h6.cal (ps:=["_law_top","_law_bottom"]) X G (λ_ _ _ _ _ _=>Hy.bd2 λ_ _=>rfl) λ_ F=>rH (k:=1) F hb c_l_divisor
 have c_l_number:Cal l.prog w K mg base 3 "_law_number" eV:=h7.cal (ps:=["_law_kind","_law_part"]) X G (λ_ _ _ _ _ _=>Hy.bd2 λ_ _=>rfl) λ_ F=>nr (k:=2) F hb c_l_made
 have c_l_table:Cal l.prog w K mg base 4 "_law_table" iG:=h8.cal (ps:=["_law_cell_here","_law_many","_law_wide","_law_kind"]) X G (λ_ _ _ _ _ _=>Hy.bd4 λ_ _ _ _=>rfl) λ_ F=>oQ (k:=3) F hb (c_l_numbers.mono (by decide)) c_l_number
 have c_l_row:Cal l.prog w K mg base 4 "_law_row" lF:=h9.cal (ps:=["_law_cell_here","_law_many"]) X G (λ_ _ _ _ _ _=>Hy.bd2 λ_ _=>rfl) λ_ F=>su (k:=3) F hb (c_l_numbers.mono (by decide)) c_l_number
 have c_l_rest:Cal l.prog w K mg base 1 "_law_rest" jv:=h10.cal (ps:=["_law_cell_here","_law_used"]) X G (λ_ _ _ _ _ _=>Hy.bd2 λ_ _=>rfl) λ_ F=>rn (k:=0) F hb
 have c_is_short_list:Cal l.prog w K mg base 1 "is_short_list" bR:=h11.cal (ps:=["thing"]) X G (λ_ _ _ _ _ _=>Hy.bd1 λ_=>rfl) λ_ F=>iR (k:=0) F hb y_MOST
 have c_is_short_list2:Cal l.prog w K mg base 1 "is_short_list" bL:=h11.cal (ps:=["thing"]) X G (λ_ _ _ _ _ _=>Hy.bd1 λ_=>rfl) λ_ F=>gR (k:=0) F hb y_MOST
 have c_is_whole:Cal l.prog w K mg base 1 "is_whole" eJ:=h12.cal (ps:=["thing"]) X G (λ_ _ _ _ _ _=>Hy.bd1 λ_=>rfl) λ_ F=>oD (k:=0) F hb
 have c_common_divisor:Cal l.prog w K mg base 1 "common_divisor" bu:=h13.cal (ps:=["one","other"]) X G (λ_ _ _ _ _ _=>Hy.bd2 λ_ _=>rfl) λ_ F=>gW (k:=0) F hb
 have c_is_fraction:Cal l.prog w K mg base 2 "is_fraction" cF:=h14.cal (ps:=["thing"]) X G (λ_ _ _ _ _ _=>Hy.bd1 λ_=>rfl) λ_ F=>jK (k:=1) F hb c_is_whole c_common_divisor
 have c_is_row:Cal l.prog w K mg base 3 "is_row" g9:=h15.cal (ps:=["thing"]) X G (λ_ _ _ _ _ _=>Hy.bd1 λ_=>rfl) λ_ F=>rN (k:=2) F hb (c_is_short_list.mono (by decide)) c_is_fraction
 have c_is_row2:Cal l.prog w K mg base 3 "is_row" fZ:=h15.cal (ps:=["thing"]) X G (λ_ _ _ _ _ _=>Hy.bd1 λ_=>rfl) λ_ F=>pI (k:=2) F hb  (c_is_short_list2.mono (by decide)) (c_is_fraction.mono (by decide))
 have c_look_row:Cal l.prog w K mg base 4 "look_row" bY:=h16.cal (ps:=["thing"]) X G (λ_ _ _ _ _ _=>Hy.bd1 λ_=>rfl) λ_ F=>om (k:=3) F hb c_is_row
 have x_look_row:bV l.prog w K mg base cl 4 "look_row" cU:=h16.kz (ps:=["thing"]) X G (λ_ _ _ _ _ _=>Hy.bd1 λ_=>rfl) λ_ F=>nF (k:=3) F hb Z (by decide) (c_is_row2.mono (by decide))
 have c_sign_of:Cal l.prog w K mg base 1 "sign_of" iM:=h17.cal (ps:=["number"]) X G (λ_ _ _ _ _ _=>Hy.bd1 λ_=>rfl) λ_ F=>pF (k:=0) F hb
 have c_signs_of:Cal l.prog w K mg base 2 "signs_of" c8:=h18.cal (ps:=["row"]) X G (λ_ _ _ _ _ _=>Hy.bd1 λ_=>rfl) λ_ F=>nP (k:=1) F hb c_sign_of
 have c_least_changes:Cal l.prog w K mg base 5 "least_changes" bD:=h19.cal (ps:=["row"]) X G (λ_ _ _ _ _ _=>Hy.bd1 λ_=>rfl) λ_ F=>iC (k:=4) F hb c_look_row (c_signs_of.mono (by decide))
 have x_least_changes:bV l.prog w K mg base cl 5 "least_changes" cU:=h19.kz (ps:=["row"]) X G (λ_ _ _ _ _ _=>Hy.bd1 λ_=>rfl) λ_ F=>iK (k:=4) F hb  (x_look_row.mono (by decide))
 obtain ⟨fdw,Fw,mw,kw,bw⟩:=h20.fn (ps:=["_law_e"]) X G (λ_ _ _ _ _ _=>Hy.bd1 λ_=>rfl)
 have Ww:∀ c ∈ [1,4,9],eL l.prog w K mg base cl 1 f20 c:=λc hc=>rJ (k:=0) Fw hb bw Z hc
 have c_most_changes:Cal l.prog w K mg base 5 "most_changes" cq:=h21.cal (ps:=["row"]) X G (λ_ _ _ _ _ _=>Hy.bd1 λ_=>rfl) λ_ F=>i7 (k:=4) F hb c_look_row (c_signs_of.mono (by decide))
 have x_most_changes:bV l.prog w K mg base cl 5 "most_changes" cU:=h21.kz (ps:=["row"]) X G (λ_ _ _ _ _ _=>Hy.bd1 λ_=>rfl) λ_ F=>i9 (k:=4) F hb  (x_look_row.mono (by decide))
 have c_first_sign:Cal l.prog w K mg base 5 "first_sign" cv:=h22.cal (ps:=["row"]) X G (λ_ _ _ _ _ _=>Hy.bd1 λ_=>rfl) λ_ F=>j9 (k:=4) F hb c_look_row (c_signs_of.mono (by decide))
 have x_first_sign:bV l.prog w K mg base cl 5 "first_sign" cU:=h22.kz (ps:=["row"]) X G (λ_ _ _ _ _ _=>Hy.bd1 λ_=>rfl) λ_ F=>kg (k:=4) F hb  (x_look_row.mono (by decide))
 have c_is_table:Cal l.prog w K mg base 4 "is_table" gE:=h23.cal (ps:=["thing"]) X G (λ_ _ _ _ _ _=>Hy.bd1 λ_=>rfl) λ_ F=>oJ (k:=3) F hb (c_is_short_list.mono (by decide)) c_is_row
 have c_is_table2:Cal l.prog w K mg base 4 "is_table" fP:=h23.cal (ps:=["thing"]) X G (λ_ _ _ _ _ _=>Hy.bd1 λ_=>rfl) λ_ F=>l5 (k:=3) F hb  (c_is_short_list2.mono (by decide)) (c_is_row2.mono (by decide))
 have c_look_table:Cal l.prog w K mg base 5 "look_table" bz:=h24.cal (ps:=["thing"]) X G (λ_ _ _ _ _ _=>Hy.bd1 λ_=>rfl) λ_ F=>kB (k:=4) F hb c_is_table
 have x_look_table:bV l.prog w K mg base cl 5 "look_table" fh:=h24.kz (ps:=["thing"]) X G (λ_ _ _ _ _ _=>Hy.bd1 λ_=>rfl) λ_ F=>kA (k:=4) F hb Z (by decide) (c_is_table2.mono (by decide))
 have c_column_of:Cal l.prog w K mg base 1 "column_of" cK:=h25.cal (ps:=["table","j"]) X G (λ_ _ _ _ _ _=>Hy.bd2 λ_ _=>rfl) λ_ F=>mv (k:=0) F hb
 have c_columns_of:Cal l.prog w K mg base 2 "columns_of" eP:=h26.cal (ps:=["table"]) X G (λ_ _ _ _ _ _=>Hy.bd1 λ_=>rfl) λ_ F=>kf (k:=1) F hb c_column_of
 have c_whole_row:Cal l.prog w K mg base 1 "whole_row" dB:=h27.cal (ps:=["row","scale"]) X G (λ_ _ _ _ _ _=>Hy.bd2 λ_ _=>rfl) λ_ F=>my (k:=0) F hb
 have c_whole_rows:Cal l.prog w K mg base 2 "whole_rows" cg:=h28.cal (ps:=["table","scales"]) X G (λ_ _ _ _ _ _=>Hy.bd2 λ_ _=>rfl) λ_ F=>ku (k:=1) F hb c_whole_row
 have c_scale_of:Cal l.prog w K mg base 2 "scale_of" cE:=h29.cal (ps:=["row"]) X G (λ_ _ _ _ _ _=>Hy.bd1 λ_=>rfl) λ_ F=>oM (k:=1) F hb c_common_divisor
 have c_in_lowest_terms:Cal l.prog w K mg base 2 "in_lowest_terms" cu:=h30.cal (ps:=["top","bottom"]) X G (λ_ _ _ _ _ _=>Hy.bd2 λ_ _=>rfl) λ_ F=>gv (k:=1) F hb c_common_divisor
 have c_fraction:Cal l.prog w K mg base 3 "fraction" gx:=h31.cal (ps:=["top","bottom"]) X G (λ_ _ _ _ _ _ _ _=>Hy.bd2 λ_ _=>⟨_,rfl,rfl⟩) λ_ F=>nM (k:=2) F hb c_in_lowest_terms (c_is_whole.mono (by decide))
 have c_sum_of_products:Cal l.prog w K mg base 1 "sum_of_products" cj:=h32.cal (ps:=["numbers","others"]) X G (λ_ _ _ _ _ _=>Hy.bd2 λ_ _=>rfl) λ_ F=>gn (k:=0) F hb
 have c_product_row:Cal l.prog w K mg base 4 "product_row" dJ:=h33.cal (ps:=["row","whole_columns","scales"]) X G (λ_ _ _ _ _ _=>Hy.bd3 λ_ _ _=>rfl) λ_ F=>jr (k:=3) F hb (c_scale_of.mono (by decide)) (c_whole_row.mono (by decide)) c_fraction (c_sum_of_products.mono (by decide))
 have c_product:Cal l.prog w K mg base 6 "product" iB:=h34.cal (ps:=["one","other"]) X G (λ_ _ _ _ _ _=>Hy.bd2 λ_ _=>rfl) λ_ F=>pL (k:=5) F hb c_look_table (c_columns_of.mono (by decide)) (c_whole_rows.mono (by decide)) (c_scale_of.mono (by decide)) (c_product_row.mono (by decide))
 have x_product:bV l.prog w K mg base cl 6 "product" xt:=h34.kz (ps:=["one","other"]) X G (λ_ _ _ _ _ _=>Hy.bd2 λ_ _=>rfl) λ_ F=>pS (k:=5) F hb Z (by decide) (x_look_table.mono (by decide)) (c_look_table.mono (by decide))
 have c_behind:Cal l.prog w K mg base 7 "behind" fN:=h35.cal (ps:=["table","row"]) X G (λ_ _ _ _ _ _=>Hy.bd2 λ_ _=>rfl) λ_ F=>rL (k:=6) F hb (c_look_table.mono (by decide)) (c_look_row.mono (by decide)) (c_column_of.mono (by decide)) c_product
 have x_behind:bV l.prog w K mg base cl 7 "behind" nc:=h35.kz (ps:=["table","row"]) X G (λ_ _ _ _ _ _=>Hy.bd2 λ_ _=>rfl) λ_ F=>rj (k:=6) F hb  (x_look_table.mono (by decide)) (c_look_table.mono (by decide)) (x_look_row.mono (by decide)) (c_look_row.mono (by decide)) (x_product.mono (by decide)) (c_column_of.mono (by decide))
 have c_tells_against:Cal l.prog w K mg base 8 "tells_against" bE:=h36.cal (ps:=["table","row"]) X G (λ_ _ _ _ _ _=>Hy.bd2 λ_ _=>rfl) λ_ F=>iz (k:=7) F hb c_behind (c_least_changes.mono (by decide)) (c_first_sign.mono (by decide))
 have x_tells_against:bV l.prog w K mg base cl 8 "tells_against" nc:=h36.kz (ps:=["table","row"]) X G (λ_ _ _ _ _ _=>Hy.bd2 λ_ _=>rfl) λ_ F=>iw (k:=7) F hb  (x_behind.mono (by decide))
 have c_choices_of:Cal l.prog w K mg base 1 "choices_of" eR:=h37.cal (ps:=["many","size"]) X G (λ_ _ _ _ _ _=>Hy.bd2 λ_ _=>rfl) λ_ F=>j7 (k:=0) F hb
 have c_along_last_row:Cal l.prog w K mg base 1 "along_last_row" (cy l.prog w):=h38.cal (ps:=["known","row","columns"]) X G (λ_ _ _ _ _ _=>Hy.bd3 λ_ _ _=>rfl) λ_ F=>ic (k:=0) F hb
 have c_one_row_more:Cal l.prog w K mg base 2 "one_row_more" (da l.prog w):=h39.cal (ps:=["known","row","column_choices"]) X G (λ_ _ _ _ _ _=>Hy.bd3 λ_ _ _=>rfl) λ_ F=>i5 (k:=1) F hb c_along_last_row
 have c_all_determinants:Cal l.prog w K mg base 3 "all_determinants" (bT l.prog w):=h40.cal (ps:=["rows"]) X G (λ_ _ _ _ _ _=>Hy.bd1 λ_=>rfl) λ_ F=>gf (k:=2) F hb (c_choices_of.mono (by decide)) c_one_row_more
 have c_first_under:Cal l.prog w K mg base 4 "first_under" dF:=h41.cal (ps:=["table","bound"]) X G (λ_ _ _ _ _ _=>Hy.bd2 λ_ _=>rfl) λ_ F=>jB (k:=3) F hb c_all_determinants (c_whole_rows.mono (by decide)) (c_scale_of.mono (by decide))
 have c_first_below:Cal l.prog w K mg base 6 "first_below" cH:=h42.cal (ps:=["table"]) X G (λ_ _ _ _ _ _=>Hy.bd1 λ_=>rfl) λ_ F=>jG (k:=5) F hb c_look_table (c_first_under.mono (by decide))
 have x_first_below:bV l.prog w K mg base cl 6 "first_below" fh:=h42.kz (ps:=["table"]) X G (λ_ _ _ _ _ _=>Hy.bd1 λ_=>rfl) λ_ F=>jX (k:=5) F hb  (x_look_table.mono (by decide))
 have c_picked:Cal l.prog w K mg base 1 "picked" jE:=h43.cal (ps:=["things","places"]) X G (λ_ _ _ _ _ _=>Hy.bd2 λ_ _=>rfl) λ_ F=>rz (k:=0) F hb
 have c_chosen:Cal l.prog w K mg base 2 "chosen" jI:=h44.cal (ps:=["table","rows","columns"]) X G (λ_ _ _ _ _ _=>Hy.bd3 λ_ _ _=>rfl) λ_ F=>rZ (k:=1) F hb c_picked
 have c_pivot_place:Cal l.prog w K mg base 1 "pivot_place" dC:=h45.cal (ps:=["grid","k"]) X G (λ_ _ _ _ _ _=>Hy.bd2 λ_ _=>rfl) λ_ F=>jV (k:=0) F hb
 have c_cleared:Cal l.prog w K mg base 1 "cleared" iL:=h46.cal (ps:=["row","pivot_row","k","last"]) X G (λ_ _ _ _ _ _=>Hy.bd4 λ_ _ _ _=>rfl) λ_ F=>pU (k:=0) F hb
 have c_whole_determinant:Cal l.prog w K mg base 2 "whole_determinant" bQ:=h47.cal (ps:=["rows"]) X G (λ_ _ _ _ _ _=>Hy.bd1 λ_=>rfl) λ_ F=>fT (k:=1) F hb c_pivot_place c_cleared
 have c_with_signs_at:Cal l.prog w K mg base 1 "with_signs_at" cN:=h48.cal (ps:=["rows","k"]) X G (λ_ _ _ _ _ _=>Hy.bd2 λ_ _=>rfl) λ_ F=>iD (k:=0) F hb
 have c_tops_against:Cal l.prog w K mg base 3 "tops_against" df:=h49.cal (ps:=["table","rows","columns"]) X G (λ_ _ _ _ _ _=>Hy.bd3 λ_ _ _=>rfl) λ_ F=>i8 (k:=2) F hb c_chosen c_whole_rows c_scale_of c_whole_determinant (c_with_signs_at.mono (by decide))
 have c_against:Cal l.prog w K mg base 9 "against" eD:=h50.cal (ps:=["table"]) X G (λ_ _ _ _ _ _=>Hy.bd1 λ_=>rfl) λ_ F=>oP (k:=8) F hb (c_first_below.mono (by decide)) (c_tops_against.mono (by decide)) c_tells_against
 have x_against:bV l.prog w K mg base cl 7 "against" fh:=h50.kz (ps:=["table"]) X G (λ_ _ _ _ _ _=>Hy.bd1 λ_=>rfl) λ_ F=>pe (k:=6) F hb  (x_first_below.mono (by decide))
 have c_against0:Cal l.prog w K mg base 7 "against" e7:=h50.cal (ps:=["table"]) X G (λ_ _ _ _ _ _=>Hy.bd1 λ_=>rfl) λ_ F=>nB (k:=6) F hb  (c_first_below.mono (by decide))
 have c_l_answer:Cal l.prog w K mg base 10 "_law_answer" gu:=h51.cal (ps:=["_law_what","_law_table_here","_law_row_here"]) X G (λ_ _ _ _ _ _=>Hy.bd3 λ_ _ _=>rfl) λ_ F=>nR (k:=9) F hb Z (by rintro c (rfl | rfl | rfl) <;> decide) mw kw (λc hc=>(Ww c hc).mono (by decide)) (c_least_changes.mono (by decide)) (c_most_changes.mono (by decide)) (c_first_sign.mono (by decide)) (c_behind.mono (by decide)) (c_tells_against.mono (by decide)) (c_against.mono (by decide)) (c_against0.mono (by decide)) (x_least_changes.mono (by decide)) (x_most_changes.mono (by decide)) (x_first_sign.mono (by decide)) (x_behind.mono (by decide)) (x_tells_against.mono (by decide)) (x_against.mono (by decide))
 have c_l_whole:Cal l.prog w K mg base 1 "_law_whole" iA:=h52.cal (ps:=["_law_thing"]) X G (λ_ _ _ _ _ _=>Hy.bd1 λ_=>rfl) λ_ F=>oR (k:=0) F hb
 have c_l_fraction:Cal l.prog w K mg base 2 "_law_fraction" eY:=h53.cal (ps:=["_law_thing"]) X G (λ_ _ _ _ _ _=>Hy.bd1 λ_=>rfl) λ_ F=>kh (k:=1) F hb c_l_whole c_l_divisor
 have c_l_is_row:Cal l.prog w K mg base 3 "_law_is_row" gw:=h54.cal (ps:=["_law_thing"]) X G (λ_ _ _ _ _ _=>Hy.bd1 λ_=>rfl) λ_ F=>nH (k:=2) F hb c_l_fraction
 have c_l_due:Cal l.prog w K mg base 4 "_law_due" lI:=h55.cal (ps:=["_law_what","_law_table_here","_law_row_here","_law_none"]) X G (λ_ _ _ _ _ _=>Hy.bd4 λ_ _ _ _=>rfl) λ_ F=>ub (k:=3) F hb c_l_is_row
 exact yv (k:=10) (pH l0 c r) hb (c_l_cell.mono (by decide)) (c_l_size.mono (by decide)) (c_l_numbers.mono (by decide)) (c_l_spoilt.mono (by decide)) (c_l_row.mono (by decide)) (c_l_rest.mono (by decide)) (c_l_table.mono (by decide)) (c_l_any.mono (by decide)) c_l_answer (c_l_due.mono (by decide))
theorem walk {l:PySem.W.OpenLaw} {q:Program} {loose:List Str} {XP:(Str->Option Value)->Heap->Prop} {YP:World->Heap->Prop} {d:DefRec} {K:Params->PySem.W.Frag} (hn:l.most=some 63) (hdf:d.params.defaults=[])
   (hY:∀ (w:World) (h:Heap),YP w h->(K w.params).In h)
   (F:∀ (w:World) (mg:Str->Option Value) (fa:Addr) (h:Heap),(K w.params).In h->h.Ns mainGlobals mg->mg d.name=some (.ref fa) ->
     ∃ fd:FuncData,(∀ (s:Shared) (u:Value),BindsTo s fd ⟨[u],[]⟩ [("_law_script",u)])/\∀ base:Heap,(K w.params).In base->base.Ns mainGlobals mg->aJ l.prog w (K w.params) mg base CX0 11 fa fd ["_law_script"] (spD (K w.params) qQ)) :
   PySem.W.WalkO q loose XP YP l.row.toRowW d [] (λf vs=>PySem.call f vs):=
 L2.uR (n:=63) (k:=11) (x:="_law_script") (CX:=λ_=>CX0) (sp:=λw=>spD (K w.params) qQ) hn (by decide) hdf ⟨rfl,by decide,by decide⟩ hY F
   (λw H a ns hl _ hS=>uS (λns h=>⟨ns,h,rfl,rfl⟩) H a ns hl hS) λ_ _ _ _ _ z=>z
end K41
open PySem PySem.W PyProof.Rows
namespace PySem.W.Fast
theorem tw7870290507156125407:True:=⟨⟩
theorem tw5316225977363028281:True:=⟨⟩
theorem tw5477420452043875904:True:=⟨⟩
theorem tw15437361672762064709:True:=⟨⟩
theorem tw9384604482135445909:True:=⟨⟩
theorem tw2882425440142208888:True:=⟨⟩
theorem tw11825733795284923342:True:=⟨⟩
theorem tw7322289315326019813:True:=⟨⟩
theorem tw6851874747247289947:True:=⟨⟩
theorem tw4773922081281254258:True:=⟨⟩
theorem tw16073433690724468181:True:=⟨⟩
theorem tw8961925669721026052:True:=⟨⟩
theorem tw11386360388847836082:True:=⟨⟩
theorem tw978881576587550647:True:=⟨⟩
theorem tw6205735374008550779:True:=⟨⟩
theorem tw17178245764988979415:True:=⟨⟩
theorem tw15977604730963620856:True:=⟨⟩
theorem tw12387714777556215399:True:=⟨⟩
theorem tw17819123830760628232:True:=⟨⟩
theorem tw14609621166068740217:True:=⟨⟩
theorem tw17963656515649484139:True:=⟨⟩
theorem tw1198488943380211173:True:=⟨⟩
theorem tw4854306632715404214:True:=⟨⟩
theorem tw4120642016740791852:True:=⟨⟩
theorem tw9196771079994766005:True:=⟨⟩
theorem tw17430255221387083642:True:=⟨⟩
theorem tw14151139402097433624:True:=⟨⟩
theorem tw9288672579906873840:True:=⟨⟩
theorem tw1695207108801505469:True:=⟨⟩
theorem tw12723397211986235601:True:=⟨⟩
theorem tw16320115033694101317:True:=⟨⟩
theorem tw18404423423423680821:True:=⟨⟩
theorem tw8197523250714894677:True:=⟨⟩
theorem tw14454810148090710129:True:=⟨⟩
theorem tw1939255234310062510:True:=⟨⟩
theorem tw17762242840092965821:True:=⟨⟩
theorem tw7793626805993421075:True:=⟨⟩
theorem tw5259201169836815799:True:=⟨⟩
theorem tw17300918455149531493:True:=⟨⟩
theorem tw5831829696170145424:True:=⟨⟩
theorem tw7260062852129143593:True:=⟨⟩
theorem tw10584237606255165751:True:=⟨⟩
theorem tw14568627309308950559:True:=⟨⟩
theorem tw16852585202268961518:True:=⟨⟩
theorem tw17261418786697234081:True:=⟨⟩
theorem tw8807359915039785180:True:=⟨⟩
theorem tw733196652716435556:True:=⟨⟩
theorem tw3892473012868117906:True:=⟨⟩
theorem tw13283979470385387637:True:=⟨⟩
theorem tw6234305433127458568:True:=⟨⟩
theorem tw17054118588576633579:True:=⟨⟩
theorem tw15619815763803123229:True:=⟨⟩
theorem tw3134075516848047893:True:=⟨⟩
theorem tw14376820001229506359:True:=⟨⟩
theorem tw3603191187956022029:True:=⟨⟩
theorem tw3132225801580643952:True:=⟨⟩
theorem tw6851719051638388559:True:=⟨⟩
theorem tw6117406967387776258:True:=⟨⟩
theorem tw12788347617700582115:True:=⟨⟩
theorem tw1688285930205215926:True:=⟨⟩
theorem tw1319401235440993939:True:=⟨⟩
theorem tw14493749032240688294:True:=⟨⟩
theorem tw10547574691423559420:True:=⟨⟩
theorem tw898714140755969080:True:=⟨⟩
theorem tw4363014053173955335:True:=⟨⟩
theorem tw9342317501344407428:True:=⟨⟩
theorem tw6487481334394497237:True:=⟨⟩
theorem tw7367214159153833609:True:=⟨⟩
theorem tw11841441941242446649:True:=⟨⟩
theorem tw8507254557972446929:True:=⟨⟩
theorem tw10739520746907175663:True:=⟨⟩
theorem tw15460442799196760256:True:=⟨⟩
theorem tw3763637543090012029:True:=⟨⟩
theorem tw9244786313132078703:True:=⟨⟩
theorem tw12753066271391721297:True:=⟨⟩
theorem tw10658433505190782631:True:=⟨⟩
theorem tw2960006093624187156:True:=⟨⟩
theorem tw6968235331407285443:True:=⟨⟩
theorem tw11301230410047839501:True:=⟨⟩
theorem tw5506846023663832698:True:=⟨⟩
theorem tw9833505230024123088:True:=⟨⟩
theorem tw5294925002039910763:True:=⟨⟩
theorem tw8766482944695686334:True:=⟨⟩
theorem tw14527527003035836077:True:=⟨⟩
theorem tw13830198503634146599:True:=⟨⟩
theorem tw17192207668382466444:True:=⟨⟩
theorem tw16139464206772241334:True:=⟨⟩
theorem tw1146045504056987735:True:=⟨⟩
theorem tw4219229054628717643:True:=⟨⟩
theorem tw987961327171475986:True:=⟨⟩
theorem tw12054419541624957888:True:=⟨⟩
theorem tw14776182117240217655:True:=⟨⟩
theorem tw8563958418256804641:True:=⟨⟩
theorem tw3490989590256984045:True:=⟨⟩
theorem tw2836372072180926322:True:=⟨⟩
theorem tw9986460266510121434:True:=⟨⟩
theorem tw6055296799408640334:True:=⟨⟩
theorem tw14987896363197990820:True:=⟨⟩
end PySem.W.Fast
set_option maxRecDepth 100000 in
set_option maxHeartbeats 0 in
theorem PySem.Challenge.cw_signsmooth_k41_signs_refused_holds : PySem.Challenge.rw_signsmooth_k41_signs_refused.Holds := by
 w_on; o_law; k_head; (case hw=>w_witness2)
 k_fill
 refine K41.walk (l:=PySem.Challenge.rw_signsmooth_k41_signs_refused) rfl rfl (λw h Y=>PySem.W.kIn_of Y) ?F
 case F=>
   intro w mg fa h KX G hmg
   refine' K41.all_mk KX G hmg (.of ?_ ?_ ?_ ?_) (.of ?_ ?_ ?_ ?_) (.of ?_ ?_ ?_ ?_) (.of ?_ ?_ ?_ ?_) (.of ?_ ?_ ?_ ?_) (.of ?_ ?_ ?_ ?_) (.of ?_ ?_ ?_ ?_) (.of ?_ ?_ ?_ ?_) (.of ?_ ?_ ?_ ?_) (.of ?_ ?_ ?_ ?_) (.of ?_ ?_ ?_ ?_) (.of ?_ ?_ ?_ ?_) (.of ?_ ?_ ?_ ?_) (.of ?_ ?_ ?_ ?_) (.of ?_ ?_ ?_ ?_) (.of ?_ ?_ ?_ ?_) (.of ?_ ?_ ?_ ?_) (.of ?_ ?_ ?_ ?_) (.of ?_ ?_ ?_ ?_) (.of ?_ ?_ ?_ ?_) (.of ?_ ?_ ?_ ?_) (.of ?_ ?_ ?_ ?_) (.of ?_ ?_ ?_ ?_) (.of ?_ ?_ ?_ ?_) (.of ?_ ?_ ?_ ?_) (.of ?_ ?_ ?_ ?_) (.of ?_ ?_ ?_ ?_) (.of ?_ ?_ ?_ ?_) (.of ?_ ?_ ?_ ?_) (.of ?_ ?_ ?_ ?_) (.of ?_ ?_ ?_ ?_) (.of ?_ ?_ ?_ ?_ ?_) (.of ?_ ?_ ?_ ?_) (.of ?_ ?_ ?_ ?_) (.of ?_ ?_ ?_ ?_) (.of ?_ ?_ ?_ ?_) (.of ?_ ?_ ?_ ?_) (.of ?_ ?_ ?_ ?_) (.of ?_ ?_ ?_ ?_) (.of ?_ ?_ ?_ ?_) (.of ?_ ?_ ?_ ?_) (.of ?_ ?_ ?_ ?_) (.of ?_ ?_ ?_ ?_) (.of ?_ ?_ ?_ ?_) (.of ?_ ?_ ?_ ?_) (.of ?_ ?_ ?_ ?_) (.of ?_ ?_ ?_ ?_) (.of ?_ ?_ ?_ ?_) (.of ?_ ?_ ?_ ?_) (.of ?_ ?_ ?_ ?_) (.of ?_ ?_ ?_ ?_) (.of ?_ ?_ ?_ ?_) (.of ?_ ?_ ?_ ?_) (.of ?_ ?_ ?_ ?_) (.of ?_ ?_ ?_ ?_) (.of ?_ ?_ ?_ ?_) (.of ?_ ?_ ?_ ?_) ⟨?_,?_,?_,?_,?_,?_,?_,?_,?_,?_,?_,?_,?_,?_,?_,?_,?_,?_,trivial⟩ ?_ ?_ (.of ?_ ?_ ?_ ?_ ?_) ?_ ?_ ?_ (.cons ?_ (.cons ?_ (.cons ?_ (.cons ?_ (.cons ?_ (.cons ?_ (.cons ?_ (.cons ?_ (.cons ?_ (.cons ?_ (.cons ?_ (.cons ?_ (.cons ?_ (.cons ?_ (.cons ?_ (.cons ?_ (.cons ?_ (.cons ?_ (.cons ?_ .nil))))))))))))))))))) (.cons ?_ (.cons ?_ (.cons ?_ (.cons ?_ (.cons ?_ (.cons ?_ (.cons ?_ (.cons ?_ (.cons ?_ (.cons ?_ (.cons ?_ (.cons ?_ (.cons ?_ (.cons ?_ (.cons ?_ (.cons ?_ (.cons ?_ (.cons ?_ (.cons ?_ .nil))))))))))))))))))) (.of ?_ ?_ ?_ ?_ ?_ ?_ ?_ ?_ ?_ ?_ ?_ ?_) (.cons ?_ ?_ .nil) (.cons ?_ ?_ (.cons ?_ ?_ (.cons ?_ ?_ (.cons ?_ ?_ (.cons ?_ ?_ (.cons ?_ ?_ (.cons ?_ ?_ (.cons ?_ ?_ (.cons ?_ ?_ (.cons ?_ ?_ (.cons ?_ ?_ (.cons ?_ ?_ (.cons ?_ ?_ (.cons ?_ ?_ (.cons ?_ ?_ (.cons ?_ ?_ (.cons ?_ ?_ .nil))))))))))))))))) (.of ?_ ?_ ?_ ?_ ?_ ?_ ?_ ?_ ?_ ?_ ?_ ?_) (.cons ?_ ?_ (.cons ?_ ?_ (.cons ?_ ?_ (.cons ?_ ?_ .nil)))) (.cons ?_ ?_ (.cons ?_ ?_ (.cons ?_ ?_ (.cons ?_ ?_ (.cons ?_ ?_ (.cons ?_ ?_ (.cons ?_ ?_ (.cons ?_ ?_ (.cons ?_ ?_ (.cons ?_ ?_ (.cons ?_ ?_ (.cons ?_ ?_ (.cons ?_ ?_ (.cons ?_ ?_ .nil)))))))))))))) (.of ?_ ?_ ?_ ?_ ?_ ?_ ?_ ?_ ?_ ?_ ?_ ?_) (.cons ?_ ?_ (.cons ?_ ?_ (.cons ?_ ?_ (.cons ?_ ?_ (.cons ?_ ?_ (.cons ?_ ?_ (.cons ?_ ?_ (.cons ?_ ?_ (.cons ?_ ?_ .nil))))))))) (.cons ?_ ?_ (.cons ?_ ?_ (.cons ?_ ?_ (.cons ?_ ?_ (.cons ?_ ?_ (.cons ?_ ?_ (.cons ?_ ?_ (.cons ?_ ?_ (.cons ?_ ?_ .nil)))))))))
   all_goals try k_is
   all_goals first | rfl | decide
#print axioms PySem.Challenge.cw_signsmooth_k41_signs_refused_holds
