import PyProof.Rows.All
import Wide.All
import OpenK.AllK
import Wide.FinOn
import Lean
import PyProof.EqAt
import PyProof.EqKinds
import PyProof.TupleCall
import PyProof.DictKeyH
import PyProof.DictFindH
import PySem.Challenge.RW_signsmooth_k18_ladders_known
set_option genSizeOf false
set_option bootstrap.genMatcherCode false
set_option Elab.async false
set_option linter.all false
set_option maxRecDepth 100000
set_option exponentiation.threshold 4000
namespace Hx
open PySem PySem.Spec PyProof.Rows
theorem fW:entryFor table "proto.unchain" = some Builtin.«proto.unchain»:=entryFor_of_tree (by kernel_rfl)
section
variable {prog:Program} {w:World} {A:Around} {E:Value->Shared->Prop} {s:Shared}
theorem iK {α:Type} {a h:Addr} {oa oh:Obj} {us vs:Array Value} {Q:α->Shared->Prop} (hh:A.handled=some (.ref h)) (hne:h ≠ a) (ha:s.heap.get? a=some oa) (hda:oa.data=.fields us) (hsz:2 < us.size)
   (ho:s.heap.get? h=some oh) (hd:oh.data=.fields vs) (h2:vs[2]?=some .none)
   (q:E (.ref a) { s with heap:=s.heap.update a (Obj.mapFields (·.setIfInBounds 2 (.ref h))) }):wpAny (model prog w) A (raiseNew (.ref a):Sem α) Q E s:=by
 unfold raiseNew; refine wpAny_bind (wpAny_handled ?_); rw [hh]
 dsimp only
 rw [if_pos (show (Value.ref h != Value.ref a)=true by simp [hne])]
 refine wpAny_bind (wpAny_holding (wpAny_runValue (codeAny_builtin fW ?_)))
 unfold Builtin.«proto.unchain»
 dsimp only
 refine wpAny_bind (wpAny_field ho hd h2 ?_)
 rw [if_pos (show (Value.none == Value.none)=true by decide)]
 refine wpAny_pure ?_
 show wpAny _ A (do let _ <- updateField a 2 (.ref h); throw (Value.ref a)) _ _ _
 unfold updateField
 refine wpAny_bind (wpAny_bind (wpAny_load ha ?_))
 rw [hda]
 dsimp only
 rw [if_pos hsz]
 exact wpAny_update ha (wpAny_throw q)
theorem i5 {r h:Addr} {v left step:Int} {oh:Obj} {vs:Array Value} {Q:Option Value->Shared->Prop} (hh:A.handled=some (.ref h)) (ho:s.heap.get? h=some oh) (hd:oh.data=.fields vs) (h2:vs[2]?=some .none)
   (hr:IsRangeIter s.heap r v left step) (hl:left<=0) (k:∀ h',Heap.ExtBut r s.heap h'->Q none { s with heap:=h' }):wpAny (model prog w) A (pyNext (.ref r)) Q E s:=by
 have ty:s.TypeIs (.ref r) "range_iterator":=⟨_,hr,rfl⟩
 have hlt:=Heap.lt_size ho
 have fl:∀ {α:Type} {B:Around} {F:Value->Shared->Prop} {R:α->Shared->Prop} (i:Nat) (y:Int) {f:Value->Sem α},(#[rawInt v,rawInt left,rawInt step]:Array Value)[i]?=some (rawInt y)->wpAny (model prog w) B (f (rawInt y)) R F s->wpAny (model prog w) B (field (.ref r) i >>= f) R F s:=by
   intro α B F R i y f e q
   exact wpAny_bind (wpAny_field hr rfl e q)
 unfold pyNext
 refine wpAny_bind (wpAny_attempt (wpAny_callSpecial?_slot (name:=Str.ofString "__next__") ty F.slot_range_iterator_next (wpAny_call_entry F.slot_range_iterator_next ty F.entry_range_iterator_next (fl 0 v rfl (fl 1 left rfl (fl 2 step rfl ?_))) (F.args_range_iterator_next_1 _))))
 show wpAny (model prog w) A.in1 (if left<=0 then _ else _) _ _ s
 rw [if_pos hl]
 refine wpAny_bind (wpAny_rule (wpAny_bind ?_))
 show wpAny _ _ (do let e <- newExc (.type "StopIteration") []; _) _ _ _
 refine wpAny_bind ?_
 simp only [newExc,newTuple]
 refine wpAny_bind (wpAny_newObj_type (wpAny_bind (m:=firstArgMember _ _) (wpAny_of_eq (a:=.none) (by first | rfl | (simp only [firstArgMember]; rfl)) (wpAny_newObj_type ?_ (by size_fits)))) (by size_fits))
 have hg:((s.heap.push { cls:=.type "tuple",data:=.seq ([]:List Value).toArray }).push { cls:=.type "StopIteration",data:=.fields (#[Value.ref s.heap.objs.size,.none,.none,.none,.bool false,.none]++ownMembersOf (.type "StopIteration") []) }).get? (s.heap.push { cls:=.type "tuple",data:=.seq ([]:List Value).toArray }).objs.size
     = some { cls:=.type "StopIteration",data:=.fields (#[Value.ref s.heap.objs.size,.none,.none,.none,.bool false,.none]++ownMembersOf (.type "StopIteration") []) }:=Heap.get?_push_size _ rfl
 refine iK (h:=h) (A:=A.in1) hh ?_ hg rfl (by rw [Array.size_append]; exact Nat.lt_of_lt_of_le (by decide:2 < 6) (Nat.le_add_right _ _)) (Heap.get?_push_of_some _ (Heap.get?_push_of_some _ ho)) hd h2 ?_
 · intro z
   rw [Heap.size_push] at z
   exact absurd hlt (by rw [z]; exact Nat.not_lt.mpr (Nat.le_succ _))
 have hu:=Heap.get?_update_self (Obj.mapFields (·.setIfInBounds 2 (.ref h))) hg rfl
 refine wpAny_bind (wpAny_isInstance (T:="StopIteration") (b:=true) ⟨_,hu,rfl⟩ isSubtype_stop ?_)
 refine wpAny_pure (k _ λb o hb e=>?_)
 have bl:=Heap.lt_size e
 rw [Heap.get?_update_other _ _ (by intro z; rw [Heap.size_push] at z; exact absurd bl (by rw [<- z]; exact Nat.not_lt.mpr (Nat.le_succ _)))]
 exact Heap.get?_push_of_some _ (Heap.get?_push_of_some _ e)
end
end Hx
set_option linter.all false
set_option maxRecDepth 100000
namespace L2
open PySem PySem.Spec PyProof.Rows
noncomputable abbrev Key:=Sum Int Str
noncomputable def nY:Key->Value->Bool
 | .inl k,v=>Value.isInt k v
 | .inr x,v=>Value.isStrOf x v
noncomputable def sO (w:World):Key->Int
 | .inl k=>hashInt k
 | .inr x=>hashStr w x
theorem aT:∀ {k:Key} {v:Value},nY k v=true->(∃ i t,k=Sum.inl i/\v=Value.int i t)\/(∃ x t,k=Sum.inr x/\v=Value.str x t)
 | .inl i,v,h=>by
   obtain ⟨t,e⟩:=Value.isInt_shape (k:=i) (v:=v) h
   exact .inl ⟨i,t,rfl,e⟩
 | .inr x,v,h=>by
   obtain ⟨t,e⟩:=Value.isStrOf_shape (x:=x) (v:=v) h
   exact .inr ⟨x,t,rfl,e⟩
theorem qw (a b:Int):decide ((Sum.inl a:Key)=Sum.inl b)=(a == b):=by
 by_cases e:a=b
 · subst e; simp
 · have h:¬ (Sum.inl a:Key)=Sum.inl b:=λq=>e (Sum.inl.inj q)
   rw [decide_eq_false h]
   exact (beq_eq_false_iff_ne.mpr e).symm
theorem qG (a b:Str):decide ((Sum.inr a:Key)=Sum.inr b)=decide (a=b):=by
 by_cases e:a=b
 · subst e; simp
 · have h:¬ (Sum.inr a:Key)=Sum.inr b:=λq=>e (Sum.inr.inj q)
   rw [decide_eq_false h,decide_eq_false e]
theorem qo (a:Int) (b:Str):decide ((Sum.inl a:Key)=Sum.inr b)=false:=decide_eq_false (λq=>nomatch q)
theorem pE (a:Str) (b:Int):decide ((Sum.inr a:Key)=Sum.inl b)=false:=decide_eq_false (λq=>nomatch q)
noncomputable def jl (prog:Program) (w:World):PySem.KeyKind prog w Key where
 is:=nY
 hash:=sO w
 inj:=λv a b ha hb=>by
   rcases aT ha with ⟨i,t,rfl,rfl⟩ | ⟨x,t,rfl,rfl⟩
   · rcases aT hb with ⟨j,u,rfl,e⟩ | ⟨y,u,rfl,e⟩
     · injection e with e1 _; rw [e1]
     · exact nomatch e
   · rcases aT hb with ⟨j,u,rfl,e⟩ | ⟨y,u,rfl,e⟩
     · exact nomatch e
     · injection e with e1 _; rw [e1]
 byValue:=λk v h=>by
   rcases aT h with ⟨i,t,rfl,rfl⟩ | ⟨x,t,rfl,rfl⟩ <;> rfl
 pyHash:=λhv h=>by
   rcases aT hv with ⟨i,t,rfl,rfl⟩ | ⟨x,t,rfl,rfl⟩
   · exact wpAny_pyHash_int h
   · exact wpAny_pyHash_str h
 eqBool:=λhu hv h=>by
   rcases aT hu with ⟨i,t,rfl,rfl⟩ | ⟨x,t,rfl,rfl⟩
   · rcases aT hv with ⟨j,u,rfl,rfl⟩ | ⟨y,u,rfl,rfl⟩
     · rw [qw] at h; exact wpAny_eqBool_int h
     · rw [qo] at h; exact SeqAt.EqAt.int_str i t y u _ _ _ _ h
   · rcases aT hv with ⟨j,u,rfl,rfl⟩ | ⟨y,u,rfl,rfl⟩
     · rw [pE] at h; exact SeqAt.EqAt.str_int x t j u _ _ _ _ h
     · rw [qG] at h; exact wpAny_eqBool_str h
 «strs»:=λk x t v h=>by
   rcases aT h with ⟨i,u,rfl,e⟩ | ⟨y,u,rfl,e⟩
   · exact nomatch e
   · injection e with e1 _
     subst e1
     cases v <;> rfl
inductive V where
 | non | bl (b:Bool) | int (i:Int) | str (x:Str) | byt (b:Array UInt8) | flt (b:UInt64) | ref (a:Addr) | ty (n:String)
 deriving DecidableEq
noncomputable def RelV:V->Value->Prop
 | .non,u=>u=Value.none
 | .bl b,u=>u=Value.bool b
 | .int i,u=>∃ t,u=Value.int i t
 | .str x,u=>∃ t,u=Value.str x t
 | .byt b,u=>∃ t,u=Value.bytes b t
 | .flt b,u=>∃ t,u=Value.float b t
 | .ref a,u=>u=Value.ref a
 | .ty n,u=>u=Value.type n
noncomputable abbrev Vals:List V->List Value->Prop:=Paired RelV
theorem Vals.length {xs:List V} {us:List Value} (r:Vals xs us):xs.length=us.length:=Paired.length r
theorem Vals.get:∀ {xs:List V} {us:List Value} {i:Nat} {x:V},Vals xs us->xs[i]?=some x->∃ u,us[i]?=some u/\RelV x u
 | _,_,_,_,.nil,e=>by simp at e
 | _,_,0,_,.cons r _,e=>by simp at e; subst e; exact ⟨_,rfl,r⟩
 | _,_,i + 1,x,.cons _ t,e=>by
   obtain ⟨u,h1,h2⟩:=Vals.get (i:=i) (x:=x) t (by simpa using e)
   exact ⟨u,by simpa using h1,h2⟩
theorem Vals.set {x:V} {u:Value} (r:RelV x u):∀ {xs:List V} {us:List Value} (i:Nat),Vals xs us->Vals (xs.set i x) (us.set i u)
 | _,_,_,.nil=>.nil
 | _,_,0,.cons _ t=>.cons r t
 | _,_,i + 1,.cons q t=>.cons q (Vals.set r i t)
theorem Vals.append:∀ {xs ys:List V} {us ws:List Value},Vals xs us->Vals ys ws->Vals (xs++ys) (us++ws)
 | _,_,_,_,.nil,s=>s
 | _,_,_,_,.cons r t,s=>.cons r (Vals.append t s)
theorem Vals.take:∀ {xs:List V} {us:List Value} (n:Nat),Vals xs us->Vals (xs.take n) (us.take n)
 | _,_,0,_=>.nil
 | _,_,_ + 1,.nil=>.nil
 | _,_,n + 1,.cons r t=>.cons r (Vals.take n t)
theorem Vals.drop:∀ {xs:List V} {us:List Value} (n:Nat),Vals xs us->Vals (xs.drop n) (us.drop n)
 | _,_,0,r=>r
 | _,_,_ + 1,.nil=>.nil
 | _,_,n + 1,.cons _ t=>Vals.drop n t
noncomputable def hV:Option V->Option Value->Prop
 | some v,some u=>RelV v u
 | none,none=>True
 | _,_=>False
noncomputable def KV {κ:Type}:List (κ × V)->List (κ × Value)->Prop:=Paired λ(p:κ × V) (q:κ × Value)=>p.1=q.1/\RelV p.2 q.2
noncomputable def kV:Key->V
 | .inl i=>.int i
 | .inr x=>.str x
inductive HO where
 | lst (xs:List V)
 | tup (xs:List V)
 | dK (kvs:List (Key × V)) | dT (kvs:List (List Key × V))
 | set (S:Int->Bool) (n:Nat)
 | ins (C dx:Addr) (fs:List (Str × V))
 | own (x:Addr)
 | xd (fs:List (Str × V))
 | met (f x:Addr)
 | rng (lo hi:Int)
 | frz (o:Obj) (u:HO)
 | tbl (ps:Array Value)
 | ext (φ:Heap->Prop)
noncomputable abbrev Hp:=Addr->Option HO
noncomputable def upd (H:Hp) (a:Addr) (o:HO):Hp:=λb=>if b=a then some o else H b
theorem aF {H:Hp} {a:Addr} {o:HO}:upd H a o a=some o:=by unfold upd; rw [if_pos rfl]
theorem aq {H:Hp} {a b:Addr} {o:HO} (h:b ≠ a):upd H a o b=H b:=by unfold upd; rw [if_neg h]
theorem av {H:Hp} {a b:Addr} {o:HO} (h:H a=some o) (h':H b=none):a ≠ b:=by
 intro e; subst e; rw [h] at h'; cases h'
section
variable (P:Program) (w:World)
noncomputable def bp (H:Hp) (h:Heap) (a:Addr):HO->Prop
 | .lst xs=>xs.length<=sizeLine/\∃ (its:List Value) (n:Nat),Vals xs its/\h.get? a=some { cls:=.type "list",data:=.seq its.toArray n }
 | .tup xs=>xs.length<=sizeLine/\∃ its:List Value,Vals xs its/\IsTup h a its.toArray
 | .dK kvs=>kvs.length<=sizeLine/\(a == sysModules)=false/\∃ vs,KV kvs vs/\h.DictOf (jl P w) a vs
 | .dT kvs=>kvs.length<=sizeLine/\(a == sysModules)=false/\∃ xs:List (List Key × Addr × Value),
     Paired (λ(p:List Key × V) (q:List Key × Addr × Value)=>p.1=q.1/\H q.2.1=some (.tup (p.1.map kV))/\RelV p.2 q.2.2) kvs xs /\
     ∃ o es ep,h.get? a=some o/\o.ExactDict/\o.data=.dict es ep/\es.toList=xs.map (entryOfKey (tupleKind (jl P w)))/\(xs.map (·.1)).Nodup
 | .set S n=>h.SetOf (intKind P w) a S n
 | .ins C dx fs=>H dx=some (.own a)/\fs.length<=1000/\dx ≠ a/\h.get? a=some (PySem.W.instObj C dx) /\
     ∃ mA,h.Ns1 dx mA/\(∀ f,hV (fs.lookup f) (mA f))/\PySem.Within mA (fs.map (·.1))
 | .own _=>∃ o,h.get? a=some o
 | .xd fs=>∃ mA,h.Ns1 a mA/\∀ f,hV (fs.lookup f) (mA f)
 | .rng lo hi=>∃ t u v,h.get? a=some { cls:=.type "range",data:=.fields #[.int lo t,.int hi u,.int 1 v] }
 | .frz o u=>h.get? a=some o/\bp H h a u
 | .tbl ps=>h.get? a=some { cls:=.none,data:=.fields ps }
 | .met f x=>h.get? a=some (PySem.W.methodObj (.ref f) (.ref x))
 | .ext φ=>φ h/\(∃ o,h.get? a=some o)/\∀ h1 h2:Heap,φ h1->(∀ o,h1.get? a=some o->h2.get? a=some o)->φ h2
noncomputable def HOk (H:Hp) (h:Heap):Prop:=∀ a o,H a=some o->bp P w H h a o
end
section
variable {P:Program} {w:World} {H H':Hp} {h h':Heap} {a:Addr} {o:HO}
theorem bp.lt (x:bp P w H h a o):a < h.objs.size:=by
 cases o with
 | lst xs=>obtain ⟨_,_,_,_,e⟩:=x; exact Heap.lt_size e
 | tup xs=>obtain ⟨_,_,_,p⟩:=x; exact p.lt
 | dK kvs=>obtain ⟨_,_,_,_,o,_,_,e,_⟩:=x; exact Heap.lt_size e
 | dT kvs=>obtain ⟨_,_,_,_,o,_,_,e,_⟩:=x; exact Heap.lt_size e
 | set S n=>obtain ⟨o,_,_,_,e,_⟩:=x; exact Heap.lt_size e
 | ins C dx fs=>obtain ⟨_,_,_,e,_⟩:=x; exact Heap.lt_size e
 | own y=>obtain ⟨_,e⟩:=x; exact Heap.lt_size e
 | xd fs=>obtain ⟨_,⟨_,_,_,e,_⟩,_⟩:=x; exact Heap.lt_size e
 | rng lo hi=>obtain ⟨_,_,_,e⟩:=x; exact Heap.lt_size e
 | frz ob u=>obtain ⟨e,_⟩:=x; exact Heap.lt_size e
 | tbl ps=>exact Heap.lt_size (show h.get? a=some _ from x)
 | met f y=>exact Heap.lt_size (show h.get? a=some _ from x)
 | ext φ=>obtain ⟨_,⟨_,e⟩,_⟩:=x; exact Heap.lt_size e
theorem Paired.pA {α β:Type} {F G:α->β->Prop}:∀ {l₁:List α} {l₂:List β},Paired F l₁ l₂->(∀ a b,F a b->G a b)->Paired G l₁ l₂
 | _,_,.nil,_=>.nil
 | _,_,.cons r t,f=>.cons (f _ _ r) (Paired.pA t f)
theorem bp.cy (x:bp P w H h a o) (k:∀ b u,(b=a\/H b=some (.own a))->h.get? b=some u->h'.get? b=some u)
   (ho:∀ b,H b=some (.own a)->H' b=some (.own a)) (ht:∀ b xs,H b=some (.tup xs)->H' b=some (.tup xs)):bp P w H' h' a o:=by
 induction o with
 | lst xs=>obtain ⟨z,its,n,r,e⟩:=x; exact ⟨z,its,n,r,k _ _ (.inl rfl) e⟩
 | tup xs=>obtain ⟨z,its,r,ob,e,c⟩:=x; exact ⟨z,its,r,ob,k _ _ (.inl rfl) e,c⟩
 | dK kvs=>obtain ⟨z,y,vs,r,ob,es,ep,e,c⟩:=x; exact ⟨z,y,vs,r,ob,es,ep,k _ _ (.inl rfl) e,c⟩
 | dT kvs=>
   obtain ⟨z,y,xs,r,ob,es,ep,e,c⟩:=x
   exact ⟨z,y,xs,Paired.pA r λp q z=>⟨z.1,ht _ _ z.2.1,z.2.2⟩,ob,es,ep,k _ _ (.inl rfl) e,c⟩
 | set S n=>obtain ⟨ob,es,ep,t,e,c⟩:=x; exact ⟨ob,es,ep,t,k _ _ (.inl rfl) e,c⟩
 | ins C dx fs=>
   obtain ⟨d,z,ne,e,mA,⟨od,es,ep,e2,c⟩,r⟩:=x
   exact ⟨ho _ d,z,ne,k _ _ (.inl rfl) e,mA,⟨od,es,ep,k _ _ (.inr d) e2,c⟩,r⟩
 | own y=>obtain ⟨ob,e⟩:=x; exact ⟨ob,k _ _ (.inl rfl) e⟩
 | xd fs=>obtain ⟨mA,⟨od,es,ep,e,c⟩,r⟩:=x; exact ⟨mA,⟨od,es,ep,k _ _ (.inl rfl) e,c⟩,r⟩
 | rng lo hi=>obtain ⟨t,u,v,e⟩:=x; exact ⟨t,u,v,k _ _ (.inl rfl) e⟩
 | frz ob u ih=>obtain ⟨e,q⟩:=x; exact ⟨k _ _ (.inl rfl) e,ih q⟩
 | tbl ps=>
   have e:h.get? a=some { cls:=.none,data:=.fields ps }:=x
   show h'.get? a=some { cls:=.none,data:=.fields ps }
   exact k a _ (.inl rfl) e
 | met f y=>
   have e:h.get? a=some (PySem.W.methodObj (.ref f) (.ref y)):=x
   show h'.get? a=some (PySem.W.methodObj (.ref f) (.ref y))
   exact k a _ (.inl rfl) e
 | ext φ=>obtain ⟨p,⟨o,e⟩,st⟩:=x; exact ⟨st _ _ p λo q=>k _ _ (.inl rfl) q,⟨o,k _ _ (.inl rfl) e⟩,st⟩
theorem HOk.lt (x:HOk P w H h) (e:H a=some o):a < h.objs.size:=(x a o e).lt
theorem HOk.fresh (x:HOk P w H h) (e:h.objs.size<=a):H a=none:=by
 cases q:H a with
 | none=>rfl
 | some u=>exact absurd (Nat.lt_of_lt_of_le (x.lt q) e) (Nat.lt_irrefl _)
theorem HOk.kept (x:HOk P w H h) (k:∀ b u,h.get? b=some u->h'.get? b=some u):HOk P w H h':=λa o e=>
 (x a o e).cy (λb u _ q=>k b u q) (λ_ q=>q) λ_ _ q=>q
theorem HOk.laid (x:HOk P w H h) (k:∀ b u,h.get? b=some u->h'.get? b=some u) (hp:h.objs.size<=a) (new:bp P w (upd H a o) h' a o):HOk P w (upd H a o) h':=λb u e=>by
 have hn:=x.fresh hp
 by_cases hb:b=a
 · subst hb; rw [aF] at e; cases e; exact new
 · rw [aq hb] at e
   exact (x b u e).cy (λc v _ q=>k c v q) (λc q=>by rw [aq (av q hn)]; exact q) λc xs q=>by rw [aq (av q hn)]; exact q
end
noncomputable def Rd (H:Hp) (a:Addr) (u:HO):Prop:=H a=some u\/∃ o,H a=some (.frz o u)
theorem Rd.ok {P:Program} {w:World} {H:Hp} {h:Heap} {a:Addr} {u:HO} (r:Rd H a u) (x:HOk P w H h):bp P w H h a u:=by
 rcases r with r | ⟨o,r⟩
 · exact x a u r
 · obtain ⟨_,q⟩:=x a _ r
   exact q
noncomputable def Mut:Option HO->Prop
 | some (.lst _)=>True
 | some (.dK _)=>True
 | some (.dT _)=>True
 | some (.set _ _)=>True
 | some (.ins _ _ _)=>True
 | some (.ext _)=>True
 | _=>False
section
variable {P:Program} {w:World} {H:Hp} {h h':Heap} {x e:Addr} {o':HO}
theorem HOk.write (ok:HOk P w H h) (mu:Mut (H x)) (he:e=x\/H e=some (.own x)) (k:∀ b u,b ≠ e->h.get? b=some u->h'.get? b=some u) (heo:∃ u,h'.get? e=some u)
   (new:bp P w (upd H x o') h' x o'):HOk P w (upd H x o') h':=λb u q=>by
 have nown:∀ c y,H c=some (.own y)->c ≠ x:=λc y r z=>by subst z; rw [r] at mu; exact mu
 have ntup:∀ c xs,H c=some (.tup xs)->c ≠ x:=λc xs r z=>by subst z; rw [r] at mu; exact mu
 by_cases hb:b=x
 · subst hb; rw [aF] at q; cases q; exact new
 · rw [aq hb] at q
   by_cases hbe:b=e
   · have q':H b=some (.own x):=by
       rcases he with z | z
       · exact absurd (hbe.trans z) hb
       · rw [hbe]; exact z
     rw [q] at q'; cases q'
     obtain ⟨v,hv⟩:=heo
     exact ⟨v,by rw [hbe]; exact hv⟩
   · refine (ok b u q).cy (λc v hc r=>k c v ?_ r) (λc r=>by rw [aq (nown c b r)]; exact r) λc xs r=>by rw [aq (ntup c xs r)]; exact r
     rcases hc with rfl | hc
     · exact hbe
     · rintro rfl
       rcases he with z | z
       · exact nown c b hc z
       · rw [hc] at z; cases z; exact hb rfl
end
structure Un (fs ex:List Addr) (H H':Hp) (h h':Heap):Prop where
 keep:∀ b o,h.get? b=some o->H b=none->b ∉ fs->b ∉ ex->h'.get? b=some o
 slot:∀ b o,h.get? b=some o->H b=none->b ∈ fs->b ∉ ex->∃ sl,h'.get? b=some { o with slots:=sl }
 free:∀ b o,h.get? b=some o->H b=none->b ∉ ex->H' b=none
 there:∀ b o,h.get? b=some o->b ∉ ex->∃ o',h'.get? b=some o'
 tups:∀ b xs,H b=some (.tup xs)->H' b=some (.tup xs)
 frzs:∀ b o u,H b=some (.frz o u)->H' b=some (.frz o u)
 tbls:∀ b ps,H b=some (.tbl ps)->∃ more,H' b=some (.tbl (ps++more))
section
variable {fs fs' ex ex':List Addr} {H H1 H2:Hp} {h h1 h2 h':Heap} {a x e:Addr} {o:HO}
theorem Un.any (u:Un fs ex H H1 h h1) {b:Addr} {ob:Obj} (q:h.get? b=some ob) (n:H b=none) (hx:b ∉ ex):∃ sl,h1.get? b=some { ob with slots:=sl }:=by
 by_cases hb:b ∈ fs
 · exact u.slot b ob q n hb hx
 · exact ⟨ob.slots,u.keep b ob q n hb hx⟩
theorem Un.kept (k:∀ b u,h.get? b=some u->h'.get? b=some u):Un fs ex H H h h':=
 ⟨λb ob q _ _ _=>k b ob q,λb ob q _ _ _=>⟨ob.slots,k b ob q⟩,λ_ _ _ n _=>n,λb ob q _=>⟨ob,k b ob q⟩,λ_ _ q=>q,λ_ _ _ q=>q,λ_ ps q=>⟨#[],by rw [q]; simp⟩⟩
theorem Un.refl:Un fs ex H H h h:=Un.kept λ_ _ q=>q
theorem Un.laid (k:∀ b u,h.get? b=some u->h'.get? b=some u) (hp:h.objs.size<=a) (hn:H a=none):Un fs ex H (upd H a o) h h' where
 keep:=λb u q _ _ _=>k b u q
 slot:=λb u q _ _ _=>⟨u.slots,k b u q⟩
 free:=λb u q n _=>by rw [aq (Nat.ne_of_lt (Nat.lt_of_lt_of_le (Heap.lt_size q) hp))]; exact n
 there:=λb u q _=>⟨u,k b u q⟩
 tups:=λb xs q=>by rw [aq (av q hn)]; exact q
 frzs:=λb u xs q=>by rw [aq (av q hn)]; exact q
 tbls:=λb ps q=>⟨#[],by rw [aq (av q hn),q]; simp⟩
theorem Un.write (mu:Mut (H x)) (he:e=x\/H e=some (.own x)) (k:∀ b u,b ≠ e->h.get? b=some u->h'.get? b=some u) (heo:∃ u,h'.get? e=some u):Un fs ex H (upd H x o) h h':=by
 have hx:∀ b,H b=none->b ≠ x:=λb n z=>by subst z; rw [n] at mu; exact mu
 have hb:∀ b,H b=none->b ≠ e:=λb n z=>by
   subst z
   rcases he with r | r
   · exact hx b n r
   · rw [n] at r; cases r
 have hm:∀ b u,H b=some u->¬ Mut (some u)->b ≠ x:=λb u q nm z=>by subst z; rw [q] at mu; exact nm mu
 refine ⟨λb u q n _ _=>k b u (hb b n) q,λb u q n _ _=>⟨u.slots,k b u (hb b n) q⟩,λb u q n _=>by rw [aq (hx b n)]; exact n,λb u q _=>?_,
   λb xs q=>by rw [aq (hm b _ q λz=>z)]; exact q,λb u xs q=>by rw [aq (hm b _ q λz=>z)]; exact q,λb ps q=>⟨#[],by rw [aq (hm b _ q λz=>z),q]; simp⟩⟩
 by_cases hbe:b=e
 · subst hbe; exact heo
 · exact ⟨u,k b u hbe q⟩
theorem Un.mono (u:Un fs ex H H1 h h1) (hs:∀ b ∈ fs,b ∈ fs') (hx:∀ b ∈ ex,b ∈ ex'):Un fs' ex' H H1 h h1:=
 ⟨λb ob q n hb he=>u.keep b ob q n (λz=>hb (hs b z)) λz=>he (hx b z),λ_ _ q n _ he=>u.any q n λz=>he (hx _ z),λb ob q n he=>u.free b ob q n λz=>he (hx b z),λb ob q he=>u.there b ob q λz=>he (hx b z),u.tups,u.frzs,u.tbls⟩
end
noncomputable def trk (h:Heap) (H:Hp):List Addr:=(List.range h.objs.size).filter λa=>(H a).isSome
noncomputable def gR (h:Heap) (H:Hp):Heap:=PySem.W.hideAll h (trk h H)
theorem kn (h:Heap) (H:Hp):(gR h H).objs.size=h.objs.size:=PySem.W.hideAll_size _ _
theorem k9 {h:Heap} {H:Hp} {b:Addr} {o:Obj} (e:h.get? b=some o) (n:H b=none):(gR h H).get? b=some o:=
 PySem.W.hideAll_get _ e λhm=>by
   have q:(H b).isSome=true:=(List.mem_filter.mp hm).2
   rw [n] at q; simp at q
theorem mW {h:Heap} {H:Hp} {b:Addr} {o:Obj} (e:(gR h H).get? b=some o):h.get? b=some o/\H b=none:=by
 have e':h.get? b=some o:=PySem.W.of_hideAll (trk h H) e
 refine ⟨e',?_⟩
 cases q:H b with
 | none=>rfl
 | some x=>
   have hm:b ∈ trk h H:=List.mem_filter.mpr ⟨List.mem_range.mpr (Heap.lt_size e'),by simp [q]⟩
   have z:(gR h H).get? b=none:=PySem.W.hideAll_none (trk h H) hm
   rw [z] at e; cases e
noncomputable def nr (g h:Heap) (L:Addr):List (Addr × Obj):=(List.range h.objs.size).filterMap λa=>if a=L\/(g.get? a).isSome=true then none else (h.get? a).map λo=>(a,o)
noncomputable def rest (g h:Heap) (L d:Addr):List (Addr × Obj):=(nr g h L).filter λp=>decide (p.1 ≠ d)
structure Mod (K:PySem.W.Frag) (mg:Str->Option Value) (base:Heap):Prop where
 kin:K.In base
 glob:base.Ns mainGlobals mg
 blt:∃ mb,base.Ns builtinsNs mb/\∀ x:Str,x ≠ "__name__" -> mb x=bootBuiltins x
 nolimit:base.NoLimit
structure Cx where
 prog:Program
 w:World
 K:PySem.W.Frag
 mg:Str->Option Value
 base:Heap
 A:Around
 N:List Str
 s₀:Shared
 H₀:Hp
 env:Env
 outer:List Env
 stack:List Env
 ex:List Addr
 fn:Str->Bool
 calm:Bool
 pn:List (Addr × Obj)
 xe:Value->Shared->Prop
noncomputable def frs (l:List Env):List Addr:=l.filterMap (·.frame)
noncomputable abbrev Cx.fs (X:Cx):List Addr:=frs X.outer
noncomputable def Vis (sc:Scope) (x:Str):Prop:=sc.names.lookup x=some .local\/sc.names.lookup x=some .cell\/sc.names.lookup x=some .free
noncomputable def Loc (sc:Scope) (x:Str):Prop:=sc.names.lookup x=some .local\/sc.names.lookup x=some .cell
noncomputable def Look (env:Env) (h:Heap) (m:Str->Option Value) (x:Str) (u:Value):Prop:=
 (env.kindOf x=some .local/\m x=some u)\/((env.kindOf x=some .cell\/env.kindOf x=some .free)/\∃ c,env.cells.lookup x=some c/\h.IsCell c (some u))
structure Cx.Ok (X:Cx):Prop where
 mod:Mod X.K X.mg X.base
 kind:X.env.scope.kind=.function
 glob:X.env.globals=mainGlobals
 blt:X.env.builtins=builtinsNs
 above:X.s₀.heap.objs.size<=X.env.locals
 inj:∀ x y c,X.env.cells.lookup x=some c->X.env.cells.lookup y=some c->x=y
 has:∀ x,(X.env.kindOf x=some .cell\/X.env.kindOf x=some .free)->∃ c,X.env.cells.lookup x=some c
 cab:∀ x c,X.fn x=true->X.env.cells.lookup x=some c->X.s₀.heap.objs.size<=c
 hd:X.calm=true->X.A.handled=none
 frames:X.A.frames=some X.stack
 stk:X.stack=X.outer\/(X.stack=X.env :: X.outer/\X.env.frame=some X.env.locals)
 exf:∀ b ∈ X.ex,b ≠ X.env.locals/\∀ x c,X.env.cells.lookup x=some c->c ≠ b
 bs:∀ b o,X.base.get? b=some o->X.s₀.heap.get? b=some o/\X.H₀ b=none
 bsz:X.base.objs.size<=X.s₀.heap.objs.size
 noex:∀ b o,X.base.get? b=some o->b ∉ X.ex
 exfs:∀ b ∈ X.ex,b ∉ X.fs
 dF:X.s₀.heap.FunFrames X.base X.outer
 frf:∀ b ∈ X.fs,X.H₀ b=none
structure Inv (X:Cx) (pins:List (Addr × Obj)) (σ:List (Option V)) (H:Hp) (s:Shared):Prop where
 ok:X.Ok
 os:s.os=X.s₀.os
 bare:AllBare s.gens
 base:Un X.fs X.ex X.H₀ H X.s₀.heap s.heap
 loc:∃ m,s.heap.Ns X.env.locals m/\∀ (i:Nat) (x:Str) (v:V),X.N[i]?=some x->σ[i]?=some (some v)->Vis X.env.scope x->∃ u,RelV v u/\Look X.env s.heap m x u
 cell:∀ x c,X.env.cells.lookup x=some c->∃ v,s.heap.IsCell c v
 free:H X.env.locals=none
 freeC:∀ x c,X.env.cells.lookup x=some c->H c=none
 pin:∀ p ∈ X.pn++pins,s.heap.get? p.1=some p.2/\H p.1=none/\p.1 ≠ X.env.locals/\p.1 ∉ X.fs/\∀ v,p.2.data ≠ .cell v
 hok:HOk X.prog X.w H s.heap
 len:σ.length=X.N.length
section
variable {X:Cx} {pins:List (Addr × Obj)} {σ:List (Option V)} {H H':Hp} {s:Shared} {h':Heap}
theorem Cx.Ok.tD (ok:X.Ok) {b:Addr} {o:Obj} (e:X.base.get? b=some o):b ∉ X.fs:=λhb=>by
 have:=(ok.dF.mem hb).1
 rw [e] at this; cases this
theorem Inv.bs (I:Inv X pins σ H s):∀ b o,X.base.get? b=some o->s.heap.get? b=some o/\H b=none:=λb o e=>
 ⟨I.base.keep b o (I.ok.bs b o e).1 (I.ok.bs b o e).2 (I.ok.tD e) (I.ok.noex b o e),I.base.free b o (I.ok.bs b o e).1 (I.ok.bs b o e).2 (I.ok.noex b o e)⟩
theorem Inv.bk (I:Inv X pins σ H s):∀ b o,X.base.get? b=some o->s.heap.get? b=some o:=λb o e=>(I.bs b o e).1
theorem Inv.mod (I:Inv X pins σ H s):Mod X.K X.mg X.base:=I.ok.mod
theorem Inv.kIn (I:Inv X pins σ H s):X.K.In s.heap:=I.ok.mod.kin.keeps I.bk
theorem Inv.lt (I:Inv X pins σ H s):X.env.locals < s.heap.objs.size:=let ⟨_,hn,_⟩:=I.loc; hn.lt
theorem Inv.sz (I:Inv X pins σ H s):X.s₀.heap.objs.size<=s.heap.objs.size:=Nat.le_trans I.ok.above (Nat.le_of_lt I.lt)
theorem Inv.sM (I:Inv X pins σ H s) {a:Addr} (h:s.heap.objs.size<=a):a ∉ X.fs:=λhb=>by
 obtain ⟨_,o,ho,_⟩:=I.ok.dF.mem hb
 exact absurd (Nat.lt_of_lt_of_le (Heap.lt_size ho) (Nat.le_trans I.sz h)) (Nat.lt_irrefl _)
theorem Inv.cne (I:Inv X pins σ H s):∀ x c,X.env.cells.lookup x=some c->c ≠ X.env.locals:=λx c e z=>by
 obtain ⟨v,o,ho,hd⟩:=I.cell x c e
 obtain ⟨m,⟨o',es,ep,ho',hd',_⟩,_⟩:=I.loc
 rw [z,ho'] at ho; cases ho; rw [hd'] at hd; cases hd
theorem Inv.dF (I:Inv X pins σ H s):s.heap.FunFrames X.base X.outer:=by
 have all:∀ (l:List Env),(∀ b ∈ frs l,b ∈ X.fs)->X.s₀.heap.FunFrames X.base l->s.heap.FunFrames X.base l:=by
   intro l
   induction l with
   | nil=>intro _ _; trivial
   | cons env r ih=>
     intro hs hl
     obtain ⟨hk,⟨L,o,hf,hn,ho,hd⟩,hr⟩:=hl
     have hL:L ∈ X.fs:=hs L (by unfold frs; rw [List.filterMap_cons,hf]; exact List.mem_cons_self)
     obtain ⟨sl,e⟩:=I.base.slot L o ho (I.ok.frf L hL) hL λz=>I.ok.exfs L z hL
     exact ⟨hk,⟨L,_,hf,hn,e,hd⟩,ih (λb hb=>hs b (by unfold frs; rw [List.filterMap_cons,hf]; exact List.mem_cons_of_mem _ hb)) hr⟩
 exact all X.outer (λ_ hb=>hb) I.ok.dF
theorem Inv.stack (I:Inv X pins σ H s):s.heap.FunFrames X.base X.stack:=by
 rcases I.ok.stk with e | ⟨e,hf⟩
 · rw [e]; exact I.dF
 · rw [e]
   obtain ⟨m,hn,_⟩:=I.loc
   refine .cons (by rw [I.ok.kind]; decide) hf hn ?_ I.dF
   exact Heap.get?_none_of_le (Nat.le_trans I.ok.bsz I.ok.above)
theorem Inv.eX (I:Inv X pins σ H s):∀ b ∈ frs X.stack,b ∈ X.env.locals :: X.fs:=λb hb=>by
 rcases I.ok.stk with e | ⟨e,hf⟩
 · rw [e] at hb; exact List.mem_cons_of_mem _ hb
 · rw [e] at hb
   unfold frs at hb
   rw [List.filterMap_cons,hf] at hb
   exact hb
theorem Inv.dr (I:Inv X pins σ H s):∀ b ∈ frs X.stack,H b=none:=λb hb=>by
 rcases List.mem_cons.mp (I.eX b hb) with e | hb
 · rw [e]; exact I.free
 · obtain ⟨_,o,ho,_⟩:=I.ok.dF.mem hb
   exact I.base.free b o ho (I.ok.frf b hb) λz=>I.ok.exfs b z hb
theorem Inv.step {g':Array GenState} {t':Nat} {d':Drawn} {ch:List Addr} (I:Inv X pins σ H s)
   (hch:∀ b ∈ ch,(b ∈ X.ex\/X.s₀.heap.objs.size<=b)/\b ≠ X.env.locals/\(∀ x c,X.env.cells.lookup x=some c->c ≠ b)/\∀ p ∈ X.pn++pins,p.1 ≠ b)
   (keep:∀ b o,b ≠ X.env.locals->b ∉ X.fs->b ∉ ch->s.heap.get? b=some o->H b=none->h'.get? b=some o)
   (slot:∀ b o,b ≠ X.env.locals->b ∈ X.fs->b ∉ ch->s.heap.get? b=some o->H b=none->∃ sl,h'.get? b=some { o with slots:=sl }) (free:∀ b o,b ∉ ch->s.heap.get? b=some o->H b=none->H' b=none)
   (there:∀ b o,b ∉ ch->s.heap.get? b=some o->∃ o',h'.get? b=some o')
   (tups:∀ b xs,H b=some (.tup xs)->H' b=some (.tup xs)) (frzs:∀ b o u,H b=some (.frz o u)->H' b=some (.frz o u)) (tbls:∀ b ps,H b=some (.tbl ps)->∃ more,H' b=some (.tbl (ps++more)))
   (ns:∀ m,s.heap.Ns X.env.locals m->h'.Ns X.env.locals m) (hok:HOk X.prog X.w H' h') (hg:AllBare g') :
   Inv X pins σ H' { s with heap:=h',gens:=g',drawn:=d',toks:=t' }:=by
 have neL:∀ b o,X.s₀.heap.get? b=some o->b ≠ X.env.locals:=λb o e=>Nat.ne_of_lt (Nat.lt_of_lt_of_le (Heap.lt_size e) I.ok.above)
 have neC:∀ b o,X.s₀.heap.get? b=some o->b ∉ X.ex->b ∉ ch:=λb o e hx hb=>by
   rcases (hch b hb).1 with z | z
   · exact hx z
   · exact absurd (Nat.lt_of_lt_of_le (Heap.lt_size e) z) (Nat.lt_irrefl _)
 have cellK:∀ x c,X.env.cells.lookup x=some c->∀ v,s.heap.IsCell c v->h'.IsCell c v:=λx c e v ⟨o,ho,hd⟩=>by
   have nch:c ∉ ch:=λz=>(hch c z).2.2.1 x c e rfl
   by_cases hc:c ∈ X.fs
   · obtain ⟨sl,q⟩:=slot c o (I.cne x c e) hc nch ho (I.freeC x c e)
     exact ⟨_,q,hd⟩
   · exact ⟨o,keep c o (I.cne x c e) hc nch ho (I.freeC x c e),hd⟩
 refine ⟨I.ok,I.os,hg,⟨λb o e n hb hx=>?_,λb o e n hb hx=>?_,λb o e n hx=>?_,λb o e hx=>?_,λb xs e=>tups b xs (I.base.tups b xs e),λb o xs e=>frzs b o xs (I.base.frzs b o xs e),λb ps e=>?_⟩,?_,λx c e=>?_,?_,λx c e=>?_,λp hp=>?_,hok,I.len⟩
 · exact keep b o (neL b o e) hb (neC b o e hx) (I.base.keep b o e n hb hx) (I.base.free b o e n hx)
 · obtain ⟨sl,e1⟩:=I.base.slot b o e n hb hx
   obtain ⟨sl',e2⟩:=slot b _ (neL b o e) hb (neC b o e hx) e1 (I.base.free b o e n hx)
   exact ⟨sl',e2⟩
 · obtain ⟨o',e1⟩:=I.base.there b o e hx
   exact free b o' (neC b o e hx) e1 (I.base.free b o e n hx)
 · obtain ⟨o',e1⟩:=I.base.there b o e hx
   exact there b o' (neC b o e hx) e1
 · obtain ⟨m1,e1⟩:=I.base.tbls b ps e
   obtain ⟨m2,e2⟩:=tbls b _ e1
   exact ⟨m1++m2,by rw [e2,Array.append_assoc]⟩
 · obtain ⟨m,hn,hl⟩:=I.loc
   refine ⟨m,ns m hn,λi x v e1 e2 e3=>?_⟩
   obtain ⟨u,r,l⟩:=hl i x v e1 e2 e3
   refine ⟨u,r,?_⟩
   rcases l with l | ⟨k,c,e,z⟩
   · exact .inl l
   · exact .inr ⟨k,c,e,cellK x c e _ z⟩
 · obtain ⟨v,z⟩:=I.cell x c e
   exact ⟨v,cellK x c e v z⟩
 · obtain ⟨m,⟨o,_,_,ho,_⟩,_⟩:=I.loc
   exact free _ o (λz=>(hch _ z).2.1 rfl) ho I.free
 · obtain ⟨v,o,ho,hd⟩:=I.cell x c e
   exact free c o (λz=>(hch c z).2.2.1 x c e rfl) ho (I.freeC x c e)
 · obtain ⟨e,n,ne,nf,d⟩:=I.pin p hp
   have nch:p.1 ∉ ch:=λz=>(hch p.1 z).2.2.2 p hp rfl
   exact ⟨keep p.1 p.2 ne nf nch e n,free p.1 p.2 nch e n,ne,nf,d⟩
theorem Inv.un {t':Nat} (I:Inv X pins σ H s) (u:Un X.fs [] H H' s.heap h') (hok:HOk X.prog X.w H' h'):Inv X pins σ H' { s with heap:=h',toks:=t' }:=by
 obtain ⟨m,⟨o,es,ep,ho,r⟩,_⟩:=id I.loc
 obtain ⟨sl,hL⟩:=u.any ho I.free (by simp)
 exact I.step (g':=s.gens) (d':=s.drawn) (ch:=[]) (λ_ z=>nomatch z) (λb o _ hb _ e n=>u.keep b o e n hb (by simp)) (λb o _ hb _ e n=>u.slot b o e n hb (by simp)) (λb o _ e n=>u.free b o e n (by simp)) (λb o _ e=>u.there b o e (by simp)) u.tups u.frzs u.tbls (λm' hm=>by
   obtain ⟨o',es',ep',ho',r'⟩:=hm
   rw [ho] at ho'; cases ho'
   exact ⟨_,es',ep',hL,r'⟩) hok I.bare
theorem Inv.call {g':Array GenState} {t':Nat} {d':Drawn} {ch:List Addr} (I:Inv X pins σ H s) (u:Un (frs X.stack) ch H H' s.heap h') (hok:HOk X.prog X.w H' h') (hg:AllBare g')
   (hch:∀ b ∈ ch,(b ∈ X.ex\/X.s₀.heap.objs.size<=b)/\b ≠ X.env.locals/\(∀ x c,X.env.cells.lookup x=some c->c ≠ b)/\∀ p ∈ X.pn++pins,p.1 ≠ b) :
   Inv X pins σ H' { s with heap:=h',gens:=g',drawn:=d',toks:=t' }:=by
 obtain ⟨m,⟨o,es,ep,ho,r⟩,_⟩:=id I.loc
 obtain ⟨sl,hL⟩:=u.any ho I.free λz=>(hch _ z).2.1 rfl
 exact I.step (ch:=ch) hch (λb o hL hb hc e n=>u.keep b o e n (λz=>(List.mem_cons.mp (I.eX b z)).elim hL hb) hc) (λb o _ _ hc e n=>u.any e n hc) (λb o hc e n=>u.free b o e n hc) (λb o hc e=>u.there b o e hc) u.tups u.frzs u.tbls (λm' hm=>by
   obtain ⟨o',es',ep',ho',r'⟩:=hm
   rw [ho] at ho'; cases ho'
   exact ⟨_,es',ep',hL,r'⟩) hok hg
theorem Inv.turned {t':Nat} {it:Addr} (I:Inv X pins σ H s) (k:∀ b o,b ≠ it->s.heap.get? b=some o->h'.get? b=some o) (hn:H it=none) (hL:it ≠ X.env.locals)
   (h1:it ∈ X.ex\/X.s₀.heap.objs.size<=it) (h2:∀ x c,X.env.cells.lookup x=some c->c ≠ it) (h3:∀ p ∈ X.pn++pins,p.1 ≠ it):Inv X pins σ H { s with heap:=h',toks:=t' }:=by
 have nit:∀ b u,H b=some u->b ≠ it:=λb u e z=>by rw [z,hn] at e; cases e
 refine I.step (g':=s.gens) (d':=s.drawn) (ch:=[it]) (λb hb=>?_) (λb o _ _ hc e _=>k b o (λz=>hc (by simp [z])) e) (λb o _ _ hc e _=>⟨o.slots,k b o (λz=>hc (by simp [z])) e⟩) (λ_ _ _ _ n=>n)
   (λb o hc e=>⟨o,k b o (λz=>hc (by simp [z])) e⟩) (λ_ _ e=>e) (λ_ _ _ e=>e) (λb ps e=>⟨#[],by rw [e]; simp⟩) (λm hm=>?_) (λb u e=>?_) I.bare
 · have e:b=it:=by simpa using hb
   subst e
   exact ⟨h1,hL,h2,h3⟩
 · obtain ⟨o,es,ep,ho,r⟩:=hm
   exact ⟨o,es,ep,k _ o (Ne.symm hL) ho,r⟩
 · refine (I.hok b u e).cy (λc v hc q=>k c v ?_ q) (λ_ q=>q) λ_ _ q=>q
   rcases hc with z | z
   · rw [z]; exact nit b u e
   · exact nit c _ z
theorem Inv.tok (I:Inv X pins σ H s) (t:Nat):Inv X pins σ H { s with toks:=t }:=I.un (h':=s.heap) (t':=t) Un.refl I.hok
theorem Inv.kept {t':Nat} (I:Inv X pins σ H s) (k:∀ b u,s.heap.get? b=some u->h'.get? b=some u):Inv X pins σ H { s with heap:=h',toks:=t' }:=I.un (Un.kept k) (I.hok.kept k)
theorem Inv.laid {a:Addr} {o:HO} {t':Nat} (I:Inv X pins σ H s) (k:∀ b u,s.heap.get? b=some u->h'.get? b=some u) (hp:s.heap.objs.size<=a) (new:bp X.prog X.w (upd H a o) h' a o) :
   Inv X pins σ (upd H a o) { s with heap:=h',toks:=t' }:=I.un (Un.laid k hp (I.hok.fresh hp)) (I.hok.laid k hp new)
theorem Inv.write {x e:Addr} {o:HO} {t':Nat} (I:Inv X pins σ H s) (mu:Mut (H x)) (he:e=x\/H e=some (.own x)) (k:∀ b u,b ≠ e->s.heap.get? b=some u->h'.get? b=some u) (heo:∃ u,h'.get? e=some u)
   (new:bp X.prog X.w (upd H x o) h' x o):Inv X pins σ (upd H x o) { s with heap:=h',toks:=t' }:=I.un (Un.write mu he k heo) (I.hok.write mu he k heo new)
theorem Inv.jr {pins':List (Addr × Obj)} (I:Inv X pins σ H s) (h:∀ p ∈ pins',s.heap.get? p.1=some p.2/\H p.1=none/\p.1 ≠ X.env.locals/\p.1 ∉ X.fs/\∀ v,p.2.data ≠ .cell v):Inv X pins' σ H s:=
 ⟨I.ok,I.os,I.bare,I.base,I.loc,I.cell,I.free,I.freeC,λp hp=>(List.mem_append.mp hp).elim (λz=>I.pin p (List.mem_append_left _ z)) (h p),I.hok,I.len⟩
theorem fD {N:List Str} (hN:N.Nodup) {i j:Nat} {x:Str} (a:N[i]?=some x) (b:N[j]?=some x):i=j:=by
 obtain ⟨h1,e1⟩:=List.getElem?_eq_some_iff.mp a
 obtain ⟨h2,e2⟩:=List.getElem?_eq_some_iff.mp b
 exact (List.getElem_inj hN).mp (e1.trans e2.symm)
theorem j8 {M:Model} {A:Around} {E:Value->Shared->Prop} {i:Nat} {x:Str} {v:V} {u:Value} {Q:Unit->Shared->Prop} (I:Inv X pins σ H s) (hN:X.N.Nodup) (hi:X.N[i]?=some x) (hx:Loc X.env.scope x) (r:RelV v u)
   (h:∀ s',Inv X pins (σ.set i (some v)) H s'->(∃ a,Heap.SameBut a s.heap s'.heap/\(a=X.env.locals\/X.env.cells.lookup x=some a))->Q () s') (hf:X.fn x=true\/X.env.scope.names.lookup x=some .local:=by first | exact .inl rfl | exact .inr rfl | assumption):wpAny M A (storeName X.env x u) Q E s:=by
 obtain ⟨m,hn,hl⟩:=id I.loc
 have hcls:(X.env.scope.kind == .class || (X.env.scope.kind == .module && X.env.locals != X.env.globals))=false:=by rw [I.ok.kind]; rfl
 have hiσ:i < σ.length:=by rw [I.len]; exact (List.getElem?_eq_some_iff.mp hi).1
 have cne:=I.cne
 have tracked:∀ {a:Addr} {h':Heap},(∃ o,s.heap.get? a=some o/\H a=none)->Heap.SameBut a s.heap h'->HOk X.prog X.w H h':=λ{a h'} ha hs b ob e=>by
   obtain ⟨_,_,hfree⟩:=ha
   refine (I.hok b ob e).cy (λc w' hc q=>(hs.2 c ?_).trans q) (λ_ q=>q) λ_ _ q=>q
   rintro rfl
   rcases hc with rfl | hc
   · rw [hfree] at e; cases e
   · rw [hfree] at hc; cases hc
 rcases hx with hk | hk
 · refine wpAny_storeName_local hk hn (λh' hn' hs=>?_) hcls
   obtain ⟨oL,_,_,hoL,_⟩:=id hn
   refine h _ ⟨I.ok,I.os,I.bare,⟨λb o e n hb hx=>?_,λb o e n hb hx=>?_,I.base.free,λb o e hx=>?_,I.base.tups,I.base.frzs,I.base.tbls⟩,⟨_,hn',λj y v' e1 e2 e3=>?_⟩,λy c e=>?_,I.free,I.freeC,λp hp=>?_,tracked ⟨oL,hoL,I.free⟩ hs,by simpa using I.len⟩ ⟨_,hs,.inl rfl⟩
   · exact (hs.2 b (Nat.ne_of_lt (Nat.lt_of_lt_of_le (Heap.lt_size e) I.ok.above))).trans (I.base.keep b o e n hb hx)
   · obtain ⟨sl,e1⟩:=I.base.slot b o e n hb hx
     exact ⟨sl,(hs.2 b (Nat.ne_of_lt (Nat.lt_of_lt_of_le (Heap.lt_size e) I.ok.above))).trans e1⟩
   · obtain ⟨o',e1⟩:=I.base.there b o e hx
     exact ⟨o',(hs.2 b (Nat.ne_of_lt (Nat.lt_of_lt_of_le (Heap.lt_size e) I.ok.above))).trans e1⟩
   · by_cases hj:j=i
     · subst hj
       rw [hi] at e1; cases e1
       rw [List.getElem?_set_self hiσ] at e2
       cases e2
       exact ⟨u,r,.inl ⟨hk,by simp⟩⟩
     · rw [List.getElem?_set_ne (Ne.symm hj)] at e2
       obtain ⟨u',r',q⟩:=hl j y v' e1 e2 e3
       refine ⟨u',r',?_⟩
       rcases q with ⟨k,e⟩ | ⟨k,c,e,z⟩
       · refine .inl ⟨k,?_⟩
         have:y ≠ x:=λe=>hj (fD hN e1 (e ▸ hi))
         simp [this,e]
       · exact .inr ⟨k,c,e,z.sameBut hs (cne y c e)⟩
   · obtain ⟨w',z⟩:=I.cell y c e
     exact ⟨w',z.sameBut hs (cne y c e)⟩
   · obtain ⟨e,n,ne,nf,d⟩:=I.pin p hp
     exact ⟨(hs.2 p.1 ne).trans e,n,ne,nf,d⟩
 · have hfn:X.fn x=true:=by
     rcases hf with z | z
     · exact z
     · rw [z] at hk; cases hk
   obtain ⟨c,hc⟩:=I.ok.has x (.inl hk)
   obtain ⟨w',z⟩:=I.cell x c hc
   refine wpAny_storeName_cell I.ok.kind hk hc z (λh' hc' hs=>?_)
   obtain ⟨oc,hoc,hocd⟩:=id z
   refine h { s with heap:=h' } ⟨I.ok,I.os,I.bare,⟨λb o e n hb hx=>?_,λb o e n hb hx=>?_,I.base.free,λb o e hx=>?_,I.base.tups,I.base.frzs,I.base.tbls⟩,⟨m,hn.sameBut hs (Ne.symm (cne x c hc)),λj y v' e1 e2 e3=>?_⟩,λy c' e=>?_,I.free,I.freeC,λp hp=>?_,tracked ⟨oc,hoc,I.freeC x c hc⟩ hs,by simpa using I.len⟩ ⟨c,hs,.inr hc⟩
   · exact (hs.2 b (Nat.ne_of_lt (Nat.lt_of_lt_of_le (Heap.lt_size e) (I.ok.cab x c hfn hc)))).trans (I.base.keep b o e n hb hx)
   · obtain ⟨sl,e1⟩:=I.base.slot b o e n hb hx
     exact ⟨sl,(hs.2 b (Nat.ne_of_lt (Nat.lt_of_lt_of_le (Heap.lt_size e) (I.ok.cab x c hfn hc)))).trans e1⟩
   · obtain ⟨o',e1⟩:=I.base.there b o e hx
     exact ⟨o',(hs.2 b (Nat.ne_of_lt (Nat.lt_of_lt_of_le (Heap.lt_size e) (I.ok.cab x c hfn hc)))).trans e1⟩
   · by_cases hj:j=i
     · subst hj
       rw [hi] at e1; cases e1
       rw [List.getElem?_set_self hiσ] at e2
       cases e2
       exact ⟨u,r,.inr ⟨.inl hk,c,hc,hc'⟩⟩
     · rw [List.getElem?_set_ne (Ne.symm hj)] at e2
       obtain ⟨u',r',q⟩:=hl j y v' e1 e2 e3
       refine ⟨u',r',?_⟩
       rcases q with q | ⟨k,c',e,z'⟩
       · exact .inl q
       · refine .inr ⟨k,c',e,z'.sameBut hs ?_⟩
         rintro rfl
         exact hj (fD hN e1 (I.ok.inj _ _ _ e hc ▸ hi))
   · by_cases hcc:c'=c
     · subst hcc; exact ⟨_,hc'⟩
     · obtain ⟨w2,z2⟩:=I.cell y c' e
       exact ⟨w2,z2.sameBut hs hcc⟩
   · obtain ⟨e,n,ne,nf,d⟩:=I.pin p hp
     refine ⟨(hs.2 p.1 ?_).trans e,n,ne,nf,d⟩
     intro q
     rw [q,hoc] at e
     have q':oc=p.2:=Option.some.inj e
     exact d w' (by rw [<- q']; exact hocd)
theorem dB {M:Model} {A:Around} {E:Value->Shared->Prop} {i:Nat} {x:Str} {v:V} {u:Value} {Q:Unit->Shared->Prop} (I:Inv X pins σ H s) (hN:X.N.Nodup) (hi:X.N[i]?=some x) (hx:Loc X.env.scope x) (r:RelV v u)
   (h:∀ s',Inv X pins (σ.set i (some v)) H s'->Q () s') (hf:X.fn x=true\/X.env.scope.names.lookup x=some .local:=by first | exact .inl rfl | exact .inr rfl | assumption):wpAny M A (storeName X.env x u) Q E s:=
 j8 I hN hi hx r (λs' I' _=>h s' I') hf
theorem Inv.gr {s':Shared} {ch:List Addr} (I:Inv X pins σ H s) (ho:s'.os=s.os) (u:Un (frs X.stack) ch H H' s.heap s'.heap) (hok:HOk X.prog X.w H' s'.heap) (hg:AllBare s'.gens)
   (hch:∀ b ∈ ch,(b ∈ X.ex\/X.s₀.heap.objs.size<=b)/\b ≠ X.env.locals/\(∀ x c,X.env.cells.lookup x=some c->c ≠ b)/\∀ p ∈ X.pn++pins,p.1 ≠ b):Inv X pins σ H' s':=by
 obtain ⟨h',g',d',t',o'⟩:=s'
 have e:o'=s.os:=ho
 subst e
 exact I.call (g':=g') (t':=t') (d':=d') u hok hg hch
end
noncomputable abbrev XK:=Value->Option Addr->Hp->Prop
noncomputable abbrev St:=List (Option V)
noncomputable abbrev VK:=V->Hp->Prop
noncomputable abbrev TE:=St->Hp->VK->Prop
noncomputable abbrev TT:=St->Hp->(Bool->Hp->Prop)->Prop
noncomputable abbrev TA:=St->Hp->(List V->Hp->Prop)->Prop
structure Ends where
 nx:St->Hp->Prop
 rt:VK
 bk:St->Hp->Prop:=λ_ _=>False
 ct:St->Hp->Prop:=λ_ _=>False
noncomputable abbrev TS:=Ends->St->Hp->Prop
noncomputable def EP (X:Cx) (pins:List (Addr × Obj)) (σ:St) (Q:VK) (u:Value) (s':Shared):Prop:=∃ v H',Inv X pins σ H' s'/\RelV v u/\Q v H'
noncomputable def TP (X:Cx) (pins:List (Addr × Obj)) (σ:St) (Q:Bool->Hp->Prop) (b:Bool) (s':Shared):Prop:=∃ H',Inv X pins σ H' s'/\Q b H'
noncomputable def AP (X:Cx) (pins:List (Addr × Obj)) (σ:St) (Q:List V->Hp->Prop) (us:List Value) (s':Shared):Prop:=∃ vs H',Inv X pins σ H' s'/\Vals vs us/\Q vs H'
noncomputable def SP (X:Cx) (pins:List (Addr × Obj)) (D:Ends) (f:Flow) (s':Shared):Prop:=
 match f with
 | .next=>∃ σ' H',Inv X pins σ' H' s'/\D.nx σ' H'
 | .brk=>∃ σ' H',Inv X pins σ' H' s'/\D.bk σ' H'
 | .cont=>∃ σ' H',Inv X pins σ' H' s'/\D.ct σ' H'
 | .ret u=>∃ v σ' H',Inv X pins σ' H' s'/\RelV v u/\D.rt v H'
noncomputable def PE (X:Cx) (e:Expr) (t:TE):Prop:=
 ∀ (pins:List (Addr × Obj)) (s:Shared) (σ:St) (H:Hp) (Q:VK),Inv X pins σ H s->t σ H Q->wpAny (model X.prog X.w) X.A (eval e X.env) (EP X pins σ Q) X.xe s
noncomputable def PT (X:Cx) (e:Expr) (t:TT):Prop:=
 ∀ (pins:List (Addr × Obj)) (s:Shared) (σ:St) (H:Hp) (Q:Bool->Hp->Prop),Inv X pins σ H s->t σ H Q->wpAny (model X.prog X.w) X.A (isTrue e X.env (eval e X.env)) (TP X pins σ Q) X.xe s
noncomputable def PW (X:Cx) (e:Expr) (t:TT):Prop:=
 ∀ (whole:Sem Value) (pins:List (Addr × Obj)) (s:Shared) (σ:St) (H:Hp) (Q:Bool->Hp->Prop),Inv X pins σ H s->t σ H Q->wpAny (model X.prog X.w) X.A (isTrue e X.env whole) (TP X pins σ Q) X.xe s
theorem PW.pt {X:Cx} {e:Expr} {t:TT} (h:PW X e t):PT X e t:=h _
noncomputable def PA (X:Cx) (es:List Expr) (t:TA):Prop:=
 ∀ (pos:Pos) (pins:List (Addr × Obj)) (s:Shared) (σ:St) (H:Hp) (Q:List V->Hp->Prop),Inv X pins σ H s->t σ H Q->wpAny (model X.prog X.w) X.A (spliced (backTo pos (starEach es X.env))) (AP X pins σ Q) X.xe s
noncomputable def PS (X:Cx) (st:Stmt) (t:TS):Prop:=
 ∀ (pins:List (Addr × Obj)) (s:Shared) (σ:St) (H:Hp) (D:Ends),Inv X pins σ H s->t D σ H->wpAny (model X.prog X.w) X.A (exec st X.env) (SP X pins D) X.xe s
noncomputable def PSs (X:Cx) (st:List Stmt) (t:TS):Prop:=
 ∀ (pins:List (Addr × Obj)) (s:Shared) (σ:St) (H:Hp) (D:Ends),Inv X pins σ H s->t D σ H->wpAny (model X.prog X.w) X.A (execs st X.env) (SP X pins D) X.xe s
theorem thn {α:Type} {t:Sem α} {Q Q':α->Shared->Prop} {M:Model} {A:Around} {E:Value->Shared->Prop} {s:Shared} (h:wpAny M A t Q E s) (hQ:∀ a s,Q a s->Q' a s):wpAny M A t Q' E s:=wpAny_mono h hQ λ_ _ x=>x
section
variable {X:Cx}
theorem bin {a b:Expr} {ta tb:TE} (ha:PE X a ta) (hb:PE X b tb) {pins:List (Addr × Obj)} {s:Shared} {σ:St} {H:Hp} {R:V->V->Hp->Prop} (I:Inv X pins σ H s) (h:ta σ H λx H1=>tb σ H1 λy H2=>R x y H2)
   {α:Type} {Q:α->Shared->Prop} {f:Value->Value->Sem α}
   (hf:∀ v u s2 x y H2,Inv X pins σ H2 s2->RelV x v->RelV y u->R x y H2->wpAny (model X.prog X.w) X.A (f v u) Q X.xe s2) :
   wpAny (model X.prog X.w) X.A (eval a X.env) (λv s₁=>wpAny (model X.prog X.w) X.A (eval b X.env) (λu s₂=>wpAny (model X.prog X.w) X.A (f v u) Q X.xe s₂) X.xe s₁) X.xe s:=by
 refine thn (ha pins s σ H _ I h) λv s1 ⟨x,H1,I1,r1,q1⟩=>?_
 refine thn (hb pins s1 σ H1 _ I1 q1) λu s2 ⟨y,H2,I2,r2,q2⟩=>?_
 exact hf v u s2 x y H2 I2 r1 r2 q2
noncomputable def rX (i:Nat):TE:=λσ H Q=>∃ v,σ[i]?=some (some v)/\Q v H
noncomputable def tC (v:V):TE:=λ_ H Q=>Q v H
theorem b9 {i:Nat} {x:Str} {pos:Pos} (hN:X.N[i]?=some x) (hv:Vis X.env.scope x) (hd:(x == ("__debug__" : Str))=false:=by decide) (hcd:(x == ("__classdict__" : Str))=false:=by decide):PE X (.Name x pos) (rX i):=by
 intro pins s σ H Q I h
 obtain ⟨v,e,h⟩:=h
 obtain ⟨m,hn,hl⟩:=I.loc
 obtain ⟨u,r,l⟩:=hl i x v hN e hv
 have fin:EP X pins σ Q u s:=⟨v,H,I,r,h⟩
 rcases l with ⟨hk,hm⟩ | ⟨hk,c,hc,hcell⟩
 · exact wpAny_Name (wpAny_loadName_local I.ok.kind hk hn hm fin) hd
 · rcases hk with hk | hk
   · exact wpAny_Name (wpAny_loadName_cell I.ok.kind hk hc hcell fin) hd
   · exact wpAny_Name (wpAny_loadName_free I.ok.kind hk hc hcell fin hcd) hd
theorem qi {i j pos}:PE X (.Constant (.int i) j pos) (tC (.int i)):=λ_ _ _ H _ I h=>wpAny_Constant_int ⟨.int i,H,I.tok _,⟨_,rfl⟩,h⟩
theorem rJ {b j pos}:PE X (.Constant (.bool b) j pos) (tC (.bl b)):=λ_ _ _ H _ I h=>Constant_bool ⟨.bl b,H,I,rfl,h⟩
theorem oP {j pos}:PE X (.Constant .none j pos) (tC .non):=λ_ _ _ H _ I h=>Constant_none ⟨.non,H,I,rfl,h⟩
theorem oX {x j pos}:PE X (.Constant (.str x) j pos) (tC (.str x)):=λ_ _ _ H _ I h=>Calls.Constant_str ⟨.str x,H,I.tok _,⟨_,rfl⟩,h⟩
noncomputable def Gl (X:Cx) (x:Str):Prop:=X.env.kindOf x=some .globalImplicit
theorem dz {E:Value->Shared->Prop} {pins:List (Addr × Obj)} {s:Shared} {σ:St} {H:Hp} {x:Str} {u:Value} {pos:Pos} {Q:Value->Shared->Prop} (I:Inv X pins σ H s) (hg:Gl X x) (hm:X.mg x=some u) (h:Q u s)
   (hd:(x == ("__debug__" : Str))=false:=by decide):wpAny (model X.prog X.w) X.A (eval (.Name x pos) X.env) Q E s:=
 Calls.Name_function_global I.ok.kind hg (Calls.loadGlobal_global (by rw [I.ok.glob]; exact I.mod.glob.keeps I.bk) hm h) hd
theorem cX {E:Value->Shared->Prop} {pins:List (Addr × Obj)} {s:Shared} {σ:St} {H:Hp} {x:Str} {u:Value} {pos:Pos} {Q:Value->Shared->Prop} (I:Inv X pins σ H s) (hg:Gl X x) (hm:X.mg x=none) (hv:bootBuiltins x=some u) (h:Q u s)
   (hn:x ≠ "__name__":=by decide) (hd:(x == ("__debug__" : Str))=false:=by decide):wpAny (model X.prog X.w) X.A (eval (.Name x pos) X.env) Q E s:=by
 obtain ⟨mb,h1,h2⟩:=I.mod.blt
 exact Calls.Name_function_global I.ok.kind hg (Calls.loadGlobal_builtin (by rw [I.ok.glob]; exact I.mod.glob.keeps I.bk) hm (by rw [I.ok.blt]; exact h1.keeps I.bk) ((h2 x hn).trans hv) h) hd
theorem jj {x:Str} {v:V} {u:Value} {pos:Pos} (hg:Gl X x) (hm:X.mg x=some u) (r:RelV v u) (hd:(x == ("__debug__" : Str))=false:=by decide):PE X (.Name x pos) (tC v):=
 λ_ _ _ H _ I h=>dz I hg hm ⟨v,H,I,r,h⟩ hd
theorem jw {x:Str} {v:V} {u:Value} {pos:Pos} (hg:Gl X x) (hm:X.mg x=none) (hv:bootBuiltins x=some u) (r:RelV v u) (hn:x ≠ "__name__":=by decide) (hd:(x == ("__debug__" : Str))=false:=by decide):PE X (.Name x pos) (tC v):=
 λ_ _ _ H _ I h=>cX I hg hm hv ⟨v,H,I,r,h⟩ hn hd
variable {a b:Expr} {ta tb:TE} {pos:Pos}
noncomputable def PC (X:Cx) (op:CmpOp) (a b:Expr) (t:TE):Prop:=
 ∀ (pins:List (Addr × Obj)) (s:Shared) (σ:St) (H:Hp) (Q:VK),Inv X pins σ H s->t σ H Q ->
   wpAny (model X.prog X.w) X.A (eval a X.env) (λv s₁=>wpAny (model X.prog X.w) X.A (eval b X.env) (λu s₂=>wpAny (model X.prog X.w) X.A (compareOp op v u) (EP X pins σ Q) X.xe s₂) X.xe s₁) X.xe s
theorem lW (b:Expr) {op:CmpOp} (h:op ≠ .In) (h2:op ≠ .NotIn):behindInMarks op b=false:=by
 have e1:(op == CmpOp.In)=false:=by cases op <;> first | rfl | exact absurd rfl h
 have e2:(op == CmpOp.NotIn)=false:=by cases op <;> first | rfl | exact absurd rfl h2
 cases b <;> simp [behindInMarks,e1,e2]
noncomputable def tB (t:TE):TT:=λσ H Q=>t σ H λx H1=>∃ c,x=.bl c/\Q c H1
theorem sJ {op:CmpOp} {t:TE} (h:PC X op a b t) (h1:behindInMarks op b=false:=by first | exact lW _ (by decide) (by decide) | rfl):PT X (.Compare a [op] [b] pos) (tB t):=by
 intro pins s σ H Q I hw
 refine wpAny_isTrue_Compare1 (thn (h pins s σ H _ I hw) λv s1 h1=>thn h1 λu s2 h2=>thn h2 λc s3 ⟨x,H1,I1,r1,q1⟩=>?_) h1
 obtain ⟨d,rfl,q⟩:=q1
 cases r1
 exact wpAny_truthy_bool ⟨H1,I1,q⟩
theorem oG {e:Expr} {t:TE} (h:PE X e t) (he:∀ whole,isTrue e X.env whole=(do let v <- whole; standAt e.pos; holding [v] (truthy v)):=by intro _; rfl):PT X e (tB t):=by
 intro pins s σ H Q I hw
 refine isTrue_plain (thn (h pins s σ H _ I hw) λv s1 ⟨x,H1,I1,r1,q1⟩=>?_) (he _)
 obtain ⟨d,rfl,q⟩:=q1
 cases r1
 exact wpAny_truthy_bool ⟨H1,I1,q⟩
variable {tA tB':TT} {rest:List Expr}
noncomputable def sG (t u:TT):TT:=λσ H Q=>t σ H λc H1=>if c=true then u σ H1 Q else Q false H1
noncomputable def tOr (t u:TT):TT:=λσ H Q=>t σ H λc H1=>if c=true then Q true H1 else u σ H1 Q
noncomputable def tE (t:TT):TT:=λσ H Q=>t σ H λc H1=>Q (!c) H1
theorem pw_and1 (ha:PT X a tA):PW X (.BoolOp .And [a] pos) tA:=by
 intro wh pins s σ H Q I h
 refine isTrue_and (thn (ha pins s σ H Q I h) λc s1 e=>?_)
 cases c with
 | true=>exact isTrue_and_nil e
 | false=>exact e
theorem pw_or1 (ha:PT X a tA):PW X (.BoolOp .Or [a] pos) tA:=by
 intro wh pins s σ H Q I h
 refine isTrue_or (thn (ha pins s σ H Q I h) λc s1 e=>?_)
 cases c with
 | false=>exact isTrue_or_nil e
 | true=>exact e
theorem pw_and (ha:PT X a tA) (hb:PW X (.BoolOp .And (b :: rest) pos) tB'):PW X (.BoolOp .And (a :: b :: rest) pos) (sG tA tB'):=by
 intro wh pins s σ H Q I h
 refine isTrue_and (thn (ha pins s σ H _ I h) λc s1 ⟨H1,I1,q1⟩=>?_)
 cases c with
 | true=>exact hb wh pins s1 σ H1 Q I1 q1
 | false=>exact ⟨H1,I1,q1⟩
theorem pw_or (ha:PT X a tA) (hb:PW X (.BoolOp .Or (b :: rest) pos) tB'):PW X (.BoolOp .Or (a :: b :: rest) pos) (tOr tA tB'):=by
 intro wh pins s σ H Q I h
 refine isTrue_or (thn (ha pins s σ H _ I h) λc s1 ⟨H1,I1,q1⟩=>?_)
 cases c with
 | true=>exact ⟨H1,I1,q1⟩
 | false=>exact hb wh pins s1 σ H1 Q I1 q1
theorem oE (ha:PT X a tA):PT X (.UnaryOp .Not a pos) (tE tA):=by
 intro pins s σ H Q I h
 exact isTrue_not (ha pins s σ H (λc H1=>Q (!c) H1) I h)
noncomputable def rq (ta tb:TE):TE:=λσ H Q=>ta σ H λx H1=>∃ c,x=.bl c/\if c=true then tb σ H1 Q else Q (.bl false) H1
noncomputable def sN (ta tb:TE):TE:=λσ H Q=>ta σ H λx H1=>∃ c,x=.bl c/\if c=true then Q (.bl true) H1 else tb σ H1 Q
noncomputable def sy (ta:TE):TE:=λσ H Q=>ta σ H λx H1=>∃ c,x=.bl c/\Q (.bl (!c)) H1
theorem pd {op} {t:TE} (h:PE X a t):PE X (.BoolOp op [a] pos) t:=λpins s σ H Q I hw=>BoolOp_one (h pins s σ H Q I hw)
theorem k6 (ha:PE X a ta) (hb:PE X (.BoolOp .And (b :: rest) pos) tb):PE X (.BoolOp .And (a :: b :: rest) pos) (rq ta tb):=by
 intro pins s σ H Q I h
 refine BoolOp_and (thn (ha pins s σ H _ I h) λv s1 ⟨x,H1,I1,r1,q1⟩=>?_)
 obtain ⟨c,rfl,q1⟩:=q1
 cases r1
 refine wpAny_truthy_bool ?_
 cases c with
 | true=>exact hb pins s1 σ H1 Q I1 q1
 | false=>exact ⟨.bl false,H1,I1,rfl,q1⟩
theorem oj (ha:PE X a ta) (hb:PE X (.BoolOp .Or (b :: rest) pos) tb):PE X (.BoolOp .Or (a :: b :: rest) pos) (sN ta tb):=by
 intro pins s σ H Q I h
 refine BoolOp_or (thn (ha pins s σ H _ I h) λv s1 ⟨x,H1,I1,r1,q1⟩=>?_)
 obtain ⟨c,rfl,q1⟩:=q1
 cases r1
 refine wpAny_truthy_bool ?_
 cases c with
 | false=>exact hb pins s1 σ H1 Q I1 q1
 | true=>exact ⟨.bl true,H1,I1,rfl,q1⟩
theorem qB (ha:PE X a ta):PE X (.UnaryOp .Not a pos) (sy ta):=by
 intro pins s σ H Q I h
 refine UnaryOp_ (thn (ha pins s σ H _ I h) λv s1 ⟨x,H1,I1,r1,q1⟩=>?_)
 obtain ⟨c,rfl,q1⟩:=q1
 cases r1
 exact not_of (wpAny_truthy_bool ⟨.bl (!c),H1,I1,rfl,q1⟩)
end
noncomputable def SqL (K:PySem.W.Frag) (H:Hp) (a:Addr) (xs:List V):Prop:=
 Rd H a (.lst xs) \/
   ∃ (o:Obj) (its:Array Value) (n:Nat),K.lookup a=some o/\o.cls=.type "list" /\ o.dict=none/\o.data=.seq its n/\its.size<=sizeLine/\Vals xs its.toList
noncomputable def SqT (K:PySem.W.Frag) (H:Hp) (a:Addr) (xs:List V):Prop:=
 Rd H a (.tup xs) \/
   ∃ (o:Obj) (its:Array Value) (n:Nat),K.lookup a=some o/\o.cls=.type "tuple" /\ o.data=.seq its n/\its.size<=sizeLine/\Vals xs its.toList
noncomputable def sX:Value->Option V
 | .none=>some .non
 | .bool b=>some (.bl b)
 | .int i _=>some (.int i)
 | .str x _=>some (.str x)
 | .bytes b _=>some (.byt b)
 | .float b _=>some (.flt b)
 | .ref a=>some (.ref a)
 | .type n=>some (.ty n)
 | _=>none
theorem RelV.abs {x:V} {u:Value} (r:RelV x u):sX u=some x:=by
 cases x with
 | non=>cases r; rfl
 | bl _=>cases r; rfl
 | int _=>obtain ⟨t,rfl⟩:=r; rfl
 | str _=>obtain ⟨t,rfl⟩:=r; rfl
 | byt _=>obtain ⟨t,rfl⟩:=r; rfl
 | flt _=>obtain ⟨t,rfl⟩:=r; rfl
 | ref _=>cases r; rfl
 | ty _=>cases r; rfl
theorem RelV.inj {x y:V} {u:Value} (r:RelV x u) (q:RelV y u):x=y:=Option.some.inj (r.abs.symm.trans q.abs)
theorem Vals.inj:∀ {xs ys:List V} {us:List Value},Vals xs us->Vals ys us->xs=ys
 | _,_,_,.nil,.nil=>rfl
 | _,_,_,.cons r t,.cons r' t'=>by rw [r.inj r',Vals.inj t t']
section
variable {X:Cx} {pins:List (Addr × Obj)} {σ:St} {H:Hp} {s:Shared} {a:Addr} {xs ys:List V}
theorem SqL.of {K:PySem.W.Frag} (h:H a=some (.lst xs)):SqL K H a xs:=.inl (.inl h)
theorem SqT.of {K:PySem.W.Frag} (h:H a=some (.tup xs)):SqT K H a xs:=.inl (.inl h)
theorem Inv.list (I:Inv X pins σ H s) (h:SqL X.K H a xs):∃ its:List Value,Vals xs its/\PlainL s.heap a its.toArray/\xs.length<=sizeLine:=by
 rcases h with h | ⟨o,its,n,hk,hc,hd,hs,hz,r⟩
 · obtain ⟨z,its,n,r,e⟩:=h.ok I.hok
   exact ⟨its,r,⟨_,n,e,rfl,rfl,rfl⟩,z⟩
 · refine ⟨its.toList,r,⟨o,n,I.kIn a o hk,hc,hd,by simpa using hs⟩,?_⟩
   have e:=r.length
   simp only [Array.length_toList] at e
   omega
theorem Inv.tuple (I:Inv X pins σ H s) (h:SqT X.K H a xs):∃ its:List Value,Vals xs its/\IsTup s.heap a its.toArray/\xs.length<=sizeLine:=by
 rcases h with h | ⟨o,its,n,hk,hc,hs,hz,r⟩
 · obtain ⟨z,its,r,p⟩:=h.ok I.hok
   exact ⟨its,r,p,z⟩
 · refine ⟨its.toList,r,⟨o,I.kIn a o hk,hc,n,by simpa using hs⟩,?_⟩
   have e:=r.length
   simp only [Array.length_toList] at e
   omega
theorem Inv.cH (I:Inv X pins σ H s) (h:SqL X.K H a xs) (h':SqL X.K H a ys):xs=ys:=by
 obtain ⟨its,r,⟨o,n,e,_,_,d⟩,_⟩:=I.list h
 obtain ⟨its',r',⟨o',n',e',_,_,d'⟩,_⟩:=I.list h'
 rw [e] at e'; cases e'
 rw [d] at d'
 injection d' with d1 _
 have:its=its':=by simpa using congrArg Array.toList d1
 subst this
 exact r.inj r'
end
noncomputable abbrev Cx.eg (X:Cx) (E:Value->Shared->Prop):Cx:={ X with xe:=E }
noncomputable abbrev Cx.nox (X:Cx):Cx:=X.eg λ_ _=>False
theorem Cx.Ok.eg {X:Cx} (ok:X.Ok) (E:Value->Shared->Prop):(X.eg E).Ok:=
 ⟨ok.mod,ok.kind,ok.glob,ok.blt,ok.above,ok.inj,ok.has,ok.cab,ok.hd,ok.frames,ok.stk,ok.exf,ok.bs,ok.bsz,ok.noex,ok.exfs,ok.dF,ok.frf⟩
theorem Cx.Ok.cb {X:Cx} {E:Value->Shared->Prop} (ok:(X.eg E).Ok):X.Ok:=
 ⟨ok.mod,ok.kind,ok.glob,ok.blt,ok.above,ok.inj,ok.has,ok.cab,ok.hd,ok.frames,ok.stk,ok.exf,ok.bs,ok.bsz,ok.noex,ok.exfs,ok.dF,ok.frf⟩
section
variable {X:Cx} {pins:List (Addr × Obj)} {σ:St} {H:Hp} {s:Shared} {E:Value->Shared->Prop}
theorem Inv.eg (I:Inv X pins σ H s) (E:Value->Shared->Prop):Inv (X.eg E) pins σ H s:=⟨I.ok.eg E,I.os,I.bare,I.base,I.loc,I.cell,I.free,I.freeC,I.pin,I.hok,I.len⟩
theorem Inv.cb (I:Inv (X.eg E) pins σ H s):Inv X pins σ H s:=⟨I.ok.cb,I.os,I.bare,I.base,I.loc,I.cell,I.free,I.freeC,I.pin,I.hok,I.len⟩
theorem SP.cb {D:Ends} {f:Flow} {s':Shared} (h:SP (X.eg E) pins D f s'):SP X pins D f s':=by
 cases f with
 | next=>obtain ⟨σ',H',I,q⟩:=h; exact ⟨σ',H',I.cb,q⟩
 | brk=>obtain ⟨σ',H',I,q⟩:=h; exact ⟨σ',H',I.cb,q⟩
 | cont=>obtain ⟨σ',H',I,q⟩:=h; exact ⟨σ',H',I.cb,q⟩
 | ret u=>obtain ⟨v,σ',H',I,r,q⟩:=h; exact ⟨v,σ',H',I.cb,r,q⟩
theorem PT.nox {e:Expr} {t:TT} (h:PT X.nox e t):PT X e t:=λpins s σ H Q I hw=>
 wpAny_mono (h pins s σ H Q (I.eg _) hw) (λ_ _ ⟨H',I',q⟩=>⟨H',I'.cb,q⟩) λ_ _ z=>False.elim z
theorem PSs.nox {st:List Stmt} {t:TS} (h:PSs X.nox st t):PSs X st t:=λpins s σ H D I hw=>
 wpAny_mono (h pins s σ H D (I.eg _) hw) (λ_ _ q=>q.cb) λ_ _ z=>False.elim z
end
section
variable {X:Cx} {st:Stmt} {rest:List Stmt} {t u:TS} {e:Expr} {te:TE} {pos:Pos}
noncomputable def sh:TS:=λD σ H=>D.nx σ H
noncomputable def tm (t u:TS):TS:=λD σ H=>t { D with nx:=u D } σ H
theorem mL:PSs X [] sh:=λ_ _ σ H _ I h=>wpAny_execs_nil ⟨σ,H,I,h⟩
theorem lK (h1:PS X st t) (h2:PSs X rest u):PSs X (st :: rest) (tm t u):=by
 intro pins s σ H D I h
 refine wpAny_execs_cons (thn (h1 pins s σ H { D with nx:=u D } I h) λf s1 q=>?_)
 cases f with
 | next=>
   obtain ⟨σ',H',I',q⟩:=q
   exact h2 pins s1 σ' H' D I' q
 | ret v=>exact q
 | brk=>exact q
 | cont=>exact q
theorem mZ (h1:PS X st t):PSs X [st] t:=by
 intro pins s σ H D I h
 refine wpAny_execs_cons (thn (h1 pins s σ H D I h) λf s1 q=>?_)
 cases f with
 | next=>exact wpAny_execs_nil q
 | ret v=>exact q
 | brk=>exact q
 | cont=>exact q
theorem Inv.quiet {pins:List (Addr × Obj)} {σ:St} {H:Hp} {s:Shared} (I:Inv X pins σ H s):interactive X.env=false:=by simp [interactive,I.ok.kind]
noncomputable def se (te:TE):TS:=λD σ H=>te σ H λ_ H1=>D.nx σ H1
theorem gQ (he:PE X e te) (hs:swapsWith e none pos.line X.env=pure false:=by rfl):PS X (.Expr e pos) (se te):=by
 intro pins s σ H D I h
 exact wpAny_Expr_any (thn (he pins s σ H _ I h) λv s1 ⟨x,H1,I1,r1,q1⟩=>⟨σ,H1,I1,q1⟩) I.quiet hs
noncomputable def ti (te:TE):TS:=λD σ H=>te σ H D.rt
theorem gy (he:PE X e te):PS X (.Return (some e) pos) (ti te):=by
 intro pins s σ H D I h
 exact wpAny_Return_some (thn (he pins s σ H _ I h) λv s1 ⟨x,H1,I1,r1,q1⟩=>⟨x,σ,H1,I1,r1,q1⟩)
noncomputable def sE (c:TT) (t u:TS):TS:=λD σ H=>c σ H λb H1=>if b=true then t D σ H1 else u D σ H1
theorem n9 {c:Expr} {a b:List Stmt} {tc:TT} (hc:PT X c tc) (ha:PSs X a t) (hb:PSs X b u):PS X (.If c a b pos) (sE tc t u):=by
 intro pins s σ H D I h
 refine wpAny_If (thn (hc pins s σ H _ I h) λd s1 ⟨H1,I1,q1⟩=>?_)
 cases d with
 | true=>exact ha pins s1 σ H1 D I1 q1
 | false=>exact hb pins s1 σ H1 D I1 q1
noncomputable def qC:TS:=λ_ _ _=>False
theorem fY {sts:List Stmt}:PSs X sts qC:=λ_ _ _ _ _ _ h=>h.elim
end
noncomputable abbrev TG:=V->St->Hp->(St->Hp->Prop)->Prop
noncomputable abbrev TGs:=List V->St->Hp->(St->Hp->Prop)->Prop
noncomputable def PG (X:Cx) (target:Expr) (t:TG):Prop:=
 ∀ (pins:List (Addr × Obj)) (s:Shared) (σ:St) (H:Hp) (v:V) (u:Value) (Q:St->Hp->Prop),Inv X pins σ H s->RelV v u->t v σ H Q ->
   wpAny (model X.prog X.w) X.A (assign target X.env u) (λ_ s'=>∃ σ' H',Inv X pins σ' H' s'/\Q σ' H') X.xe s
noncomputable def PGs (X:Cx) (ts:List Expr) (t:TGs):Prop:=
 ∀ (pins:List (Addr × Obj)) (s:Shared) (σ:St) (H:Hp) (vs:List V) (us:List Value) (Q:St->Hp->Prop),Inv X pins σ H s->Vals vs us->t vs σ H Q ->
   wpAny (model X.prog X.w) X.A (assignInOrder ((assignEach ts X.env).map (·.2)) us) (λ_ s'=>∃ σ' H',Inv X pins σ' H' s'/\Q σ' H') X.xe s
section
variable {X:Cx} {pos:Pos}
noncomputable def nL (i:Nat):TG:=λv σ H Q=>Q (σ.set i (some v)) H
theorem de {i:Nat} {x:Str} (hN:X.N.Nodup) (hi:X.N[i]?=some x) (hx:Loc X.env.scope x) (hf:X.fn x=true\/X.env.scope.names.lookup x=some .local:=by first | exact .inl rfl | exact .inr rfl | assumption):PG X (.Name x pos) (nL i):=by
 intro pins s σ H v u Q I r h
 exact wpAny_assign_Name (dB I hN hi hx r (λs' I'=>⟨_,H,I',h⟩) hf)
noncomputable def sY:TGs:=λvs σ H Q=>vs=[]/\Q σ H
noncomputable def r9 (t:TG) (u:TGs):TGs:=λvs σ H Q=>∃ v r,vs=v :: r/\t v σ H λσ' H'=>u r σ' H' Q
theorem jz:PGs X [] sY:=by
 intro pins s σ H vs us Q I r h
 obtain ⟨e,h⟩:=h
 subst e
 cases r
 exact assignInOrder_nil ⟨σ,H,I,h⟩
theorem eY {e:Expr} {es:List Expr} {t:TG} {u:TGs} (h1:PG X e t) (h2:PGs X es u)
   (hs:(assignEach (e :: es) X.env).map (·.2)=assign e X.env :: (assignEach es X.env).map (·.2):=by rfl):PGs X (e :: es) (r9 t u):=by
 intro pins s σ H vs us Q I r h
 obtain ⟨v,vr,e1,h⟩:=h
 subst e1
 cases r with
 | cons r rr=>
   rw [hs]
   refine assignInOrder_cons (thn (h1 pins s σ H _ _ _ I r h) λ_ s1 ⟨σ1,H1,I1,q1⟩=>?_)
   exact h2 pins s1 σ1 H1 _ _ Q I1 rr q1
noncomputable def sZ (K:PySem.W.Frag) (n:Nat) (t:TGs):TG:=λv σ H Q=>∃ a xs,v=.ref a/\SqT K H a xs/\xs.length=n/\t xs σ H Q
theorem kX {es:List Expr} {k:Nat} {t:TGs} {n:Nat} (hc:X.calm=true) (h:PGs X es t)
   (hn:(assignEach es X.env).length=n:=by rfl) (hst:(assignEach es X.env).findIdx? (·.1)=none:=by rfl):PG X (.Tuple es k pos) (sZ X.K n t):=by
 intro pins s σ H v u Q I r hw
 obtain ⟨a,xs,e1,hq,hl,hw⟩:=hw
 subst e1
 cases r
 obtain ⟨its,rv,ht,hz⟩:=I.tuple hq
 refine assign_Tuple_tuple (I.ok.hd hc) ht (by simp [hn,<- hl,rv.length]) hst λh' hx=>?_
 have I1:Inv X pins σ H { s with heap:=h' }:=I.kept (t':=s.toks) λb o e=>hx b o (Nat.ne_of_lt (Heap.lt_size e)) e
 exact h pins _ σ H xs _ Q I1 (by simpa using rv) hw
noncomputable def pN (te:TE) (g:TG):TS:=λD σ H=>te σ H λx H1=>g x σ H1 D.nx
theorem oI {tg e:Expr} {te:TE} {g:TG} (he:PE X e te) (hg:PG X tg g) (hs:swapsWithSole [tg] e pos.line X.env=pure false:=by rfl) (hw:swappedStores [tg] e X.env=pure none:=by rfl)
   (h1:(assignEach [tg] X.env).map (·.2)=[assign tg X.env]:=by rfl):PS X (.Assign [tg] e pos) (pN te g):=by
 intro pins s σ H D I h
 refine wpAny_Assign_stores (thn (he pins s σ H _ I h) λv s1 ⟨x,H1,I1,r1,q1⟩=>?_) hs hw
 rw [h1]
 exact thn (hg pins s1 σ H1 x v _ I1 r1 q1) λ_ s2 q=>q
theorem qt {i:Nat} {x:Str} {e:Expr} {te:TE} {pos':Pos} (hN:X.N.Nodup) (hi:X.N[i]?=some x) (hx:Loc X.env.scope x) (he:PE X e te) (hs:swapsWith e (some (.Name x pos')) pos.line X.env=pure false:=by rfl) (hf:X.fn x=true\/X.env.scope.names.lookup x=some .local:=by first | exact .inl rfl | exact .inr rfl | assumption) :
   PS X (.Assign [.Name x pos'] e pos) (pN te (nL i)):=by
 intro pins s σ H D I h
 refine wpAny_Assign_Name (thn (he pins s σ H _ I h) λv s1 ⟨y,H1,I1,r1,q1⟩=>?_) hs
 exact dB I1 hN hi hx r1 (λs2 I2=>⟨_,H1,I2,q1⟩) hf
end
section
variable {X:Cx} {pos:Pos}
noncomputable def qa (c:TT) (tb:TS):TS:=λD σ H=>∃ W:Nat->St->Hp->Prop,(∃ m,W m σ H)/\∀ m σ H,W m σ H ->
 c σ H λb H1=>if b=true then ∃ N:St->Hp->Prop,(∀ σ' H',N σ' H'->∃ m',m' < m/\W m' σ' H')/\tb { D with nx:=N,ct:=N,bk:=D.nx } σ H1 else D.nx σ H1
theorem l5 {c:Expr} {body:List Stmt} {tc:TT} {tb:TS} (hp:PassesOwn (model X.prog X.w) X.A X.env X.xe) (hc:PT X c tc) (hb:PSs X body tb):PS X (.While c body [] pos) (qa tc tb):=by
 intro pins s σ H D I h
 obtain ⟨W,⟨m0,w0⟩,turn⟩:=h
 refine wpAny_While (codeAny_whileLoop (λn s'=>∃ σ' H',Inv X pins σ' H' s'/\W n σ' H') ?_ m0 ⟨σ,H,I,w0⟩)
 rintro n s1 ⟨σ1,H1,I1,w1⟩
 refine wpAny_passesOwn hp (thn (hc pins s1 σ1 H1 _ I1 (turn n σ1 H1 w1)) λb s2 ⟨H2,I2,q2⟩=>?_)
 cases b with
 | true=>
   obtain ⟨N,hN,q2⟩:=q2
   rw [if_pos rfl]
   refine wpAny_passesOwn hp (thn (hb pins s2 σ1 H2 _ I2 q2) λf s3 q3=>?_)
   cases f with
   | next=>
     obtain ⟨σ3,H3,I3,n3⟩:=q3
     obtain ⟨m',hm,w3⟩:=hN σ3 H3 n3
     exact ⟨m',hm,σ3,H3,I3,w3⟩
   | cont=>
     obtain ⟨σ3,H3,I3,n3⟩:=q3
     obtain ⟨m',hm,w3⟩:=hN σ3 H3 n3
     exact ⟨m',hm,σ3,H3,I3,w3⟩
   | brk=>exact q3
   | ret v=>exact q3
 | false=>
   rw [if_neg Bool.false_ne_true]
   exact wpAny_execs_nil ⟨σ1,H2,I2,q2⟩
end
structure It where
 go:Nat->Hp->Prop
 yld:Nat->Hp->V->Hp->Prop
 stop:Nat->Hp->Prop
noncomputable def fT (X:Cx) (pins:List (Addr × Obj)) (H:Hp) (b:Addr):Prop:=
 H b=none/\b ≠ X.env.locals/\b ∉ X.fs/\(b ∈ X.ex\/X.s₀.heap.objs.size<=b)/\(∀ x c,X.env.cells.lookup x=some c->c ≠ b)/\∀ p ∈ X.pn++pins,p.1 ≠ b
theorem Inv.iW {X:Cx} {pins:List (Addr × Obj)} {σ:St} {H H':Hp} {s:Shared} {b:Addr} (I:Inv X pins σ H s) (hb:s.heap.objs.size<=b) (hn:H' b=none):fT X pins H' b:=by
 refine ⟨hn,Nat.ne_of_gt (Nat.lt_of_lt_of_le I.lt hb),I.sM hb,.inr (Nat.le_trans I.sz hb),λx c e z=>?_,λp hp z=>?_⟩
 · obtain ⟨v,q⟩:=I.cell x c e
   exact absurd (Nat.lt_of_lt_of_le q.lt (by rw [z]; exact hb)) (Nat.lt_irrefl _)
 · exact absurd (Nat.lt_of_lt_of_le (Heap.lt_size (I.pin p hp).1) (by rw [z]; exact hb)) (Nat.lt_irrefl _)
noncomputable def sP (X:Cx):Prop:=∃ h o u vs,X.A.handled=some (.ref h)/\X.H₀ h=some (.frz o u)/\o.data=.fields vs/\vs[2]?=some .none
noncomputable def Ck (kd:Bool) (X:Cx):Prop:=X.calm=true\/(kd=true/\sP X)
theorem Ck.calm {X:Cx} (h:Ck false X):X.calm=true:=h.resolve_right λz=>nomatch z.1
structure Turn (P:Program) (w:World) (K:PySem.W.Frag) (kd:Bool) (tg:Expr) (J:It) (fp:List Addr) (it:Addr) (tn:Nat->Heap->Prop):Prop where
 mem:it ∈ fp
 obj:∀ i h,tn i h->∀ b ∈ fp,∃ o,h.get? b=some o/\∀ v,o.data ≠ .cell v
 keep:∀ i h h',tn i h->(∀ b ∈ fp,∀ o,h.get? b=some o->h'.get? b=some o)->tn i h'
 item:∀ (X:Cx),X.prog=P->X.w=w->X.K=K->Ck kd X->∀ (i:Nat) (pins:List (Addr × Obj)) (s:Shared) (σ:St) (H:Hp) (E:Value->Shared->Prop),Inv X pins σ H s->(∀ b ∈ fp,fT X pins H b)->tn i s.heap->J.go i H ->
   wpAny (model P w) X.A (pyNext (.ref it)) (λr s1=>∃ u,r=some u /\
     wpAny (model P w) X.A (letOwnedTupleGo tg (.ref it) u) (λ_ s2=>∃ x H',Inv X pins σ H' s2/\RelV x u/\J.yld i H x H'/\tn (i + 1) s2.heap/\∀ b ∈ fp,H' b=none) E s1) E s
 done:∀ (X:Cx),X.prog=P->X.w=w->X.K=K->Ck kd X->∀ (i:Nat) (pins:List (Addr × Obj)) (s:Shared) (σ:St) (H:Hp) (E:Value->Shared->Prop),Inv X pins σ H s->(∀ b ∈ fp,fT X pins H b)->tn i s.heap->J.stop i H ->
   wpAny (model P w) X.A (pyNext (.ref it)) (λr s1=>r=none/\Inv X pins σ H s1) E s
 self:∀ (A:Around) (i:Nat) (s:Shared) (Q:Value->Shared->Prop) (E:Value->Shared->Prop),tn i s.heap->Q (.ref it) s->wpAny (model P w) A (pyIter (.ref it)) Q E s
noncomputable abbrev TI:=St->Hp->(It->Hp->Prop)->Prop
noncomputable def PIE (X:Cx) (pins:List (Addr × Obj)) (σ:St) (tg:Expr) (R:It->Hp->Prop) (itv:Value) (s2:Shared):Prop:=
 ∃ (kd:Bool) (it:Addr) (fp:List Addr) (tn:Nat->Heap->Prop) (J:It) (H':Hp),itv=.ref it/\Inv X pins σ H' s2/\Ck kd X/\Turn X.prog X.w X.K kd tg J fp it tn/\tn 0 s2.heap/\(∀ b ∈ fp,fT X pins H' b)/\R J H'
noncomputable def PI (X:Cx) (tg iter:Expr) (wi:TI):Prop:=
 ∀ (pins:List (Addr × Obj)) (s:Shared) (σ:St) (H:Hp) (R:It->Hp->Prop),Inv X pins σ H s->wi σ H R ->
   wpAny (model X.prog X.w) X.A (eval iter X.env) (λv s1=>wpAny (model X.prog X.w) X.A (pyIter v) (PIE X pins σ tg R) X.xe s1) X.xe s
theorem lr {M:Model} {A:Around} {E:Value->Shared->Prop} {s:Shared} {tg:Expr} {it:Addr} {u:Value} {o:Obj} {n:String} {vs:Array Value} {Q:Unit->Shared->Prop} (ho:s.heap.get? it=some o) (hc:o.cls=.type n) (hd:o.data=.fields vs)
   (hn:["enumerate","zip","dict_itemiterator","dict_reverseitemiterator","odict_iterator","itertools.zip_longest","itertools.pairwise"].contains n=false) (hQ:Q () s):wpAny M A (letOwnedTupleGo tg (.ref it) u) Q E s:=by
 unfold letOwnedTupleGo
 cases tg <;> first
   | exact wpAny_pure hQ
   | (cases u <;> first
       | exact wpAny_pure hQ
       | (refine wpAny_bind (wpAny_load ho ?_)
          rw [hc,hd]
          show wpAny M A (if (["enumerate","zip","dict_itemiterator","dict_reverseitemiterator","odict_iterator","itertools.zip_longest","itertools.pairwise"].contains n && vs[0]? == some (rawInt _))=true then _ else _) Q E s
          rw [if_neg (by intro h; rw [hn,Bool.false_and] at h; cases h)]
          exact wpAny_pure hQ))
noncomputable def Itl (K:PySem.W.Frag) (a:Addr):It:=
 ⟨λi H=>∃ xs x,SqL K H a xs/\xs[i]?=some x,λi H x H'=>H'=H/\∀ xs,SqL K H a xs->xs[i]?=some x,λi H=>∃ xs,SqL K H a xs/\xs.length<=i⟩
noncomputable def Itr (lo:Int) (n:Nat):It:=⟨λi _=>i < n,λi H x H'=>H'=H/\x=.int (lo + i),λi _=>n<=i⟩
theorem kc {P:Program} {w:World} {K:PySem.W.Frag} {tg:Expr} (a it:Addr):Turn P w K false tg (Itl K a) [it] it (λi h=>h.IsListIter it a i) where
 mem:=by simp
 obj:=λi h st b hb=>by
   have e:b=it:=by simpa using hb
   subst e
   obtain ⟨o,e,c,d⟩:=st
   exact ⟨o,e,λv z=>by rw [d] at z; cases z⟩
 keep:=λi h h' st k=>st.at λo e=>k it (by simp) o e
 item:=by
   intro X hP hw hK hc i pins s σ H E I hf st hg
   subst hP hw hK
   obtain ⟨xs,x,hq,hx⟩:=hg
   obtain ⟨its,rv,p,hz⟩:=I.list hq
   obtain ⟨u,hu,ru⟩:=rv.get hx
   obtain ⟨f0,f1,f2,f3,f4,f5⟩:=hf it (by simp)
   refine wpAny_pyNext_list_item st p.isList (x:=u) (by simpa using hu) λh' st' sb=>?_
   have I1:Inv X pins σ H { s with heap:=h' }:=I.turned (t':=s.toks) (λb o hb e=>(sb.2 b hb).trans e) f0 f1 f3 f4 f5
   obtain ⟨o,e,c,d⟩:=id st'
   exact ⟨u,rfl,lr (s:={ s with heap:=h' }) e c d (by decide) ⟨x,H,I1,ru,⟨rfl,λys hy=>by rw [I.cH hy hq]; exact hx⟩,st',λb hb=>(hf b hb).1⟩⟩
 done:=by
   intro X hP hw hK hc i pins s σ H E I hf st hg
   subst hP hw hK
   obtain ⟨xs,hq,hx⟩:=hg
   obtain ⟨its,rv,p,hz⟩:=I.list hq
   obtain ⟨f0,f1,f2,f3,f4,f5⟩:=hf it (by simp)
   have hl:=rv.length
   exact wpAny_pyNext_list_end (I.ok.hd hc.calm) st p.isList (by simp; omega) λh' eb=>⟨rfl,I.turned (t':=s.toks) (λb o hb e=>eb b o hb e) f0 f1 f3 f4 f5⟩
 self:=λ_ _ _ _ _ st h=>wpAny_pyIter_listiter st h
theorem iT {P:Program} {w:World} {K:PySem.W.Frag} {tg:Expr} (it:Addr) (lo:Int) (n:Nat):Turn P w K true tg (Itr lo n) [it] it (λi h=>IsRangeIter h it (lo + (i:Nat) * 1) ((n:Int) - (i:Nat)) 1) where
 mem:=by simp
 obj:=λi h st b hb=>by
   have e:b=it:=by simpa using hb
   subst e
   exact ⟨_,st,λv z=>by
     have z':Data.fields _=Data.cell v:=z
     cases z'⟩
 keep:=λi h h' st k=>k it (by simp) _ st
 item:=by
   intro X hP hw hK hc i pins s σ H E I hf st hg
   subst hP hw hK
   obtain ⟨f0,f1,f2,f3,f4,f5⟩:=hf it (by simp)
   refine wpAny_pyNext_range_item st (by have:i < n:=hg; omega) λh' st0 sb=>?_
   have st':IsRangeIter h' it (lo + ((i + 1:Nat):Int) * 1) ((n:Int) - ((i + 1:Nat):Int)) 1:=by
     have e1:lo + ((i + 1:Nat):Int) * 1=lo + (i:Nat) * 1 + 1:=by omega
     have e2:(n:Int) - ((i + 1:Nat):Int)=(n:Int) - (i:Nat) - 1:=by omega
     rw [e1,e2]; exact st0
   have I1:Inv X pins σ H { s with heap:=h',toks:=s.toks + 1 }:=I.turned (λb o hb e=>(sb.2 b hb).trans e) f0 f1 f3 f4 f5
   refine ⟨_,rfl,lr (s:={ s with heap:=h',toks:=s.toks + 1 }) (n:="range_iterator") st' rfl rfl (by decide) ⟨.int (lo + i),H,I1,⟨s.toks,?_⟩,⟨rfl,rfl⟩,st',λb hb=>(hf b hb).1⟩⟩
   rw [Int.mul_one]
 done:=by
   intro X hP hw hK hc i pins s σ H E I hf st hg
   subst hP hw hK
   obtain ⟨f0,f1,f2,f3,f4,f5⟩:=hf it (by simp)
   rcases hc with hc | ⟨_,q,o,u,vs,e1,e2,e3,e4⟩
   · exact wpAny_pyNext_range_end (I.ok.hd hc) st (by have:n<=i:=hg; omega) λh' eb=>⟨rfl,I.turned (t':=s.toks) (λb o hb e=>eb b o hb e) f0 f1 f3 f4 f5⟩
   · have e5:=I.hok q _ (I.base.frzs q o u e2)
     exact Hx.i5 e1 e5.1 e3 e4 st (by have:n<=i:=hg; omega) λh' eb=>⟨rfl,I.turned (t':=s.toks) (λb o hb e=>eb b o hb e) f0 f1 f3 f4 f5⟩
 self:=λ_ _ _ _ _ st h=>wpAny_pyIter_rangeiter st h
section
variable {X:Cx} {tg:Expr}
noncomputable def sd (K:PySem.W.Frag) (tl:TE):TI:=λσ H R=>tl σ H λx H1=>∃ a,x=.ref a/\(∃ xs,SqL K H1 a xs)/\R (Itl K a) H1
theorem mP {l:Expr} {tl:TE} (hc:X.calm=true) (hl:PE X l tl):PI X tg l (sd X.K tl):=by
 intro pins s σ H R I h
 refine thn (hl pins s σ H _ I h) λv s1 ⟨x,H1,I1,r1,q1⟩=>?_
 obtain ⟨a,e,⟨xs,hq⟩,q⟩:=q1
 subst e
 cases r1
 obtain ⟨its,rv,p,hz⟩:=I1.list hq
 refine wpAny_pyIter_list p.isList ?_
 refine ⟨false,s1.heap.objs.size,[s1.heap.objs.size],_,_,H1,rfl,I1.kept (t':=s1.toks) λb o e=>Heap.get?_push_of_some _ e,.inl hc,kc a _,⟨_,Heap.get?_push_size _ rfl,rfl,rfl⟩,λb hb=>?_,q⟩
 have e:b=s1.heap.objs.size:=by simpa using hb
 subst e
 exact I1.iW (Nat.le_refl _) (I1.hok.fresh (Nat.le_refl _))
theorem l9 {pins:List (Addr × Obj)} {σ:St} {H:Hp} {s:Shared} {R:It->Hp->Prop} {E:Value->Shared->Prop} {lo hi:Int} {t u v:Tok} {tk:Nat} (hc:Ck true X) (I:Inv X pins σ H s) (h1:-(2 ^ 62)<=lo) (h2:lo < 2 ^ 62) (h3:-(2 ^ 62)<=hi) (h4:hi < 2 ^ 62)
   (q:R (Itr lo (hi - lo).toNat) H):wpAny (model X.prog X.w) X.A (pyIter (.ref s.heap.objs.size)) (PIE X pins σ tg R) E { s with heap:=s.heap.push { cls:=.type "range",data:=.fields #[.int lo t,.int hi u,.int 1 v] },toks:=tk }:=by
 refine wpAny_pyIter_range (IsRange.new ..) (small_one h1 h2 h3 h4) ?_
 have I1:Inv X pins σ H { s with heap:=s.heap.push { cls:=.type "range",data:=.fields #[.int lo t,.int hi u,.int 1 v] },toks:=tk }:=I.kept λb o e=>Heap.get?_push_of_some _ e
 refine ⟨true,(s.heap.push { cls:=.type "range",data:=.fields #[.int lo t,.int hi u,.int 1 v] }).objs.size,[(s.heap.push { cls:=.type "range",data:=.fields #[.int lo t,.int hi u,.int 1 v] }).objs.size],_,_,H,rfl,
   I1.kept (t':=tk) λb o e=>Heap.get?_push_of_some _ e,hc,iT _ lo (hi - lo).toNat,?_,λb hb=>?_,q⟩
 · have e1:lo + ((0:Nat):Int) * 1=lo:=by simp
   have e2:(((hi - lo).toNat:Nat):Int) - ((0:Nat):Int)=Builtin.Range.rangeSize lo hi 1:=by rw [rangeSize_one]; split <;> omega
   show IsRangeIter _ _ (lo + ((0:Nat):Int) * 1) ((((hi - lo).toNat:Nat):Int) - ((0:Nat):Int)) 1
   rw [e1,e2]
   exact Heap.get?_push_size _ rfl
 · have e:b=(s.heap.push { cls:=.type "range",data:=.fields #[.int lo t,.int hi u,.int 1 v] }).objs.size:=by simpa using hb
   subst e
   exact I1.iW (Nat.le_refl _) (I1.hok.fresh (Nat.le_refl _))
noncomputable def ri (ta:TA):TI:=λσ H R=>ta σ H λvs H1=>∃ j:Int,vs=[.int j]/\-(2 ^ 62)<=j/\j < 2 ^ 62/\R (Itr 0 j.toNat) H1
theorem gb {a:Expr} {ta:TA} {p pos:Pos} (hc:Ck true X) (hg:Gl X "range") (hm:X.mg "range" = none) (ha:PA X [a] ta) (hs:starEach [a] X.env=[(false,eval a X.env)]:=by rfl):PI X tg (.Call (.Name "range" p) [a] [] pos) (ri ta):=by
 intro pins s σ H R I h
 refine Call_ (cX I hg hm boot_range (PyProof.Rows.callWith_type1 (thn (ha pos pins s σ H _ I h) λus s1 ⟨vs,H1,I1,r1,q1⟩=>?_) hs rfl))
 obtain ⟨j,e,q1,q2,q⟩:=q1
 subst e
 cases r1 with
 | cons r rr=>
   cases rr
   obtain ⟨t,rfl⟩:=r
   exact call_range_1 (l9 hc I1 (by omega) (by omega) q1 q2 (by simpa using q))
noncomputable def sF (wi:TI) (g:TG) (tb:TS):TS:=λD σ H=>wi σ H λJ H1=>∃ W:Nat->Nat->St->Hp->Prop,(∃ m,W 0 m σ H1)/\∀ i m σ H,W i m σ H ->
 (J.stop i H/\D.nx σ H)\/(J.go i H/\∃ N:St->Hp->Prop,(∀ σ' H',N σ' H'->∃ m',m' < m/\W (i + 1) m' σ' H')/\∀ x H',J.yld i H x H'->g x σ H' λσ2 H2=>tb { D with nx:=N,ct:=N,bk:=D.nx } σ2 H2)
noncomputable def da (fp:List Addr) (h:Heap):List (Addr × Obj):=fp.filterMap λb=>(h.get? b).map λo=>(b,o)
theorem bh {fp:List Addr} {h:Heap} {b:Addr} {o:Obj} (hb:b ∈ fp) (e:h.get? b=some o):(b,o) ∈ da fp h:=List.mem_filterMap.mpr ⟨b,hb,by rw [e]; rfl⟩
theorem j9 {fp:List Addr} {h:Heap} {p:Addr × Obj} (hp:p ∈ da fp h):p.1 ∈ fp/\h.get? p.1=some p.2:=by
 obtain ⟨b,hb,e⟩:=List.mem_filterMap.mp hp
 cases q:h.get? b with
 | none=>rw [q] at e; cases e
 | some o=>
   rw [q] at e
   have e':(b,o)=p:=Option.some.inj e
   subst e'
   exact ⟨hb,q⟩
theorem Inv.pinned {pins:List (Addr × Obj)} {σ:St} {H:Hp} {s:Shared} {fp:List Addr} (I:Inv X pins σ H s) (hf:∀ b ∈ fp,fT X pins H b) (ho:∀ b ∈ fp,∃ o,s.heap.get? b=some o/\∀ v,o.data ≠ .cell v):Inv X (pins++da fp s.heap) σ H s:=
 I.jr λp hp=>(List.mem_append.mp hp).elim (λz=>I.pin p (List.mem_append_right _ z)) λz=>by
   obtain ⟨hb,e⟩:=j9 z
   obtain ⟨f0,f1,f2,_⟩:=hf p.1 hb
   obtain ⟨o,e',d⟩:=ho p.1 hb
   rw [e] at e'; cases e'
   exact ⟨e,f0,f1,f2,d⟩
theorem Inv.bZ {pins pl:List (Addr × Obj)} {σ:St} {H:Hp} {s:Shared} (I:Inv X (pins++pl) σ H s):Inv X pins σ H s:=I.jr λp hp=>I.pin p (List.mem_append_right _ (List.mem_append_left _ hp))
theorem oA {iter:Expr} {body:List Stmt} {wi:TI} {g:TG} {tb:TS} {pos:Pos} (hp:PassesOwn (model X.prog X.w) X.A X.env X.xe) (hi:PI X tg iter wi) (hg:PG X tg g) (hb:PSs X body tb)
   (hs:∀ x,foldedSetIterable iter X.env x=pure x:=by intro _; rfl):PS X (.For tg iter body [] pos) (sF wi g tb):=by
 intro pins s σ H D I h
 refine wpAny_For (thn (hi pins s σ H _ I h) λv s1 h1=>thn h1 λitv s2 h2=>?_) hs
 obtain ⟨kd,it,fp,tn,J,H2,e,I2,hc,T,st2,f2,W,⟨m0,w0⟩,turn⟩:=h2
 subst e
 have stat:∀ {H':Hp},(∀ b ∈ fp,H' b=none)->∀ b ∈ fp,fT X pins H' b:=λhn b hb=>⟨hn b hb,(f2 b hb).2⟩
 refine codeAny_forLoop_any (λn s'=>∃ i σ' H',Inv X pins σ' H' s'/\tn i s'.heap/\(∀ b ∈ fp,H' b=none)/\W i n σ' H') ?_ m0 ⟨0,σ,H2,I2,st2,λb hb=>(f2 b hb).1,w0⟩
 rintro n s3 ⟨i,σ3,H3,I3,st3,fr3,w3⟩
 rcases turn i n σ3 H3 w3 with ⟨stop,qn⟩ | ⟨go,N,hN,step⟩
 · refine wpAny_passesOwn hp (thn (T.done X rfl rfl rfl hc i pins s3 σ3 H3 X.xe I3 (stat fr3) st3 stop) λr s4 ⟨hr,I4⟩=>?_)
   subst hr
   exact wpAny_execs_nil ⟨σ3,H3,I4,qn⟩
 · refine wpAny_passesOwn hp (thn (T.item X rfl rfl rfl hc i pins s3 σ3 H3 X.xe I3 (stat fr3) st3 go) λr s4 ⟨u,hr,h4⟩=>?_)
   subst hr
   refine wpAny_passesOwn hp (thn h4 λ_ s5 ⟨x,H5,I5,r5,y5,st5,fr5⟩=>?_)
   have I5':=I5.pinned (stat fr5) (T.obj _ _ st5)
   refine wpAny_passesOwn hp (thn (hg _ s5 σ3 H5 x u _ I5' r5 (step x H5 y5)) λ_ s6 ⟨σ6,H6,I6,q6⟩=>?_)
   refine wpAny_passesOwn hp (thn (hb _ s6 σ6 H6 _ I6 q6) λf s7 q7=>?_)
   have again:∀ {σ7:St} {H7:Hp},Inv X (pins++da fp s5.heap) σ7 H7 s7->N σ7 H7->∃ m,m < n/\∃ i σ' H',Inv X pins σ' H' s7/\tn i s7.heap/\(∀ b ∈ fp,H' b=none)/\W i m σ' H':=λ{σ7 H7} I7 n7=>by
     obtain ⟨m',hm,w7⟩:=hN σ7 H7 n7
     refine ⟨m',hm,i + 1,σ7,H7,I7.bZ,T.keep _ _ _ st5 λb hb o e=>(I7.pin (b,o) (List.mem_append_right _ (List.mem_append_right _ (bh hb e)))).1,λb hb=>?_,w7⟩
     obtain ⟨o,e,d⟩:=T.obj _ _ st5 b hb
     exact (I7.pin (b,o) (List.mem_append_right _ (List.mem_append_right _ (bh hb e)))).2.1
   cases f with
   | next=>obtain ⟨σ7,H7,I7,n7⟩:=q7; exact again I7 n7
   | cont=>obtain ⟨σ7,H7,I7,n7⟩:=q7; exact again I7 n7
   | brk=>obtain ⟨σ7,H7,I7,q7⟩:=q7; exact ⟨σ7,H7,I7.bZ,q7⟩
   | ret v=>obtain ⟨x7,σ7,H7,I7,r7,q7⟩:=q7; exact ⟨x7,σ7,H7,I7.bZ,r7,q7⟩
end
noncomputable abbrev R2:=V->V->Hp->VK->Prop
noncomputable def OpR (X:Cx) (f:Value->Value->Sem Value) (r:R2):Prop:=
 ∀ (pins:List (Addr × Obj)) (s:Shared) (σ:St) (H:Hp) (x y:V) (v u:Value) (Q:VK),Inv X pins σ H s->RelV x v->RelV y u->r x y H Q ->
   wpAny (model X.prog X.w) X.A (f v u) (EP X pins σ Q) X.xe s
noncomputable def UnR (X:Cx) (f:Value->Sem Value) (r:V->Hp->VK->Prop):Prop:=
 ∀ (pins:List (Addr × Obj)) (s:Shared) (σ:St) (H:Hp) (x:V) (v:Value) (Q:VK),Inv X pins σ H s->RelV x v->r x H Q ->
   wpAny (model X.prog X.w) X.A (f v) (EP X pins σ Q) X.xe s
noncomputable def cN (X:Cx) (f:Value) (r:List V->Hp->VK->Prop):Prop:=
 ∀ (pins:List (Addr × Obj)) (s:Shared) (σ:St) (H:Hp) (xs:List V) (us:List Value) (Q:VK),Inv X pins σ H s->Vals xs us->r xs H Q ->
   wpAny (model X.prog X.w) X.A (call f us) (EP X pins σ Q) X.xe s
noncomputable def tOp (r:R2) (ta tb:TE):TE:=λσ H Q=>ta σ H λx H1=>tb σ H1 λy H2=>r x y H2 Q
noncomputable def tUn (r:V->Hp->VK->Prop) (ta:TE):TE:=λσ H Q=>ta σ H λx H1=>r x H1 Q
noncomputable def rI (C:Int->Int->Prop) (g:Int->Int->V):R2:=λx y H Q=>∃ i j,x=.int i/\y=.int j/\C i j/\Q (g i j) H
noncomputable def rI0 (g:Int->Int->V):R2:=λx y H Q=>∃ i j,x=.int i/\y=.int j/\Q (g i j) H
noncomputable def rU (g:Int->V):V->Hp->VK->Prop:=λx H Q=>∃ i,x=.int i/\Q (g i) H
section
variable {X:Cx} {a b c:Expr} {ta tb tc:TE} {pos:Pos}
theorem oJ (ha:PE X a ta) (hb:PE X b tb) {pins:List (Addr × Obj)} {s:Shared} {σ:St} {H:Hp} {R:V->V->Hp->Prop} (I:Inv X pins σ H s)
   (h:ta σ H λx H1=>tb σ H1 λy H2=>R x y H2) {Q:Value->Shared->Prop} {f:Value->Value->Sem Value}
   (hf:∀ v u s2 x y H2,Inv X pins σ H2 s2->RelV x v->RelV y u->R x y H2->wpAny (model X.prog X.w) X.A (f v u) Q X.xe s2) :
   wpAny (model X.prog X.w) X.A (eval a X.env) (λv s₁=>wpAny (model X.prog X.w) X.A (eval b X.env) (λu s₂=>wpAny (model X.prog X.w) X.A (f v u) Q X.xe s₂) X.xe s₁) X.xe s:=by
 refine thn (ha pins s σ H _ I h) λv s1 ⟨x,H1,I1,r1,q1⟩=>?_
 refine thn (hb pins s1 σ H1 _ I1 q1) λu s2 ⟨y,H2,I2,r2,q2⟩=>?_
 exact hf v u s2 x y H2 I2 r1 r2 q2
theorem ma {op:Operator} {r:R2} (ho:OpR X (binaryOp op) r) (ha:PE X a ta) (hb:PE X b tb):PE X (.BinOp a op b pos) (tOp r ta tb):=by
 intro pins s σ H Q I h
 exact wpAny_BinOp (oJ ha hb I h λv u s2 x y H2 I2 rx ry q=>ho pins s2 σ H2 x y v u Q I2 rx ry q)
theorem qP {op:UnaryOp} {r:V->Hp->VK->Prop} (ho:UnR X (unaryOp op) r) (ha:PE X a ta):PE X (.UnaryOp op a pos) (tUn r ta):=by
 intro pins s σ H Q I h
 exact UnaryOp_ (thn (ha pins s σ H _ I h) λv s1 ⟨x,H1,I1,r1,q1⟩=>ho pins s1 σ H1 x v Q I1 r1 q1)
theorem opI {f:Value->Value->Sem Value} {C:Int->Int->Prop} {g:Int->Int->Int}
   (rule:∀ (i j:Int) (t u:Tok) (s:Shared) (Q:Value->Shared->Prop) (E:Value->Shared->Prop),C i j->Q (.int (g i j) s.toks) { s with toks:=s.toks + 1 }->wpAny (model X.prog X.w) X.A (f (.int i t) (.int j u)) Q E s) :
   OpR X f (rI C λi j=>.int (g i j)):=by
 intro pins s σ H x y v u Q I rx ry h
 obtain ⟨i,j,rfl,rfl,hc,q⟩:=h
 obtain ⟨t,rfl⟩:=rx
 obtain ⟨t',rfl⟩:=ry
 exact rule i j t t' s _ _ hc ⟨.int (g i j),H,I.tok _,⟨_,rfl⟩,q⟩
theorem qQ {f:Value->Value->Sem Value} {g:Int->Int->Int}
   (rule:∀ (i j:Int) (t u:Tok) (s:Shared) (Q:Value->Shared->Prop) (E:Value->Shared->Prop),Q (.int (g i j) s.toks) { s with toks:=s.toks + 1 }->wpAny (model X.prog X.w) X.A (f (.int i t) (.int j u)) Q E s) :
   OpR X f (rI0 λi j=>.int (g i j)):=by
 intro pins s σ H x y v u Q I rx ry h
 obtain ⟨i,j,rfl,rfl,q⟩:=h
 obtain ⟨t,rfl⟩:=rx
 obtain ⟨t',rfl⟩:=ry
 exact rule i j t t' s _ _ ⟨.int (g i j),H,I.tok _,⟨_,rfl⟩,q⟩
theorem mU {f:Value->Value->Sem Value} {g:Int->Int->Bool}
   (rule:∀ (i j:Int) (t u:Tok) (s:Shared) (Q:Value->Shared->Prop) (E:Value->Shared->Prop),Q (.bool (g i j)) s->wpAny (model X.prog X.w) X.A (f (.int i t) (.int j u)) Q E s) :
   OpR X f (rI0 λi j=>.bl (g i j)):=by
 intro pins s σ H x y v u Q I rx ry h
 obtain ⟨i,j,rfl,rfl,q⟩:=h
 obtain ⟨t,rfl⟩:=rx
 obtain ⟨t',rfl⟩:=ry
 exact rule i j t t' s _ _ ⟨.bl (g i j),H,I,rfl,q⟩
noncomputable def rg (i j:Int):Prop:=0<=j/\j<=1000000/\i.natAbs < 2 ^ 64
theorem qz:OpR X (binaryOp .Add) (rI0 λi j=>.int (i + j)):=qQ λ_ _ _ _ _ _ _ q=>add_int q
theorem pH:OpR X (binaryOp .Sub) (rI0 λi j=>.int (i - j)):=qQ λ_ _ _ _ _ _ _ q=>sub_int q
theorem my:OpR X (binaryOp .Mod) (rI (λ_ j=>j ≠ 0) λi j=>.int (i.fmod j)):=opI λ_ _ _ _ _ _ _ hc q=>mod_int' hc q
theorem pX:OpR X (binaryOp .Pow) (rI rg λi j=>.int (i ^ j.toNat)):=opI λ_ _ _ _ _ _ _ hc q=>pow_int_small hc.1 hc.2.1 hc.2.2 q
theorem unI {f:Value->Sem Value} {g:Int->Int}
   (rule:∀ (i:Int) (t:Tok) (s:Shared) (Q:Value->Shared->Prop) (E:Value->Shared->Prop),Q (.int (g i) s.toks) { s with toks:=s.toks + 1 }->wpAny (model X.prog X.w) X.A (f (.int i t)) Q E s) :
   UnR X f (rU λi=>.int (g i)):=by
 intro pins s σ H x v Q I rx h
 obtain ⟨i,rfl,q⟩:=h
 obtain ⟨t,rfl⟩:=rx
 exact rule i t s _ _ ⟨.int (g i),H,I.tok _,⟨_,rfl⟩,q⟩
theorem pP:UnR X (unaryOp .USub) (rU λi=>.int (-i)):=unI λ_ _ _ _ _ q=>neg_int q
end
noncomputable def rn:V->V->Bool
 | .non,.non=>true | .non,.int _=>true | .int _,.non=>true | .non,.bl _=>true | .bl _,.non=>true | .non,.str _=>true | .str _,.non=>true
 | .int _,.int _=>true | .bl _,.bl _=>true | .str _,.str _=>true | .byt _,.byt _=>true
 | .int _,.str _=>true | .str _,.int _=>true | .bl _,.str _=>true | .str _,.bl _=>true
 | _,_=>false
noncomputable def rEq:R2:=λx y H Q=>rn x y=true/\Q (.bl (decide (x=y))) H
noncomputable def rNe:R2:=λx y H Q=>rn x y=true/\Q (.bl (!decide (x=y))) H
theorem jA {i j:Int}:decide (V.int i=V.int j)=(i == j):=by
 rw [Bool.eq_iff_iff]
 simp
theorem ml {i j:Bool}:decide (V.bl i=V.bl j)=(i == j):=by
 rw [Bool.eq_iff_iff]
 simp
theorem jx {i j:Str}:decide (V.str i=V.str j)=(i == j):=by
 rw [Bool.eq_iff_iff]
 simp
theorem jt {i j:Array UInt8}:decide (V.byt i=V.byt j)=(i.toList == j.toList):=by
 rw [Bool.eq_iff_iff]
 cases i
 cases j
 simp
section
variable {X:Cx} {a b c:Expr} {ta tb tc:TE} {pos:Pos}
theorem aG {pins:List (Addr × Obj)} {σ:St} {H:Hp} {s:Shared} {Q:VK} {k k':Bool} (I:Inv X pins σ H s) (q:Q (.bl k) H) (e:k=k'):EP X pins σ Q (.bool k') s:=by
 subst e
 exact ⟨.bl k,H,I,rfl,q⟩
theorem q0:OpR X (compareOp .Eq) rEq:=by
 intro pins s σ H x y v u Q I rx ry h
 obtain ⟨hs,q⟩:=h
 cases x with
 | non=>
   cases rx
   cases y with
   | non=>cases ry; exact PySem.EqNone.eq_none_none (aG I q (by simp))
   | bl j=>cases ry; exact PySem.EqNone.eq_none_bool (aG I q (by simp))
   | int j=>obtain ⟨t',rfl⟩:=ry; exact PySem.EqNone.eq_none_int (aG I q (by simp))
   | str j=>obtain ⟨t',rfl⟩:=ry; exact PySem.EqNone.eq_none_str (aG I q (by simp))
   | _=>exact absurd (show false=true from hs) Bool.false_ne_true
 | bl i=>
   cases rx
   cases y with
   | non=>cases ry; exact PySem.EqNone.eq_bool_none (aG I q (by simp))
   | bl j=>cases ry; exact eq_bool (aG I q ml)
   | str j=>obtain ⟨t',rfl⟩:=ry; exact PySem.EqMixed.eq_bool_str (aG I q (by simp))
   | _=>exact absurd (show false=true from hs) Bool.false_ne_true
 | int i=>
   obtain ⟨t,rfl⟩:=rx
   cases y with
   | non=>cases ry; exact PySem.EqNone.eq_int_none (aG I q (by simp))
   | int j=>obtain ⟨t',rfl⟩:=ry; exact eq_int (aG I q jA)
   | str j=>obtain ⟨t',rfl⟩:=ry; exact PySem.EqMixed.eq_int_str (aG I q (by simp))
   | _=>exact absurd (show false=true from hs) Bool.false_ne_true
 | str i=>
   obtain ⟨t,rfl⟩:=rx
   cases y with
   | non=>cases ry; exact PySem.EqNone.eq_str_none (aG I q (by simp))
   | bl j=>cases ry; exact PySem.EqMixed.eq_str_bool (aG I q (by simp))
   | int j=>obtain ⟨t',rfl⟩:=ry; exact PySem.EqMixed.eq_str_int (aG I q (by simp))
   | str j=>obtain ⟨t',rfl⟩:=ry; exact eq_str (aG I q jx)
   | _=>exact absurd (show false=true from hs) Bool.false_ne_true
 | byt i=>
   obtain ⟨t,rfl⟩:=rx
   cases y with
   | byt j=>obtain ⟨t',rfl⟩:=ry; exact PySem.W.eq_bytes (aG I q jt)
   | _=>exact absurd (show false=true from hs) Bool.false_ne_true
 | _=>cases y <;> exact absurd (show false=true from hs) Bool.false_ne_true
theorem nO:OpR X (compareOp .NotEq) rNe:=by
 intro pins s σ H x y v u Q I rx ry h
 obtain ⟨hs,q⟩:=h
 cases x with
 | non=>
   cases rx
   cases y with
   | non=>cases ry; exact PySem.EqNone.ne_none_none (aG I q (by simp))
   | bl j=>cases ry; exact PySem.EqNone.ne_none_bool (aG I q (by simp))
   | int j=>obtain ⟨t',rfl⟩:=ry; exact PySem.EqNone.ne_none_int (aG I q (by simp))
   | str j=>obtain ⟨t',rfl⟩:=ry; exact PySem.EqNone.ne_none_str (aG I q (by simp))
   | _=>exact absurd (show false=true from hs) Bool.false_ne_true
 | bl i=>
   cases rx
   cases y with
   | non=>cases ry; exact PySem.EqNone.ne_bool_none (aG I q (by simp))
   | bl j=>cases ry; exact ne_bool (aG I q (congrArg not ml))
   | str j=>obtain ⟨t',rfl⟩:=ry; exact PySem.EqMixed.ne_bool_str (aG I q (by simp))
   | _=>exact absurd (show false=true from hs) Bool.false_ne_true
 | int i=>
   obtain ⟨t,rfl⟩:=rx
   cases y with
   | non=>cases ry; exact PySem.EqNone.ne_int_none (aG I q (by simp))
   | int j=>obtain ⟨t',rfl⟩:=ry; exact ne_int (aG I q (congrArg not jA))
   | str j=>obtain ⟨t',rfl⟩:=ry; exact PySem.EqMixed.ne_int_str (aG I q (by simp))
   | _=>exact absurd (show false=true from hs) Bool.false_ne_true
 | str i=>
   obtain ⟨t,rfl⟩:=rx
   cases y with
   | non=>cases ry; exact PySem.EqNone.ne_str_none (aG I q (by simp))
   | bl j=>cases ry; exact PySem.EqMixed.ne_str_bool (aG I q (by simp))
   | int j=>obtain ⟨t',rfl⟩:=ry; exact PySem.EqMixed.ne_str_int (aG I q (by simp))
   | str j=>obtain ⟨t',rfl⟩:=ry; exact ne_str (aG I q (congrArg not jx))
   | _=>exact absurd (show false=true from hs) Bool.false_ne_true
 | byt i=>
   obtain ⟨t,rfl⟩:=rx
   cases y with
   | byt j=>obtain ⟨t',rfl⟩:=ry; exact PySem.W.ne_bytes (aG I q (congrArg not jt))
   | _=>exact absurd (show false=true from hs) Bool.false_ne_true
 | _=>cases y <;> exact absurd (show false=true from hs) Bool.false_ne_true
theorem rV:OpR X (compareOp .Lt) (rI0 λi j=>.bl (decide (i < j))):=mU λ_ _ _ _ _ _ _ q=>lt_int q
theorem sA:OpR X (compareOp .LtE) (rI0 λi j=>.bl (decide (i<=j))):=mU λ_ _ _ _ _ _ _ q=>le_int q
theorem qW:OpR X (compareOp .Gt) (rI0 λi j=>.bl (decide (j < i))):=mU λ_ _ _ _ _ _ _ q=>gt_int q
theorem rd:OpR X (compareOp .GtE) (rI0 λi j=>.bl (decide (j<=i))):=mU λ_ _ _ _ _ _ _ q=>ge_int q
theorem mq (b:Expr) {op:CmpOp} (h:op ≠ .In:=by decide) (h2:op ≠ .NotIn:=by decide):behindInMarks op b=false:=by
 have e1:(op == CmpOp.In)=false:=by cases op <;> first | rfl | exact absurd rfl h
 have e2:(op == CmpOp.NotIn)=false:=by cases op <;> first | rfl | exact absurd rfl h2
 cases b <;> simp [behindInMarks,e1,e2]
theorem mI {op:CmpOp} {r:R2} (ho:OpR X (compareOp op) r) (ha:PE X a ta) (hb:PE X b tb) (hm:behindInMarks op b=false):PE X (.Compare a [op] [b] pos) (tOp r ta tb):=by
 intro pins s σ H Q I h
 exact wpAny_Compare1 (oJ ha hb I h λv u s2 x y H2 I2 rx ry q=>ho pins s2 σ H2 x y v u Q I2 rx ry q) hm
noncomputable def nQ (t:TE):TT:=λσ H Q=>t σ H λx H'=>∃ k,x=.bl k/\Q k H'
theorem mM {op:CmpOp} {r:R2} (ho:OpR X (compareOp op) r) (ha:PE X a ta) (hb:PE X b tb) (hm:behindInMarks op b=false):PT X (.Compare a [op] [b] pos) (nQ (tOp r ta tb)):=by
 intro pins s σ H Q I h
 refine wpAny_isTrue_Compare1 (thn (ha pins s σ H _ I h) λv s1 ⟨x,H1,I1,r1,q1⟩=>thn (hb pins s1 σ H1 _ I1 q1) λu s2 ⟨y,H2,I2,r2,q2⟩=>
   thn (ho pins s2 σ H2 x y v u _ I2 r1 r2 q2) λc s3 ⟨z,H3,I3,r3,k,e,q3⟩=>?_) hm
 subst e
 cases r3
 exact wpAny_truthy_bool ⟨H3,I3,q3⟩
noncomputable def iY (r r':R2) (ta tb tc:TE):TE:=λσ H Q=>ta σ H λx H1=>tb σ H1 λy H2=>r x y H2 λz H3=>∃ k,z=.bl k /\
 (if k=true then tc σ H3 λw' H4=>r' y w' H4 Q else Q (.bl false) H3)
theorem lF {op op':CmpOp} {r r':R2} (ho:OpR X (compareOp op) r) (ho':OpR X (compareOp op') r') (ha:PE X a ta) (hb:PE X b tb) (hc:PE X c tc)
   (hm:lastMarks [op,op'] [b,c]=false:=by with_unfolding_all rfl):PE X (.Compare a [op,op'] [b,c] pos) (iY r r' ta tb tc):=by
 intro pins s σ H Q I h
 refine Compare_chain (thn (ha pins s σ H _ I h) λv s1 ⟨x,H1,I1,r1,q1⟩=>chain_link (thn (hb pins s1 σ H1 _ I1 q1) λu s2 ⟨y,H2,I2,r2,q2⟩=>
   thn (ho pins s2 σ H2 x y v u _ I2 r1 r2 q2) λd s3 ⟨z,H3,I3,r3,k,e,q3⟩=>?_)) hm
 subst e
 cases r3
 refine wpAny_truthy_bool ?_
 cases k with
 | false=>exact ite_ff ⟨.bl false,H3,I3,rfl,q3⟩
 | true=>exact ite_tt (chain_last (thn (hc pins s3 σ H3 _ I3 q3) λw' s4 ⟨z',H4,I4,r4,q4⟩=>ho' pins s4 σ H4 y z' u w' Q I4 r2 r4 q4))
theorem lp {op op':CmpOp} {r r':R2} (ho:OpR X (compareOp op) r) (ho':OpR X (compareOp op') r') (ha:PE X a ta) (hb:PE X b tb) (hc:PE X c tc)
   (hm:lastMarks [op,op'] [b,c]=false:=by with_unfolding_all rfl):PT X (.Compare a [op,op'] [b,c] pos) (nQ (iY r r' ta tb tc)):=by
 intro pins s σ H Q I h
 refine isTrue_chain (thn (ha pins s σ H _ I h) λv s1 ⟨x,H1,I1,r1,q1⟩=>test_link (thn (hb pins s1 σ H1 _ I1 q1) λu s2 ⟨y,H2,I2,r2,q2⟩=>
   thn (ho pins s2 σ H2 x y v u _ I2 r1 r2 q2) λd s3 ⟨z,H3,I3,r3,k,e,q3⟩=>?_)) hm
 subst e
 cases r3
 refine wpAny_truthy_bool ?_
 cases k with
 | false=>
   obtain ⟨k',e',q'⟩:=q3
   cases e'
   exact ite_ff ⟨H3,I3,q'⟩
 | true=>
   refine ite_tt (test_last (thn (hc pins s3 σ H3 _ I3 q3) λw' s4 ⟨z',H4,I4,r4,q4⟩=>thn (ho' pins s4 σ H4 y z' u w' _ I4 r2 r4 q4) λd' s5 ⟨z2,H5,I5,r5,k2,e2,q5⟩=>?_))
   subst e2
   cases r5
   exact wpAny_truthy_bool ⟨H5,I5,q5⟩
theorem i0:(sizeLine:Nat) < 2 ^ 63:=by rw [sizeLine_eq]; decide
theorem vals1 {x:V} {us:List Value} (r:Vals [x] us):∃ u,us=[u]/\RelV x u:=by
 cases r with
 | cons r1 r2=>cases r2; exact ⟨_,rfl,r1⟩
theorem vals2 {x y:V} {us:List Value} (r:Vals [x,y] us):∃ u w',us=[u,w']/\RelV x u/\RelV y w':=by
 cases r with
 | cons r1 r2=>
   cases r2 with
   | cons r3 r4=>cases r4; exact ⟨_,_,rfl,r1,r3⟩
theorem kU:cN X (.builtin "abs") (λxs H Q=>∃ i,xs=[.int i]/\Q (.int (if i < 0 then -i else i)) H):=by
 intro pins s σ H xs us Q I r h
 obtain ⟨i,rfl,q⟩:=h
 obtain ⟨u,rfl,t,rfl⟩:=vals1 r
 exact call_abs_int λu tk=>⟨.int (if i < 0 then -i else i),H,I.tok _,⟨_,rfl⟩,q⟩
theorem j2 (hc:X.calm=true):cN X (.builtin "max") (λxs H Q=>∃ i j,xs=[.int i,.int j]/\Q (.int (if j > i then j else i)) H):=by
 intro pins s σ H xs us Q I r h
 obtain ⟨i,j,rfl,q⟩:=h
 obtain ⟨u,w',rfl,⟨t,rfl⟩,⟨t',rfl⟩⟩:=vals2 r
 refine max_two_ints (I.ok.hd hc) λh' tk k=>⟨_,H,I.kept k,?_,q⟩
 by_cases hj:j > i
 · rw [if_pos hj,if_pos hj]; exact ⟨_,rfl⟩
 · rw [if_neg hj,if_neg hj]; exact ⟨_,rfl⟩
end
section
variable {prog:Program} {w:World} {A:Around} {E:Value->Shared->Prop} {s:Shared} {K:PySem.W.Frag} {x dx C f:Addr} {mA:Str->Option Value} {name:Str} {v:Value}
end
theorem hV.some_of {v:V} {o:Option Value} (r:hV (some v) o):∃ u,o=some u/\RelV v u:=by
 cases o with
 | none=>exact (show False from r).elim
 | some u=>exact ⟨u,rfl,r⟩
section
variable {P:Program} {w:World} {H H':Hp} {h h':Heap} {a C dx:Addr} {fs fs':List (Str × V)}
end
section
variable {X:Cx} {pins:List (Addr × Obj)} {σ:St} {H:Hp} {s:Shared} {a C dx:Addr} {fs:List (Str × V)} {f:Str} {v:V} {A:Around} {E:Value->Shared->Prop}
end
section
variable {X:Cx} {o e value:Expr} {f:Str} {pos pos' tpos:Pos} {ta tv:TE}
end
section
variable {X:Cx} {pins:List (Addr × Obj)} {σ:St} {H:Hp} {s:Shared} {A:Around} {E:Value->Shared->Prop} {Q:Value->Shared->Prop} {c:Value} {b:Bool}
end
structure b5 (k:Nat) (A:Around):Prop where
 hd:A.handled=none
 dp:A.depth + 3 * k + 5 < recursionLimit
 un:A.units + 16 * k + 200 < cLine
theorem b5.mono {j k:Nat} {A:Around} (r:b5 k A) (h:j<=k):b5 j A:=⟨r.hd,by have:=r.dp; omega,by have:=r.un; omega⟩
theorem b5.deeper {k:Nat} {A:Around} (r:b5 (k + 1) A) (env:Env):b5 k (A.deeper env):=
 ⟨r.hd,by have:=r.dp; show A.depth + 1 + 3 * k + 5 < _; omega,by have:=r.un; show A.units + 3 + 16 * k + 200 < _; omega⟩
theorem b5.depth {k:Nat} {A:Around} (r:b5 k A):A.depth < recursionLimit:=by have:=r.dp; omega
theorem b5.units {k:Nat} {A:Around} (r:b5 k A):A.units + 64 < cLine:=by have:=r.un; omega
noncomputable def sL:TA:=λ_ H Q=>Q [] H
noncomputable def sC (ta:TE) (tr:TA):TA:=λσ H Q=>ta σ H λx H1=>tr σ H1 λxs H2=>Q (x :: xs) H2
section
variable {X:Cx} {e:Expr} {es:List Expr} {te:TE} {t:TA} {pos:Pos}
theorem cI:PA X [] sL:=λ_ _ _ _ H Q I h=>Calls.spliced_nil ⟨[],H,I,.nil,h⟩
theorem bf (ha:PE X e te) (hr:PA X es t) (hs:starEach (e :: es) X.env=(false,eval e X.env) :: starEach es X.env:=by rfl):PA X (e :: es) (sC te t):=by
 intro pos pins s σ H Q I h
 rw [hs]
 show wpAny _ _ (spliced ((false,eval e X.env) :: backTo pos (starEach es X.env))) _ _ s
 refine Calls.spliced_cons (thn (ha pins s σ H _ I h) λu s1 ⟨x,H1,I1,r1,q1⟩=>?_)
 exact thn (hr pos pins s1 σ H1 _ I1 q1) λus s2 ⟨xs,H2,I2,r2,q2⟩=>⟨x :: xs,H2,I2,.cons r1 r2,q2⟩
noncomputable def tF (t:TA):TE:=λσ H Q=>t σ H λxs H1=>xs.length<=sizeLine/\∀ p,H1 p=none->Q (.ref p) (upd H1 p (.tup xs))
noncomputable def sI (t:TA):TE:=λσ H Q=>t σ H λxs H1=>xs.length<=sizeLine/\∀ p,H1 p=none->Q (.ref p) (upd H1 p (.lst xs))
theorem lV {x1} (h:PA X es t):PE X (.Tuple es x1 pos) (tF t):=by
 intro pins s σ H Q I hq
 refine wpAny_Tuple_spliced (thn (h pos pins s σ H _ I hq) λus s1 ⟨xs,H1,I1,r,z,q⟩=>⟨by rw [<- r.length]; exact z,?_⟩)
 have hf:H1 s1.heap.objs.size=none:=I1.hok.fresh (Nat.le_refl _)
 refine ⟨.ref s1.heap.objs.size,upd H1 s1.heap.objs.size (.tup xs),I1.laid (t':=s1.toks) (λb u e=>Heap.get?_push_of_some _ e) (Nat.le_refl _) ?_,rfl,q _ hf⟩
 exact ⟨z,us,r,⟨_,Heap.get?_push_size _ rfl,rfl,_,rfl⟩⟩
theorem o3 (h:PA X es t):PE X (.List es pos) (sI t):=by
 intro pins s σ H Q I hq
 refine wpAny_List_spliced (thn (h pos pins s σ H _ I hq) λus s1 ⟨xs,H1,I1,r,z,q⟩=>⟨by rw [<- r.length]; exact z,?_⟩)
 have hf:H1 s1.heap.objs.size=none:=I1.hok.fresh (Nat.le_refl _)
 refine ⟨.ref s1.heap.objs.size,upd H1 s1.heap.objs.size (.lst xs),I1.laid (t':=s1.toks) (λb u e=>Heap.get?_push_of_some _ e) (Nat.le_refl _) ?_,rfl,q _ hf⟩
 exact ⟨z,us,0,r,Heap.get?_push_size _ rfl⟩
end
noncomputable abbrev Sp:=List V->Hp->VK->XK->Prop
noncomputable abbrev CXT:=List Env->Hp->Shared->XK->Value->Shared->Prop
structure mi (P:Program) (w:World) (K:PySem.W.Frag) (mg:Str->Option Value) (base:Heap) (A:Around) (outer:List Env) (s:Shared) (H:Hp):Prop where
 frames:A.frames=some outer
 mod:Mod K mg base
 bs:∀ b o,base.get? b=some o->s.heap.get? b=some o/\H b=none
 bsz:base.objs.size<=s.heap.objs.size
 dF:s.heap.FunFrames base outer
 frf:∀ b ∈ frs outer,H b=none
 hok:HOk P w H s.heap
 bare:AllBare s.gens
noncomputable def CE (outer:List Env) (P:Program) (w:World) (H:Hp) (s:Shared) (Q:VK) (u:Value) (s':Shared):Prop:=
 ∃ v H',s'.os=s.os/\AllBare s'.gens/\Un (frs outer) [] H H' s.heap s'.heap/\HOk P w H' s'.heap/\RelV v u/\Q v H'
noncomputable def CR (CX:CXT) (outer:List Env) (P:Program) (w:World) (H:Hp) (s:Shared) (Q:VK) (E:XK) (r:Result) (s':Shared):Prop:=
 match r with
 | .ok (.ret u)=>CE outer P w H s Q u s'
 | .ok _=>False
 | .error e=>CX outer H s E e s'
structure aO (P:Program) (w:World) (K:PySem.W.Frag) (mg:Str->Option Value) (base:Heap) (CX:CXT) (k:Nat) (f:Addr) (fd:FuncData) (ps:List Str) (sp:Sp):Prop where
 len:∀ vs H Q E,sp vs H Q E->vs.length=ps.length
 run:∀ (A:Around) (outer:List Env) (s:Shared) (H:Hp) (args:Args) (us:List Value) (vs:List V) (Q:VK) (E:XK),b5 k A->mi P w K mg base A outer s H->BindsTo s fd args (ps.zip us)->Vals vs us->sp vs H Q E ->
   codeAny (model P w) A (.call (.ref f) args) (CR CX outer P w H s Q E) s
theorem aO.mono {P:Program} {w:World} {K:PySem.W.Frag} {mg:Str->Option Value} {base:Heap} {CX:CXT} {j k:Nat} {f:Addr} {fd:FuncData} {ps:List Str} {sp:Sp} (F:aO P w K mg base CX j f fd ps sp) (h:j<=k) :
   aO P w K mg base CX k f fd ps sp:=⟨F.len,λA outer s H args us vs Q E hr=>F.run A outer s H args us vs Q E (hr.mono h)⟩
section
variable {X:Cx} {pins:List (Addr × Obj)} {σ:St} {H:Hp} {s s':Shared}
theorem Inv.sq (I:Inv X pins σ H s):mi X.prog X.w X.K X.mg X.base X.A X.stack s H:=
 ⟨I.ok.frames,I.ok.mod,I.bs,Nat.le_trans I.ok.bsz I.sz,I.stack,I.dr,I.hok,I.bare⟩
theorem Inv.after {Q:VK} {u:Value} (I:Inv X pins σ H s) (h:CE X.stack X.prog X.w H s Q u s'):EP X pins σ Q u s':=by
 obtain ⟨v,H',os,bare,un,hok,r,q⟩:=h
 obtain ⟨hh,g,d,t,os'⟩:=s'
 obtain rfl:os'=s.os:=os
 exact ⟨v,H',I.call (h':=hh) (g':=g) (d':=d) (t':=t) (ch:=[]) un hok bare (λb z=>absurd z (by simp)),r,q⟩
end
noncomputable def sx (sp:Sp) (dvs:List V) (E:XK) (t:TA):TE:=λσ H Q=>t σ H λvs H1=>sp (vs++dvs) H1 Q E
noncomputable def Binds (K:PySem.W.Frag) (fd:FuncData) (ps:List Str) (ds:List Value):Prop:=
 ∀ (s:Shared) (us:List Value),K.In s.heap->(us++ds).length=ps.length->BindsTo s fd ⟨us,[]⟩ (ps.zip (us++ds))
theorem Binds.all {K:PySem.W.Frag} {fd:FuncData} {ps:List Str} (h:∀ us:List Value,us.length=ps.length->bindArgs fd ⟨us,[]⟩=pure (ps.zip us)):Binds K fd ps []:=λs us _ hl=>by
 rw [List.append_nil] at hl ⊢
 exact .of_eq (h us hl)
noncomputable def Passes (CX:CXT) (X:Cx) (E:XK):Prop:=∀ (pins:List (Addr × Obj)) (σ:St) (H:Hp) (s:Shared) (e:Value) (s':Shared),Inv X pins σ H s->CX X.stack H s E e s'->X.xe e s'
section
variable {X:Cx} {CX:CXT} {k:Nat} {f C:Addr} {fd:FuncData} {ps:List Str} {sp:Sp} {dvs:List V} {ds:List Value} {E:XK} {x m:Str} {p pos apos:Pos} {e o:Expr} {es:List Expr} {ta:TE} {t:TA}
theorem o9 {pins:List (Addr × Obj)} {σ:St} {H:Hp} {s:Shared} {Q:VK} {us:List Value} {vs:List V} (F:aO X.prog X.w X.K X.mg X.base CX k f fd ps sp) (hr:b5 k X.A) (hb:Binds X.K fd ps ds) (hd:Vals dvs ds) (hx:Passes CX X E)
   (I:Inv X pins σ H s) (r:Vals vs us) (h:sp (vs++dvs) H Q E):wpAny (model X.prog X.w) X.A (call (.ref f) us) (EP X pins σ Q) X.xe s:=by
 have r2:Vals (vs++dvs) (us++ds):=r.append hd
 have hl:(us++ds).length=ps.length:=by rw [<- r2.length]; exact F.len _ _ _ _ h
 refine wpAny_call (codeAny_mono (F.run X.A X.stack s H ⟨us,[]⟩ (us++ds) (vs++dvs) Q E hr I.sq (hb s us I.kIn hl) r2 h) λr s' hq=>?_)
 cases r with
 | error e=>exact hx pins σ H s e s' I hq
 | ok fl=>
   cases fl with
   | ret u=>exact I.after hq
   | next=>exact False.elim hq
   | brk=>exact False.elim hq
   | cont=>exact False.elim hq
theorem jn (F:aO X.prog X.w X.K X.mg X.base CX k f fd ps sp) (hr:b5 k X.A) (hg:Gl X x) (hm:X.mg x=some (.ref f)) (hk:PySem.W.keepIn X.K (.ref f)=true) (hb:Binds X.K fd ps ds) (hd:Vals dvs ds) (hx:Passes CX X E)
   (ha:PA X (e :: es) t) (hdb:(x == ("__debug__" : Str))=false:=by decide) (he:starEach (e :: es) X.env=(false,eval e X.env) :: starEach es X.env:=by rfl) (hpl:(backTo pos (starEach es X.env)).any (·.1)=false:=by rfl) :
   PE X (.Call (.Name x p) (e :: es) [] pos) (sx sp dvs E t):=by
 intro pins s σ H Q I h
 refine wpAny_Call_Name_kw (dz I hg hm ?_ hdb)
 refine PySem.W.callWith_K (h₀:=X.base) I.ok.mod.kin hk (thn (ha pos pins s σ H _ I h) λus s1 ⟨vs,H1,I1,r,q⟩=>⟨I1.kIn,?_⟩) he hpl
 exact o9 F hr hb hd hx I1 r q
end
section
variable {X:Cx} {CX:CXT} {k:Nat} {f C:Addr} {fd:FuncData} {ps ks:List Str} {sp:Sp} {E:XK} {x m:Str} {p pos apos kpos:Pos} {e o:Expr} {es:List Expr} {kws:List Keyword} {te ta:TE} {t tk:TA} {nm:Option Str}
variable {g:List Value->List Value->List Value} {gV:List V->List V->List V}
end
structure ax (N P:List Str) (sc:Scope):Prop where
 kind:sc.kind=.function
 co:sc.isCoroutine=false
 gen:sc.isGenerator=false
 nd:N.Nodup
 pre:N.take P.length=P
 par:∀ x ∈ P,sc.names.lookup x=some .local\/sc.names.lookup x=some .cell
 nofree:∀ y ∈ sc.names,y.2 ≠ .free
theorem fX {kindOf:Str->Option NameKind} {x:Str}:∀ {binds:List (Str × Value)} {m:Str->Option Value},(∀ v,(x,v) ∉ binds)->bindL kindOf binds m x=m x
 | [],_,_=>rfl
 | (n,v) :: r,m,h=>by
   unfold bindL
   rw [fX λw hw=>h w (List.mem_cons_of_mem _ hw)]
   split
   · have:x ≠ n:=by rintro rfl; exact h v List.mem_cons_self
     simp [this]
   · rfl
theorem gh {kindOf:Str->Option NameKind} {x:Str}:∀ {binds:List (Str × Value)} {m:Str->Option Value},(∀ v,(x,v) ∉ binds)->bindC kindOf binds m x=m x
 | [],_,_=>rfl
 | (n,v) :: r,m,h=>by
   unfold bindC
   rw [gh λw hw=>h w (List.mem_cons_of_mem _ hw)]
   split
   · rfl
   · have:x ≠ n:=by rintro rfl; exact h v List.mem_cons_self
     simp [this]
theorem gw {kindOf:Str->Option NameKind} {x:Str} {v:Value}:∀ {P:List Str} {vs:List Value} {i:Nat} {m:Str->Option Value},P.Nodup->P[i]?=some x->vs[i]?=some v->kindOf x=some .local ->
   bindL kindOf (P.zip vs) m x=some v
 | [],_,_,_,_,h,_,_=>by simp at h
 | _ :: _,[],_,_,_,_,h,_=>by simp at h
 | p :: P,w :: vs,0,m,nd,h1,h2,hk=>by
   simp at h1 h2; subst h1; subst h2
   show bindL kindOf ((p,w) :: P.zip vs) m p=_
   unfold bindL
   rw [fX λv hv=>(List.nodup_cons.mp nd).1 (List.of_mem_zip hv).1,if_pos hk]
   simp
 | p :: P,w :: vs,i + 1,m,nd,h1,h2,hk=>by
   show bindL kindOf ((p,w) :: P.zip vs) m x=_
   unfold bindL
   exact gw (i:=i) (List.nodup_cons.mp nd).2 (by simpa using h1) (by simpa using h2) hk
theorem gq {kindOf:Str->Option NameKind} {x:Str} {v:Value}:∀ {P:List Str} {vs:List Value} {i:Nat} {m:Str->Option Value},P.Nodup->P[i]?=some x->vs[i]?=some v->kindOf x ≠ some .local ->
   bindC kindOf (P.zip vs) m x=some v
 | [],_,_,_,_,h,_,_=>by simp at h
 | _ :: _,[],_,_,_,_,h,_=>by simp at h
 | p :: P,w :: vs,0,m,nd,h1,h2,hk=>by
   simp at h1 h2; subst h1; subst h2
   show bindC kindOf ((p,w) :: P.zip vs) m p=_
   unfold bindC
   rw [gh λv hv=>(List.nodup_cons.mp nd).1 (List.of_mem_zip hv).1,if_neg hk]
   simp
 | p :: P,w :: vs,i + 1,m,nd,h1,h2,hk=>by
   show bindC kindOf ((p,w) :: P.zip vs) m x=_
   unfold bindC
   exact gq (i:=i) (List.nodup_cons.mp nd).2 (by simpa using h1) (by simpa using h2) hk
noncomputable def start (N:List Str) (vs:List V):St:=vs.map some++List.replicate (N.length - vs.length) none
noncomputable def fE (CX:CXT) (P:Program) (w:World) (K:PySem.W.Frag) (mg:Str->Option Value) (base:Heap) (N:List Str) (qual:Str) (scope:Scope) (f:Addr) (cd:Value) (A:Around) (outer:List Env) (s:Shared) (H:Hp) (E:XK):Cx where
 prog:=P
 w:=w
 K:=K
 mg:=mg
 base:=base
 A:=A.deeper (envOfC qual scope s.heap.objs.size f cd)
 N:=N
 s₀:=s
 H₀:=H
 env:=envOfC qual scope s.heap.objs.size f cd
 outer:=outer
 stack:=envOfC qual scope s.heap.objs.size f cd :: outer
 ex:=[]
 calm:=true
 fn:=λ_=>true
 pn:=[]
 xe:=λe s'=>wpAny (model P w) (A.deeper (envOfC qual scope s.heap.objs.size f cd)) (leaving (envOfC qual scope s.heap.objs.size f cd) e) (λ_ s''=>CX outer H s E e s'') (λe' s''=>CX outer H s E e' s'') s'
theorem hJ {sc:Scope} {n:Nat} {x:Str} (h:sc.names.lookup x=some .cell):∃ c,(cellsFrom n sc.names []).lookup x=some c:=by
 have q:=PySem.W.cellsFrom_some sc.names n [] (.inl h)
 exact Option.isSome_iff_exists.mp q
theorem gj {CX:CXT} {P:Program} {w:World} {K:PySem.W.Frag} {mg:Str->Option Value} {base:Heap} {N ps:List Str} {qual:Str} {scope:Scope} {f:Addr} {cd:Value} {A:Around} {outer:List Env} {s s1:Shared} {H:Hp} {E:XK} {us:List Value} {vs:List V}
   (S:ax N ps scope) {cm:Bool} (hd:cm=true->A.handled=none) (e0:mi P w K mg base A outer s H) (hl:vs.length=ps.length) (r:Vals vs us)
   (x:InCallC s s.heap.objs.size (bindL (envOfC qual scope s.heap.objs.size f cd).kindOf (ps.zip us) λ_=>none) (cellsFrom (s.heap.objs.size + 1) scope.names []) (bindC (envOfC qual scope s.heap.objs.size f cd).kindOf (ps.zip us) λ_=>none) s1) :
   Inv { fE CX P w K mg base N qual scope f cd A outer s H E with calm:=cm } [] (start N vs) H s1:=by
 have hpl:ps.length<=N.length:=by have:=congrArg List.length S.pre; rw [List.length_take] at this; omega
 obtain ⟨h1,tk,rfl,hk⟩:=x.done
 have noA:∀ b:Addr,b ∉ (fE CX P w K mg base N qual scope f cd A outer s H E).ex:=λb z=>absurd (show b ∈ ([]:List Addr) from z) (by simp)
 refine ⟨⟨e0.mod,S.kind,rfl,rfl,Nat.le_refl _,λy z c h1 h2=>?_,λy hy=>?_,λy c _ h=>?_,hd,Around.frames_deeper e0.frames,.inr ⟨rfl,rfl⟩,λb z=>absurd z (noA b),e0.bs,e0.bsz,λb _ _=>noA b,λb z=>absurd z (noA b),e0.dF,e0.frf⟩,
   rfl,e0.bare,Un.kept hk,⟨_,x.toInCall.ns,λi y v h1 h2 h3=>?_⟩,λy c h=>⟨_,x.cell y c h⟩,e0.hok.fresh (Nat.le_refl _),λy c h=>?_,λp hp=>absurd (show p ∈ ([]:List (Addr × Obj)) from hp) (by simp),e0.hok.kept hk,?_⟩
 · exact name_of_addr x.apart (PySem.mem_of_lookup h1) (PySem.mem_of_lookup h2)
 · have hy:scope.names.lookup y=some .cell\/scope.names.lookup y=some .free:=hy
   rcases hy with hy | hy
   · exact hJ hy
   · exact absurd rfl (S.nofree _ (PySem.mem_of_lookup hy))
 · exact Nat.le_of_lt (x.above y c (PySem.mem_of_lookup h))
 · have hi:i < vs.length:=by
     unfold start at h2
     by_cases hi:i < vs.length
     · exact hi
     · rw [List.getElem?_append_right (by simpa using hi)] at h2
       rw [List.getElem?_replicate] at h2
       split at h2 <;> cases h2
   have ha:vs[i]?=some v:=by
     unfold start at h2
     rw [List.getElem?_append_left (by simpa using hi),List.getElem?_map] at h2
     cases e:vs[i]? with
     | none=>rw [e] at h2; cases h2
     | some a=>rw [e] at h2; cases h2; rfl
   obtain ⟨u,hu,rv⟩:=r.get ha
   have hp:ps[i]?=some y:=by
     rw [<- S.pre,List.getElem?_take_of_lt (by omega)]; exact h1
   have ndP:ps.Nodup:=by rw [<- S.pre]; exact S.nd.sublist (List.take_sublist _ _)
   refine ⟨u,rv,?_⟩
   rcases S.par y (List.mem_of_getElem? hp) with k | k
   · exact .inl ⟨k,gw ndP hp hu k⟩
   · obtain ⟨c,e⟩:=hJ (n:=s.heap.objs.size + 1) k
     refine .inr ⟨.inl k,c,e,?_⟩
     have q:=x.cell y c e
     rw [gq ndP hp hu (by show scope.names.lookup y ≠ _; rw [k]; decide)] at q
     exact q
 · exact e0.hok.fresh (Nat.le_of_lt (x.above y c (PySem.mem_of_lookup h)))
 · unfold start
   show _=N.length
   rw [List.length_append,List.length_map,List.length_replicate]
   omega
theorem nW {CX:CXT} {P:Program} {w:World} {K:PySem.W.Frag} {mg:Str->Option Value} {base:Heap} {k:Nat} {f:Addr} {name qual:Str} {params:Arguments} {body:List Stmt} {scope:Scope} {dV kV doc pm cdv ct oc:Value} {an od:Option Addr}
   {osl:Array (Option Value)} {N ps:List Str} {sp:Sp} (lk:K.lookup f=some ⟨oc,od,.func (PySem.W.fnOf name qual params body scope dV kV doc pm an cdv ct),osl⟩) (hcd:PySem.W.codeIn K cdv qual=true) (S:ax N ps scope)
   (len:∀ vs H Q E,sp vs H Q E->vs.length=ps.length)
   (hbody:∀ (A:Around) (outer:List Env) (s:Shared) (H:Hp) (vs:List V) (Q:VK) (E:XK),b5 k (A.deeper (envOfC qual scope s.heap.objs.size f cdv))->sp vs H Q E ->
     ∃ t,PSs (fE CX P w K mg base N qual scope f cdv A outer s H E) body t/\t { nx:=λ_ H'=>Q .non H',rt:=Q } (start N vs) H) :
   aO P w K mg base CX (k + 1) f (PySem.W.fnOf name qual params body scope dV kV doc pm an cdv ct) ps sp:=by
 refine ⟨len,λA outer s H args us vs Q E hr e0 hb r hsp=>?_⟩
 have hl:=len _ _ _ _ hsp
 have KX:K.In s.heap:=e0.mod.kin.keeps λb o e=>(e0.bs b o e).1
 have lim:s.heap.NoLimit:=e0.mod.nolimit.keeps λb o e=>(e0.bs b o e).1
 have hkind:∀ y ∈ ps.zip us,scope.names.lookup y.1=some .local\/(scope.names.lookup y.1=some .cell/\((cellsFrom (s.heap.objs.size + 1) scope.names []).lookup y.1).isSome=true):=λ⟨n,v⟩ hy=>by
   rcases S.par n (List.of_mem_zip hy).1 with q | q
   · exact .inl q
   · exact .inr ⟨q,PySem.W.cellsFrom_some _ _ _ (.inl q)⟩
 refine codeAny_call_function hr.depth (KX _ _ lk) rfl S.co S.gen rfl (PySem.W.codeRec_of KX hcd) (hb _ _ _ _ ?_)
 refine wpAny_newFunctionEnv_cells S.kind hkind λenv he s1 x=>?_
 subst he
 refine ⟨lim.keeps x.toInCall.keep,codeAny_func ?_⟩
 obtain ⟨t,ht,hq⟩:=hbody A outer s H vs Q E (hr.deeper _) hsp
 have I:Inv (fE CX P w K mg base N qual scope f cdv A outer s H E) [] (start N vs) H s1:=gj (cm:=true) S (λ_=>hr.hd) e0 hl r x
 refine wpAny_mono (ht [] s1 (start N vs) H _ I hq) (λfl s' hs=>?_) λe s' hs=>hs
 have fin:∀ {σ':St} {H':Hp} {v:V} {u:Value},Inv (fE CX P w K mg base N qual scope f cdv A outer s H E) [] σ' H' s'->RelV v u->Q v H'->CE outer P w H s Q u s':=
   λ{σ' H' v u} J rv q=>⟨v,H',J.os,J.bare,J.base,J.hok,rv,q⟩
 cases fl with
 | ret u=>
   obtain ⟨v,σ',H',J,rv,q⟩:=hs
   exact fin J rv q
 | next=>
   obtain ⟨σ',H',J,q⟩:=hs
   exact fin (v:=V.non) (u:=Value.none) J rfl q
 | brk=>
   obtain ⟨_,_,_,q⟩:=hs
   exact False.elim q
 | cont=>
   obtain ⟨_,_,_,q⟩:=hs
   exact False.elim q
section
variable {X:Cx} {x:Str} {p pos:Pos} {e:Expr} {es:List Expr} {t:TA} {id T:String} {r:List V->Hp->VK->Prop}
noncomputable def tCB (r:List V->Hp->VK->Prop) (t:TA):TE:=λσ H Q=>t σ H λvs H1=>r vs H1 Q
theorem cO (hc:cN X (.builtin id) r) (hg:Gl X x) (hm:X.mg x=none) (hv:bootBuiltins x=some (.builtin id)) (ha:PA X (e :: es) t) (hn:x ≠ "__name__":=by decide) (hdb:(x == ("__debug__" : Str))=false:=by decide)
   (he:starEach (e :: es) X.env=(false,eval e X.env) :: starEach es X.env:=by rfl) (hpl:(backTo pos (starEach es X.env)).any (·.1)=false:=by rfl):PE X (.Call (.Name x p) (e :: es) [] pos) (tCB r t):=by
 intro pins s σ H Q I h
 refine wpAny_Call_Name_kw (cX I hg hm hv ?_ hn hdb)
 exact PyProof.Rows.callWith_builtin1 (thn (ha pos pins s σ H _ I h) λus s1 ⟨vs,H1,I1,r1,q1⟩=>hc pins s1 σ H1 vs us Q I1 r1 q1) he hpl
theorem ka (hc:cN X (.type T) r) (hg:Gl X x) (hm:X.mg x=none) (hv:bootBuiltins x=some (.type T)) (ha:PA X (e :: es) t) (hn:x ≠ "__name__":=by decide) (hdb:(x == ("__debug__" : Str))=false:=by decide)
   (he:starEach (e :: es) X.env=(false,eval e X.env) :: starEach es X.env:=by rfl) (hpl:(backTo pos (starEach es X.env)).any (·.1)=false:=by rfl):PE X (.Call (.Name x p) (e :: es) [] pos) (tCB r t):=by
 intro pins s σ H Q I h
 refine wpAny_Call_Name_kw (cX I hg hm hv ?_ hn hdb)
 exact PyProof.Rows.callWith_type1 (thn (ha pos pins s σ H _ I h) λus s1 ⟨vs,H1,I1,r1,q1⟩=>hc pins s1 σ H1 vs us Q I1 r1 q1) he hpl
end
end L2
namespace HT
open PySem PyProof.Rows
noncomputable def lexLt:List Int->List Int->Bool
 | [],[]=>false
 | [],_ :: _=>true
 | _ :: _,[]=>false
 | x :: xs,y :: ys=>if x=y then lexLt xs ys else decide (x < y)
theorem ja (x y:Int) (xs ys:List Int):lexLt (x :: xs) (y :: ys)=if x=y then lexLt xs ys else decide (x < y):=rfl
theorem fR:lexLt [] []=false:=rfl
theorem eZ (y:Int) (ys:List Int):lexLt [] (y :: ys)=true:=rfl
theorem eF (x:Int) (xs:List Int):lexLt (x :: xs) []=false:=rfl
theorem lL (A:Around) (s:Shared) (a:Int) (t:Tok) (c:Int) (u:Tok):∃ e,SeqAt.EqAt A s (.int a t) (.int c u) e/\(e=true ↔ a=c):=
 ⟨(a == c),SeqAt.EqAt.int_int a t c u,by simp⟩
theorem kC (A:Around) (s:Shared) (a:Int) (t:Tok) (c:Int) (u:Tok) (prog:Program) (w:World) (E:Value->Shared->Prop) (Q:Value->Shared->Prop) (h:Q (.bool (decide (a < c))) s) :
   wpAny (model prog w) A (richCompare .Lt (.int a t) (.int c u)) Q E s:=
 (PyProof.Rows.lt_int h:wpAny (model prog w) A (compareOp .Lt (.int a t) (.int c u)) Q E s)
section
open PySem.SeqAt
open PySem.AutoSeq1 (wpAny_loadPart')
open PySem.MeetsSeq PySem.MeetsSeq2 PySem.MeetsSeq3
end
section
variable {prog:Program} {w:World} {A:Around} {E:Value->Shared->Prop} {s:Shared}
noncomputable def sIx (n d:Nat):Option Int->Nat
 | none=>d
 | some v=>if v < 0 then (v + (n:Int)).toNat else min v.toNat n
theorem jf (n d k:Nat):sIx n d (some (k:Int))=min k n:=by
 show (if (k:Int) < 0 then ((k:Int) + (n:Int)).toNat else min (k:Int).toNat n)=min k n
 rw [if_neg (by omega),Int.toNat_natCast]
end
end HT
namespace L2
open PySem PySem.Spec PyProof.Rows
noncomputable abbrev TO:=St->Hp->(Option Int->Hp->Prop)->Prop
noncomputable def PO (X:Cx) (e:Option Expr) (t:TO):Prop:=
 ∀ (pins:List (Addr × Obj)) (s:Shared) (σ:St) (H:Hp) (Q:Option Int->Hp->Prop),Inv X pins σ H s->t σ H Q ->
   wpAny (model X.prog X.w) X.A (evalPart e X.env) (λu s'=>∃ o H',Inv X pins σ H' s'/\IsPart u o/\Q o H') X.xe s
noncomputable def q9 (t:TE):TO:=λσ H Q=>t σ H λx H1=>∃ i,x=.int i/\Q (some i) H1
section
variable {X:Cx} {e:Expr} {te:TE} {lo hi:Option Expr} {tl th:TO} {pos p2:Pos}
theorem mK (h:PE X e te):PO X (some e) (q9 te):=by
 intro pins s σ H Q I hw
 rw [evalPart_some]
 refine thn (h pins s σ H _ I hw) λu s1 ⟨x,H1,I1,r1,q1⟩=>?_
 obtain ⟨i,rfl,q⟩:=q1
 obtain ⟨t,rfl⟩:=r1
 exact ⟨some i,H1,I1,.int i t,q⟩
noncomputable def SlR (X:Cx) (r:V->Option Int->Option Int->Hp->VK->Prop):Prop:=
 ∀ (pins:List (Addr × Obj)) (s:Shared) (σ:St) (H:Hp) (x:V) (v vl vu:Value) (lo hi:Option Int) (sl:Addr) (Q:VK),Inv X pins σ H s->RelV x v->s.heap.IsSliceOf sl vl vu .none->IsPart vl lo->IsPart vu hi->r x lo hi H Q ->
   ∃ T id,typeLookup (.type T) "__getitem__" = pure (some (.builtin id))/\s.TypeIs v T/\wpAny (model X.prog X.w) X.A (getItem v (.ref sl)) (EP X pins σ Q) X.xe s
noncomputable def tSl (r:V->Option Int->Option Int->Hp->VK->Prop) (te:TE) (tl th:TO):TE:=λσ H Q=>te σ H λx H1=>tl σ H1 λl H2=>th σ H2 λu H3=>r x l u H3 Q
theorem lP {r:V->Option Int->Option Int->Hp->VK->Prop} (hr:SlR X r) (he:PE X e te) (hl:PO X lo tl) (hu:PO X hi th):PE X (.Subscript e (.Slice lo hi none p2) pos) (tSl r te tl th):=by
 intro pins s σ H Q I h
 refine Subscript_ (thn (he pins s σ H _ I h) λv s1 ⟨x,H1,I1,r1,q1⟩=>?_)
 refine wpAny_Slice (thn (hl pins s1 σ H1 _ I1 q1) λvl s2 ⟨l,H2,I2,pl,q2⟩=>thn (hu pins s2 σ H2 _ I2 q2) λvu s3 ⟨u,H3,I3,pu,q3⟩=>?_)
 rw [evalPart_none]
 refine wpAny_pure ?_
 have I4:Inv X pins σ H3 { s3 with heap:=s3.heap.push { cls:=.type "slice",data:=.fields #[vl,vu,.none] } }:=I3.kept (t':=s3.toks) λb ob q=>Heap.get?_push_of_some _ q
 obtain ⟨T,id,hT,ht,hg⟩:=hr pins { s3 with heap:=s3.heap.push { cls:=.type "slice",data:=.fields #[vl,vu,.none] } } σ H3 x v vl vu l u s3.heap.objs.size Q I4 r1 (Heap.IsSliceOf.new ..) pl pu q3
 show wpAny (model X.prog X.w) X.A (subscriptTail e (.Slice lo hi none p2) v (.ref s3.heap.objs.size)) (EP X pins σ Q) X.xe { s3 with heap:=s3.heap.push { cls:=.type "slice",data:=.fields #[vl,vu,.none] } }
 exact tail_any (ops:=[.ref s3.heap.objs.size,v]) ht hT hg (by with_unfolding_all rfl)
noncomputable def kj (xs:List V) (lo hi:Option Int):List V:=(xs.drop (HT.sIx xs.length 0 lo)).take (HT.sIx xs.length xs.length hi - HT.sIx xs.length 0 lo)
theorem iE (xs:List V) (lo hi:Option Int):(kj xs lo hi).length<=xs.length:=by
 unfold kj
 rw [List.length_take,List.length_drop]
 omega
end
noncomputable def ixN (n:Nat) (i:Int):Option Nat:=if 0<=i then (if i < n then some i.toNat else none) else if -(n:Int)<=i then some (i + n).toNat else none
noncomputable def atI {α:Type} (xs:List α) (i:Int):Option α:=(ixN xs.length i).bind λj=>xs[j]?
theorem nh {n:Nat} {i:Int} {j:Nat} (h:ixN n i=some j):seqIndex? i n=some j/\j < n/\-(n:Int)<=i/\i < n:=by
 unfold ixN at h
 by_cases h0:0<=i
 · rw [if_pos h0] at h
   by_cases h1:i < n
   · rw [if_pos h1] at h
     have e:i.toNat=j:=Option.some.inj h
     exact ⟨by rw [seqIndex_of h0 h1,e],by omega,by omega,h1⟩
   · rw [if_neg h1] at h; cases h
 · rw [if_neg h0] at h
   by_cases h1:-(n:Int)<=i
   · rw [if_pos h1] at h
     have e:(i + n).toNat=j:=Option.some.inj h
     exact ⟨by rw [seqIndex_neg (by omega) h1,e],by omega,h1,by omega⟩
   · rw [if_neg h1] at h; cases h
theorem jR {α:Type} {xs:List α} {i:Int} {v:α} (h:atI xs i=some v):∃ j,seqIndex? i xs.length=some j/\xs[j]?=some v/\j < xs.length/\-(xs.length:Int)<=i/\i < xs.length:=by
 unfold atI at h
 cases e:ixN xs.length i with
 | none=>rw [e] at h; cases h
 | some j=>
   rw [e] at h
   obtain ⟨h1,h2,h3,h4⟩:=nh e
   exact ⟨j,h1,h,h2,h3,h4⟩
noncomputable def eA (b:Expr):Prop:=∀ o i,subscripted b false o i=operate [o,i] (getItem o i)
noncomputable def IxR (X:Cx) (r:R2):Prop:=
 ∀ (value slice:Expr) (pins:List (Addr × Obj)) (s:Shared) (σ:St) (H:Hp) (x y:V) (v u:Value) (Q:VK),Inv X pins σ H s->RelV x v->RelV y u->r x y H Q ->
   subscripted slice false v u=operate [v,u] (getItem v u)->wpAny (model X.prog X.w) X.A (subscriptTail value slice v u) (EP X pins σ Q) X.xe s
noncomputable def MtR (X:Cx) (id:String) (r:V->List V->Hp->VK->Prop):Prop:=
 ∀ (pins:List (Addr × Obj)) (s:Shared) (σ:St) (H:Hp) (x:V) (xs:List V) (v:Value) (us:List Value) (Q:VK),Inv X pins σ H s->RelV x v->Vals xs us->r x xs H Q ->
   wpAny (model X.prog X.w) X.A (call (.builtin id) (v :: us)) (EP X pins σ Q) X.xe s
section
variable {X:Cx} {a b:Expr} {ta tb:TE} {pos:Pos}
theorem kF {r:R2} (hr:IxR X r) (ha:PE X a ta) (hb:PE X b tb) (hs:eA b):PE X (.Subscript a b pos) (tOp r ta tb):=by
 intro pins s σ H Q I h
 exact Subscript_ (oJ ha hb I h λv u s2 x y H2 I2 rx ry q=>hr a b pins s2 σ H2 x y v u Q I2 rx ry q (hs _ _))
noncomputable def sD (K:PySem.W.Frag):R2:=λx y H Q=>∃ p xs i v,x=.ref p/\y=.int i/\SqL K H p xs/\atI xs i=some v/\Q v H
noncomputable def sW (K:PySem.W.Frag):R2:=λx y H Q=>∃ p xs i v,x=.ref p/\y=.int i/\SqT K H p xs/\atI xs i=some v/\Q v H
theorem ju:IxR X (sD X.K):=by
 intro value slice pins s σ H x y v u Q I rx ry h hs
 obtain ⟨p,xs,i,z,rfl,rfl,hq,he,q⟩:=h
 cases rx
 obtain ⟨t,rfl⟩:=ry
 obtain ⟨its,r,pl,hz⟩:=I.list hq
 obtain ⟨j,h1,h2,h3,h4,h5⟩:=jR he
 obtain ⟨w,ew,rw'⟩:=r.get h2
 have hl:=r.length
 have hn:=i0
 have fin:EP X pins σ Q w s:=⟨z,H,I,rw',q⟩
 by_cases h0:0<=i
 · have hj:i.toNat=j:=by
     rw [seqIndex_of h0 h5] at h1
     exact Option.some.inj h1
   exact item_listR pl.isList h0 (by omega) (by rw [hj]; simpa using ew) fin hs
 · have hj:(i + (its.toArray.size:Int)).toNat=j:=by
     rw [seqIndex_neg (by omega) h4] at h1
     rw [List.size_toArray,<- hl]
     exact Option.some.inj h1
   exact subscriptTail_builtinR (x:=w) pl.isList.typeIs slot_list_getitem.lookup
     (wpAny_getItem_list_neg (Q:=λr s'=>r=w/\EP X pins σ Q r s') pl.isList (by omega) (by rw [List.size_toArray] <;> omega) (by omega) (by rw [hj]; simpa using ew) ⟨rfl,fin⟩) hs
theorem kx:IxR X (sW X.K):=by
 intro value slice pins s σ H x y v u Q I rx ry h hs
 obtain ⟨p,xs,i,z,rfl,rfl,hq,he,q⟩:=h
 cases rx
 obtain ⟨t,rfl⟩:=ry
 obtain ⟨its,r,pl,hz⟩:=I.tuple hq
 obtain ⟨j,h1,h2,h3,h4,h5⟩:=jR he
 obtain ⟨w,ew,rw'⟩:=r.get h2
 have hl:=r.length
 have hn:=i0
 have fin:EP X pins σ Q w s:=⟨z,H,I,rw',q⟩
 exact subscriptTail_builtinR (x:=w) pl.typeIs slot_tuple_getitem.lookup
   (getItem_tuple (j:=j) (Q:=λr s'=>r=w/\EP X pins σ Q r s') pl (by omega) (by omega) (by rw [List.size_toArray,<- hl]; exact h1) (by simpa using ew) ⟨rfl,fin⟩) hs
theorem Inv.lst {pins:List (Addr × Obj)} {σ:St} {H:Hp} {s:Shared} {p:Addr} {xs:List V} (I:Inv X pins σ H s) (h:H p=some (.lst xs)) :
   ∃ (its:List Value) (n:Nat),Vals xs its/\s.heap.get? p=some { cls:=.type "list",data:=.seq its.toArray n }/\xs.length<=sizeLine:=by
 obtain ⟨z,its,n,r,e⟩:=I.hok p _ h
 exact ⟨its,n,r,e,z⟩
theorem gN (lo hi:Option Int) (n:Nat):(sliceBounds lo hi none n).1=((HT.sIx n 0 lo:Nat):Int)/\(sliceBounds lo hi none n).2.1=((HT.sIx n n hi:Nat):Int)/\(sliceBounds lo hi none n).2.2=1:=by
 refine ⟨?_,?_,rfl⟩
 · cases lo with
   | none=>simp [sliceBounds,HT.sIx]
   | some i=>
     simp only [sliceBounds,HT.sIx,Option.getD_none,show (1:Int) > 0 by decide,if_true]
     by_cases h:i < 0
     · simp only [h,if_true] <;> omega
     · simp only [h,if_false] <;> omega
 · cases hi with
   | none=>simp [sliceBounds,HT.sIx]
   | some i=>
     simp only [sliceBounds,HT.sIx,Option.getD_none,show (1:Int) > 0 by decide,if_true]
     by_cases h:i < 0
     · simp only [h,if_true] <;> omega
     · simp only [h,if_false] <;> omega
theorem fM (its:List Value) (lo hi:Option Int):slicePick its.toArray lo hi none=((its.drop (HT.sIx its.length 0 lo)).take (HT.sIx its.length its.length hi - HT.sIx its.length 0 lo)).toArray:=by
 obtain ⟨h1,h2,h3⟩:=gN lo hi its.toArray.size
 unfold slicePick
 rw [h1,h2,h3]
 simp only [sliceRange_one,pick_run,List.size_toArray] <;> rfl
noncomputable def sV (K:PySem.W.Frag):V->Option Int->Option Int->Hp->VK->Prop:=λx lo hi H Q=>∃ a xs,x=.ref a/\SqL K H a xs/\∀ p,H p=none->Q (.ref p) (upd H p (.lst (kj xs lo hi)))
theorem mX:SlR X (sV X.K):=by
 intro pins s σ H x v vl vu lo hi sl Q I rx hs pl pu h
 obtain ⟨a,xs,rfl,hx,q⟩:=h
 cases rx
 obtain ⟨its,r,ht,hz⟩:=I.list hx
 have hlen:=r.length
 refine ⟨"list",_,slot_list_getitem.lookup,ht.isList.typeIs,?_⟩
 refine wpAny_getItem_list_slice ht.isList hs pl pu .none (by simp) ?_ (by rw [List.size_toArray] <;> omega)
 rw [fM,<- hlen]
 refine ⟨.ref s.heap.objs.size,_,I.laid (t':=s.toks) (o:=.lst (kj xs lo hi)) (λb ob q=>Heap.get?_push_of_some _ q) (Nat.le_refl _) ?_,rfl,q _ (I.hok.fresh (Nat.le_refl _))⟩
 exact ⟨Nat.le_trans (iE xs lo hi) hz,_,0,(r.drop (HT.sIx xs.length 0 lo)).take (HT.sIx xs.length xs.length hi - HT.sIx xs.length 0 lo),Heap.get?_push_size _ rfl⟩
noncomputable def d9:V->Bool
 | .non=>true
 | .bl _=>true
 | .int _=>true
 | .str _=>true
 | _=>false
noncomputable def eqV:V->V->Bool
 | .non,.non=>true
 | .bl a,.bl b=>a == b
 | .bl a,.int b=>(if a then 1 else 0) == b
 | .int a,.bl b=>a == (if b then 1 else 0)
 | .int a,.int b=>a == b
 | .str a,.str b=>a == b
 | _,_=>false
theorem pC {A:Around} {s:Shared} {y x:V} {u v:Value} (ry:RelV y u) (rx:RelV x v) (fy:d9 y=true) (fx:d9 x=true):SeqAt.EqAt A s u v (eqV y x):=by
 cases y with
 | non=>
   cases ry
   cases x with
   | non=>cases rx; exact SeqAt.EqAt.same _
   | bl b=>cases rx; exact SeqAt.EqAt.none_bool b
   | int b=>obtain ⟨t,rfl⟩:=rx; exact SeqAt.EqAt.none_int b t
   | str b=>obtain ⟨t,rfl⟩:=rx; exact SeqAt.EqAt.none_str b t
   | _=>exact absurd (show false=true from fx) Bool.false_ne_true
 | bl a=>
   cases ry
   cases x with
   | non=>cases rx; exact SeqAt.EqAt.bool_none a
   | bl b=>cases rx; exact SeqAt.EqAt.bool_bool a b
   | int b=>obtain ⟨t,rfl⟩:=rx; exact SeqAt.EqAt.bool_int a b t
   | str b=>obtain ⟨t,rfl⟩:=rx; exact SeqAt.EqAt.bool_str a b t
   | _=>exact absurd (show false=true from fx) Bool.false_ne_true
 | int a=>
   obtain ⟨t',rfl⟩:=ry
   cases x with
   | non=>cases rx; exact SeqAt.EqAt.int_none a t'
   | bl b=>cases rx; exact SeqAt.EqAt.int_bool a t' b
   | int b=>obtain ⟨t,rfl⟩:=rx; exact SeqAt.EqAt.int_int a t' b t
   | str b=>obtain ⟨t,rfl⟩:=rx; exact SeqAt.EqAt.int_str a t' b t
   | _=>exact absurd (show false=true from fx) Bool.false_ne_true
 | str a=>
   obtain ⟨t',rfl⟩:=ry
   cases x with
   | non=>cases rx; exact SeqAt.EqAt.str_none a t'
   | bl b=>cases rx; exact SeqAt.EqAt.str_bool a t' b
   | int b=>obtain ⟨t,rfl⟩:=rx; exact SeqAt.EqAt.str_int a t' b t
   | str b=>obtain ⟨t,rfl⟩:=rx; exact SeqAt.EqAt.str_str a t' b t
   | _=>exact absurd (show false=true from fx) Bool.false_ne_true
 | _=>exact absurd (show false=true from fy) Bool.false_ne_true
noncomputable def eqU (x:V) (u:Value):Bool:=match u with
 | .none=>eqV .non x
 | .bool b=>eqV (.bl b) x
 | .int i _=>eqV (.int i) x
 | .str z _=>eqV (.str z) x
 | _=>false
theorem lR {x y:V} {u:Value} (r:RelV y u) (f:d9 y=true):eqU x u=eqV y x:=by
 cases y with
 | non=>cases r; rfl
 | bl b=>cases r; rfl
 | int i=>obtain ⟨t,rfl⟩:=r; rfl
 | str z=>obtain ⟨t,rfl⟩:=r; rfl
 | _=>exact absurd (show false=true from f) Bool.false_ne_true
theorem gz {x:V}:∀ {xs:List V} {us:List Value},Vals xs us->xs.all d9=true->us.any (eqU x)=xs.any λy=>eqV y x
 | _,_,.nil,_=>rfl
 | y :: xs,u :: us,.cons r t,f=>by
   rw [List.all_cons,Bool.and_eq_true] at f
   rw [List.any_cons,List.any_cons,lR r f.1,gz t f.2]
theorem e7 {A:Around} {s:Shared} {x:V} {v:Value} (rx:RelV x v) (fx:d9 x=true):∀ {xs:List V} {us:List Value},Vals xs us->xs.all d9=true->∀ u ∈ us,SeqAt.EqAt A s u v (eqU x u)
 | _,_,.nil,_=>λu hu=>by cases hu
 | y :: xs,u :: us,.cons r t,f=>λu' hu=>by
   rw [List.all_cons,Bool.and_eq_true] at f
   rcases List.mem_cons.mp hu with rfl | hu
   · rw [lR r f.1]; exact pC r rx f.1 fx
   · exact e7 rx fx t f.2 u' hu
noncomputable def inV (x:V) (xs:List V):Bool:=xs.any λy=>eqV y x
noncomputable def rIn (K:PySem.W.Frag) (neg:Bool):R2:=λx y H Q=>∃ p xs,y=.ref p/\(SqL K H p xs\/SqT K H p xs)/\d9 x=true/\xs.all d9=true/\Q (.bl (if neg then !inV x xs else inV x xs)) H
theorem gd:OpR X (compareOp .In) (rIn X.K false):=by
 intro pins s σ H x y v u Q I rx ry h
 obtain ⟨p,xs,rfl,hq,fx,fs,q⟩:=h
 cases ry
 rcases hq with hq | hq
 · obtain ⟨its,r,pl,hz⟩:=I.list hq
   refine SeqAt.in_listAt (eqU x) pl.isList (λw hw=>e7 rx fx r fs w (by simpa using hw)) ⟨.bl _,H,I,rfl,?_⟩
   rw [show its.toArray.any (eqU x)=its.any (eqU x) by simp,gz r fs]
   exact q
 · obtain ⟨its,r,pl,hz⟩:=I.tuple hq
   refine SeqAt.in_tupleAt (eqU x) pl (λw hw=>e7 rx fx r fs w (by simpa using hw)) ⟨.bl _,H,I,rfl,?_⟩
   rw [show its.toArray.any (eqU x)=its.any (eqU x) by simp,gz r fs]
   exact q
theorem dD:cN X (.builtin "len") (λxs H Q=>∃ p ys,xs=[.ref p]/\(SqL X.K H p ys\/SqT X.K H p ys)/\Q (.int ys.length) H):=by
 intro pins s σ H xs us Q I r h
 obtain ⟨p,ys,rfl,hq,q⟩:=h
 obtain ⟨u,rfl,rx⟩:=vals1 r
 cases rx
 have hn:=i0
 rcases hq with hq | hq
 · obtain ⟨its,r',pl,hz⟩:=I.list hq
   have hlen:=r'.length
   exact Calls.call_len_list pl.isList (by simp only [List.size_toArray] <;> omega) ⟨.int ys.length,H,I.tok _,⟨s.toks + 1,by rw [List.size_toArray,hlen]⟩,q⟩
 · obtain ⟨its,r',pl,hz⟩:=I.tuple hq
   have hlen:=r'.length
   exact len_tuple pl (by simp only [List.size_toArray] <;> omega) ⟨.int ys.length,H,I.tok _,⟨s.toks + 1,by rw [List.size_toArray,hlen]⟩,q⟩
theorem gB:cN X (.type "list") (λxs H Q=>∃ p ys,xs=[.ref p]/\(SqL X.K H p ys\/SqT X.K H p ys)/\∀ l,H l=none->Q (.ref l) (upd H l (.lst ys))):=by
 intro pins s σ H xs us Q I r h
 obtain ⟨p,ys,rfl,hq,q⟩:=h
 obtain ⟨u,rfl,rx⟩:=vals1 r
 cases rx
 have fin:∀ (its:List Value),Vals ys its->ys.length<=sizeLine->∀ (h':Heap) (c':Nat),(∀ b o',s.heap.get? b=some o'->h'.get? b=some o') ->
     h'.get? s.heap.objs.size=some { cls:=.type "list",dict:=none,data:=.seq its.toArray c',slots:=#[] }->EP X pins σ Q (.ref s.heap.objs.size) { s with heap:=h' }:=λits r' hz h' c' kp e=>
   ⟨.ref s.heap.objs.size,_,I.laid (t':=s.toks) kp (Nat.le_refl _) (show bp X.prog X.w _ h' _ (.lst ys) from ⟨hz,its,c',r',e⟩),rfl,q _ (I.hok.fresh (Nat.le_refl _))⟩
 rcases hq with hq | hq
 · obtain ⟨its,r',pl,hz⟩:=I.list hq
   have hlen:=r'.length
   obtain ⟨o,ho,hc,n,hd⟩:=pl.isList
   exact call_list_seq p (.inl rfl) ho hc hd (λh' c' kp e=>fin its r' hz h' c' kp e) (by simp only [List.size_toArray] <;> omega)
 · obtain ⟨its,r',pl,hz⟩:=I.tuple hq
   have hlen:=r'.length
   obtain ⟨o,ho,hc,n,hd⟩:=pl
   exact call_list_seq p (.inr rfl) ho hc hd (λh' c' kp e=>fin its r' hz h' c' kp e) (by simp only [List.size_toArray] <;> omega)
theorem fQ:cN X (.type "tuple") (λxs H Q=>∃ p ys,xs=[.ref p]/\((SqL X.K H p ys/\∀ l,H l=none->Q (.ref l) (upd H l (.tup ys)))\/(SqT X.K H p ys/\Q (.ref p) H))):=by
 intro pins s σ H xs us Q I r h
 obtain ⟨p,ys,rfl,h⟩:=h
 obtain ⟨u,rfl,rx⟩:=vals1 r
 cases rx
 rcases h with ⟨hq,q⟩ | ⟨hq,q⟩
 · obtain ⟨its,r',pl,hz⟩:=I.list hq
   have hlen:=r'.length
   refine call_tuple_list pl.isList (λh' kp=>?_) (by simp only [List.size_toArray] <;> omega)
   have I1:Inv X pins σ H { s with heap:=h' }:=I.kept (t':=s.toks) kp
   have I2:Inv X pins σ (upd H h'.objs.size (.tup ys)) { s with heap:=h'.push { cls:=.type "tuple",data:=.seq its.toArray } }:=
     I1.laid (t':=s.toks) (λb o e=>Heap.get?_push_of_some _ e) (Nat.le_refl _) (show bp X.prog X.w _ _ _ (.tup ys) from ⟨hz,its,r',IsTup.new _ _⟩)
   exact ⟨.ref h'.objs.size,_,I2,rfl,q _ (I1.hok.fresh (Nat.le_refl _))⟩
 · obtain ⟨its,r',pl,hz⟩:=I.tuple hq
   exact call_tuple_same pl ⟨.ref p,H,I,rfl,q⟩
noncomputable def tyV (K:PySem.W.Frag) (T:String) (x:V) (H:Hp):Prop:=match x with
 | .str _=>T = "str"
 | .int _=>T = "int"
 | .ref p=>(T = "list" /\ ∃ xs,SqL K H p xs)\/(T = "tuple" /\ ∃ o,K.lookup p=some o/\o.cls=.type "tuple" /\ o.dict=none) \/
     (T = "dict" /\ ((∃ kvs,H p=some (.dK kvs))\/∃ kvs,H p=some (.dT kvs)))\/(T = "set" /\ ∃ S n,H p=some (.set S n))
 | _=>False
theorem qA {pins:List (Addr × Obj)} {σ:St} {H:Hp} {s:Shared} {T:String} {x:V} {v:Value} (I:Inv X pins σ H s) (r:RelV x v) (ty:tyV X.K T x H) :
   s.TypeIs v T/\∀ a,v=.ref a->∃ ob,s.heap.get? a=some ob/\ob.dict=none:=by
 cases x with
 | str z=>
   obtain ⟨t,rfl⟩:=r
   cases (show T = "str" from ty)
   exact ⟨typeIs_str s z t,λ_ e=>nomatch e⟩
 | int i=>
   obtain ⟨t,rfl⟩:=r
   cases (show T = "int" from ty)
   exact ⟨typeIs_int s i t,λ_ e=>nomatch e⟩
 | ref p=>
   cases r
   rcases ty with ⟨rfl,xs,hq⟩ | ⟨rfl,o,hk,hc,hd⟩ | ⟨rfl,hk⟩ | ⟨rfl,S,n,hk⟩
   · obtain ⟨its,_,pl,_⟩:=I.list hq
     refine ⟨pl.isList.typeIs,λa e=>?_⟩
     cases e
     obtain ⟨o,n,e,c,hd,_⟩:=pl
     exact ⟨o,e,hd⟩
   · refine ⟨⟨o,I.kIn p o hk,hc⟩,λa e=>?_⟩
     cases e
     exact ⟨o,I.kIn _ o hk,hd⟩
   · have z:∃ o,s.heap.get? p=some o/\o.ExactDict:=by
       rcases hk with ⟨kvs,hk⟩ | ⟨kvs,hk⟩
       · obtain ⟨_,_,_,_,o,_,_,e,ex,_⟩:=I.hok p _ hk
         exact ⟨o,e,ex⟩
       · obtain ⟨_,_,_,_,o,_,_,e,ex,_⟩:=I.hok p _ hk
         exact ⟨o,e,ex⟩
     obtain ⟨o,e,ex⟩:=z
     refine ⟨⟨o,e,ex.1⟩,λa e2=>?_⟩
     cases e2
     exact ⟨o,e,ex.2.1⟩
   · obtain ⟨o,_,_,_,e,ex,_⟩:=I.hok p _ hk
     refine ⟨⟨o,e,ex.1⟩,λa e2=>?_⟩
     cases e2
     exact ⟨o,e,ex.2.1⟩
 | _=>exact False.elim ty
noncomputable def tBM (K:PySem.W.Frag) (T:String) (r:V->List V->Hp->VK->Prop) (to:TE) (t:TA):TE:=λσ H Q=>to σ H λx H1=>tyV K T x H1/\t σ H1 λxs H2=>r x xs H2 Q
variable {o e:Expr} {es:List Expr} {to:TE} {t:TA} {name:Str} {apos cpos:Pos} {T id:String} {r:V->List V->Hp->VK->Prop}
theorem nR (pa:PlainAttrs T) (slot:Slot T name id) (hty:typeOf (.builtin id)=pure (.type "method_descriptor")) (hm:MtR X id r) (ho:PE X o to) (ha:PA X (e :: es) t)
   (hbase:attributeBase o name X.env (eval o X.env)=eval o X.env:=by rfl)
   (hfew:((backTo cpos (starEach (e :: es) X.env)).all (λx=>!x.1) && (backToKw cpos (keywordEach [] X.env)).all (λx=>x.1.isSome)
     && decide ((e :: es).length + ([]:List Keyword).length + (if ([]:List Keyword).isEmpty then 0 else 1) < 30))=true:=by rfl)
   (hline:(apos.endLine == cpos.line)=true:=by rfl) (hs:starEach (e :: es) X.env=(false,eval e X.env) :: starEach es X.env:=by rfl) (hplain:(backTo cpos (starEach es X.env)).any (·.1)=false:=by rfl) :
   PE X (.Call (.Attribute o name apos) (e :: es) [] cpos) (tBM X.K T r to t):=by
 intro pins s σ H Q I h
 refine wpAny_Call_method_late hbase hfew hline rfl (thn (ho pins s σ H _ I h) λv s1 ⟨x,H1,I1,r1,ty,q1⟩=>?_)
 obtain ⟨h1,h2⟩:=qA I1 r1 ty
 refine ⟨T,id,pa,slot,hty,h1,h2,?_⟩
 have hA:=ha cpos pins s1 σ H1 _ I1 q1
 rw [hs] at hA ⊢
 refine Calls.callWith_builtin (by show (false || (backTo cpos (starEach es X.env)).any (·.1))=false; rw [hplain] <;> rfl) (Calls.evalArgs_plain ?_)
 exact thn hA λus s2 ⟨vs,H2,I2,r2,q2⟩=>hm pins s2 σ H2 x vs v us Q I2 r1 r2 q2
end
noncomputable def MtM (X:Cx) (id:String) (r:V->List V->Hp->VK->Prop):Prop:=
 ∀ (pins:List (Addr × Obj)) (s:Shared) (σ:St) (H:Hp) (x:V) (xs:List V) (v:Value) (us:List Value) (Q:VK),Inv X pins σ H s->RelV x v->Vals xs us->r x xs H Q ->
   wpAny (model X.prog X.w) X.A (call (.builtin id) (v :: us)) (EP X pins σ Q) X.xe s
theorem Vals.one:∀ {x:V} {us:List Value},Vals [x] us->∃ u,us=[u]/\RelV x u
 | _,_,.cons r .nil=>⟨_,rfl,r⟩
theorem Vals.two:∀ {x y:V} {us:List Value},Vals [x,y] us->∃ u v,us=[u,v]/\RelV x u/\RelV y v
 | _,_,_,.cons r (.cons q .nil)=>⟨_,_,rfl,r,q⟩
theorem Vals.zero:∀ {us:List Value},Vals [] us->us=[]
 | _,.nil=>rfl
theorem Vals.rep {xs:List V} {us:List Value} (h:Vals xs us):∀ k:Nat,Vals (List.replicate k xs).flatten (List.replicate k us).flatten
 | 0=>.nil
 | k + 1=>by
   rw [List.replicate_succ,List.replicate_succ,List.flatten_cons,List.flatten_cons]
   exact Vals.append h (Vals.rep h k)
theorem foldl_rep (its:List Value):∀ (k:Nat) (acc:List Value),
   List.foldl (λx1 x2=>x1++x2) acc.toArray (List.replicate k its.toArray)=(acc++(List.replicate k its).flatten).toArray
 | 0,acc=>by simp
 | k + 1,acc=>by
   have e:acc.toArray++its.toArray=(acc++its).toArray:=by simp
   have e2:(acc++its)++(List.replicate k its).flatten=acc++(List.replicate (k + 1) its).flatten:=by
     rw [List.replicate_succ,List.flatten_cons,List.append_assoc]
   rw [<- e2,<- foldl_rep its k (acc++its),<- e,List.replicate_succ,List.foldl_cons]
section
variable {X:Cx} {pins:List (Addr × Obj)} {σ:St} {H:Hp} {s:Shared} {l b:Addr} {xs ys zs:List V}
theorem Inv.rP {its its':List Value} {n:Nat} {f:Array Value->Array Value} {t':Nat} (I:Inv X pins σ H s) (hH:H l=some (.lst xs))
   (e:s.heap.get? l=some { cls:=.type "list",data:=.seq its.toArray n }) (hf:f its.toArray=its'.toArray) (hv:Vals ys its') (hz:ys.length<=sizeLine) :
   Inv X pins σ (upd H l (.lst ys)) { s with heap:=s.heap.update l (Obj.mapSeq f),toks:=t' }:=by
 have q:=PySem.IsL.update e f
 rw [hf] at q
 refine I.write (x:=l) (e:=l) (by rw [hH]; exact trivial) (.inl rfl) (λb' u hb hu=>(Heap.get?_update_other s.heap (Obj.mapSeq f) (Ne.symm hb)).trans hu) ⟨_,q⟩ ?_
 exact ⟨hz,its',_,hv,q⟩
theorem Inv.rL {its:List Value} {t':Nat} (I:Inv X pins σ H s) (hv:Vals ys its) (hz:ys.length<=sizeLine) :
   Inv X pins σ (upd H s.heap.objs.size (.lst ys)) { s with heap:=s.heap.push { cls:=.type "list",data:=.seq its.toArray },toks:=t' }:=
 I.laid (λ_ _ q=>Heap.get?_push_of_some _ q) (Nat.le_refl _) ⟨hz,its,0,hv,Heap.get?_push_size _ rfl⟩
theorem Inv.fresh (I:Inv X pins σ H s):H s.heap.objs.size=none:=I.hok.fresh (Nat.le_refl _)
theorem Inv.rG (I:Inv X pins σ H s) (hH:H l=some (.lst xs)):xs.length<=sizeLine/\∃ (its:List Value) (n:Nat),Vals xs its/\xs.length=its.length/\s.heap.get? l=some { cls:=.type "list",data:=.seq its.toArray n }:=by
 obtain ⟨z,its,n,r,e⟩:=I.hok l _ hH
 exact ⟨z,its,n,r,r.length,e⟩
theorem kZ {n:Nat} (h:n<=sizeLine):Builtin.List.listTooLong n=false:=by
 unfold Builtin.List.listTooLong
 exact decide_eq_false (by omega)
end
section
variable {X:Cx}
noncomputable def mE:V->List V->Hp->VK->Prop:=λx vs H Q=>∃ l xs y,x=.ref l/\vs=[y]/\H l=some (.lst xs)/\xs.length < sizeLine/\Q .non (upd H l (.lst (xs++[y])))
theorem dJ:MtM X "list.append" mE:=by
 intro pins s σ H x vs v us Q I rx rv h
 obtain ⟨l,xs,y,rfl,rfl,hH,hz,q⟩:=h
 cases rx
 obtain ⟨u,rfl,ru⟩:=rv.one
 obtain ⟨z,its,n,r,hl,e⟩:=I.rG hH
 refine call_meets F.slot_list_append ⟨_,e,rfl⟩ F.entry_list_append (F.args_list_append_2 _ _) (PySem.list_append l its.toArray n u (by rw [List.size_toArray]; omega)) ⟨e,?_⟩
 refine ⟨.non,_,I.rP (its':=its++[u]) hH e (by simp) (r.append (.cons ru .nil)) ?_,rfl,q⟩
 rw [List.length_append,List.length_singleton]
 omega
theorem len_rep {α:Type} (xs:List α) (k:Nat):(List.replicate k xs).flatten.length=k * xs.length:=by
 induction k with
 | zero=>simp
 | succ k ih=>rw [List.replicate_succ,List.flatten_cons,List.length_append,ih,Nat.succ_mul,Nat.add_comm]
end
section
variable {prog:Program} {w:World} {A:Around} {E:Value->Shared->Prop} {s:Shared}
end
section
variable {X:Cx}
end
end L2
namespace Att
open PySem PySem.W PySem.Calls PyProof.Rows
theorem eh {P:Params} {h:Heap}:∀ (ns:List Int) (vs:List Value),WellAll P h vs (ns.map WData.int)->IntsAre vs ns:=by
 intro ns
 induction ns with
 | nil=>
   intro vs w
   rw [List.map_nil] at w
   cases w
   exact .nil
 | cons n ns ih=>
   intro vs w
   rw [List.map_cons] at w
   cases w with
   | cons a b=>
     cases a
     exact .cons _ _ (ih _ b)
theorem kb {l:OpenLaw} {n:Nat} (hn:l.most=some n) {P:Params} {h:Heap} {args:List WData} {vals:List Value}
   (hpre:l.row.toRowW.claim.pre args=true) (hwl:WellAll P h vals args) :
   ∃ a vs ns,vals=[Value.ref a]/\args=[WData.list (ns.map WData.int)]/\h.get? a=some { cls:=.type "list",data:=.seq vs.toArray }/\IntsAre vs ns/\ns.length<=n:=by
 have hsh:WShape.hasAll [] args [.list .int]=true:=(pre_splitW hpre).1
 have hc:l.pre.holds [] { args:=args }=true:=(pre_splitW hpre).2
 obtain ⟨d,r,rfl,h1,h2⟩:=hasAllW_cons hsh
 obtain rfl:=hasAllW_nil h2
 obtain ⟨xs,rfl,h3⟩:=hasW_list h1
 obtain ⟨ns,rfl⟩:=items_int h3
 have hlen:ns.length<=n:=by
   unfold OpenLaw.pre at hc
   have h4:(WTm.not (.lt (.lit (.int (n:Int))) (.len (.arg 0)))).holds [] { args:=[.list (ns.map .int)] }=true:=by
     have h4:=(holds_andW hc).1
     rw [hn] at h4
     exact h4
   have h5:=condW_of h4 (w_not (w_lt w_lit (w_len_list (w_arg rfl))))
   rw [List.length_map] at h5
   refine Nat.le_of_not_lt λq=>?_
   have q':(n:Int) < ((ns.length:Nat):Int):=by omega
   first
     | (rw [decide_eq_true q'] at h5; exact absurd h5 (by decide))
     | (simp at h5; omega)
 cases hwl with
 | cons w1 w2=>
   cases w2
   cases w1 with
   | list ho hall=>exact ⟨_,_,ns,rfl,rfl,ho,eh ns _ hall,hlen⟩
theorem km (l:OpenLaw) (args:List WData):l.row.toRowW.claim.post args (.bool true) args=true:=
 postW_of (r:=l.row.toRowW) (X:=(true == true))
   (show WShape.has [] (.bool true) .bool=true by first | rfl | decide | simp [WShape.has,WShape.arms,WShape.armsAll])
   (show (WTm.eq .res (.lit (.bool true))).value [] { args:=args,res:=some (.bool true),after:=args }=some (.bool (true == true)) from w_eq_bool (w_res rfl) w_lit) rfl
theorem iq {l:OpenLaw} {n:Nat} {q:Program} {loose:List Str} {XP:(Str->Option Value)->Heap->Prop} {YP:World->Heap->Prop} {d:DefRec}
   (hn:l.most=some n) (hdf:d.params.defaults=[])
   (call:∀ (w:World) (s₀ s₁:Shared) (mg mb:Str->Option Value) (fa:Addr) (o:Obj) (pm cd doc:Value) (a:Addr) (vs:List Value) (ns:List Int),
     Ground q loose [] XP w s₀ mg mb s₁.heap->YP w s₁.heap ->
     s₁.heap.get? fa=some o->o.data=.func (docDef d.name d.params d.body d.scope pm cd doc)->s₁.heap.CodeRec cd d.name->mg d.name=some (.ref fa) ->
     s₁.heap.get? a=some { cls:=.type "list",data:=.seq vs.toArray }->IntsAre vs ns->ns.length<=n->s₁.gens=#[] ->
     codeAny (model l.prog w) callerA (.call (.ref fa) ⟨[.ref a],[]⟩) (λr s'=>r=.ok (.ret (.bool true))/\OldK s₁.heap s'.heap/\s'.os=s₁.os/\AllBare s'.gens) s₁) :
   WalkO q loose XP YP l.row.toRowW d [] (λf vs=>PySem.call f vs):=by
 intro w s₀ s₁ mg mb G Y fa o pm cd doc dV kV ho hd hcd hD hmg hg args vals as hpre hlay hrd hwl hlo
 obtain rfl:dV=.none:=Dflts.none hD hdf
 obtain rfl:kV=.none:=Dflts.noKw hD
 obtain ⟨a,vs,ns,rfl,rfl,hobj,hints,hlen⟩:=kb hn hpre hwl
 refine enter_call (codeAny_mono (call w s₀ s₁ mg mb fa o pm cd doc a vs ns G Y ho (fd_plain hd) hcd hmg hobj hints hlen hg) λr s' hq=>?_)
 obtain ⟨rfl,h2,h3,h4⟩:=hq
 exact ⟨.inl ⟨.bool true,.bool true,[],rfl,λ_=>rfl,.bool true,km l _,λ_=>⟨List.Pairwise.nil,λ_ hm=>(nomatch hm)⟩⟩,h2,h3,h4⟩
section
variable {prog:Program} {w:World} {A:Around} {E:Value->Shared->Prop} {s:Shared} {K:Frag}
end
end Att
namespace L2
open PySem PySem.Spec PyProof.Rows
theorem gg:∀ {vs:List Value} {ns:List Int},IntsAre vs ns->Vals (ns.map V.int) vs
 | _,_,.nil=>.nil
 | _,_,.cons n t h=>.cons ⟨t,rfl⟩ (gg h)
noncomputable def pQ (H:Hp):Prop:=∀ b,H b=none\/∃ o xs,H b=some (.frz o (.lst xs))
theorem lH {P:Program} {w:World} {K:PySem.W.Frag} {mg mb:Str->Option Value} {CX:CXT} {k:Nat} {fa a:Addr} {fd:FuncData} {x:Str} {sp:Sp} {s₁:Shared} {vs:List Value} {ns:List Int}
   (KX:K.In s₁.heap) (hns:s₁.heap.Ns mainGlobals mg) (hb:s₁.heap.Ns builtinsNs mb) (hbb:∀ x:Str,x ≠ "__name__" -> mb x=bootBuiltins x) (hlim:s₁.heap.NoLimit) (hg:s₁.gens=#[])
   (ha:s₁.heap.get? a=some { cls:=.type "list",data:=.seq vs.toArray }) (hi:IntsAre vs ns) (hl:ns.length<=sizeLine) (hr:b5 k callerA)
   (F:∀ base:Heap,K.In base->base.Ns mainGlobals mg->aO P w K mg base CX k fa fd [x] sp) (hbind:∀ (s:Shared) (u:Value),BindsTo s fd ⟨[u],[]⟩ [(x,u)])
   (hsp:∀ H:Hp,pQ H->SqL K H a (ns.map V.int)->sp [.ref a] H (λv _=>v=.bl true) λ_ _ _=>False)
   (hCX:∀ H e s',CX [] H s₁ (λ_ _ _=>False) e s'->False) :
   codeAny (model P w) callerA (.call (.ref fa) ⟨[.ref a],[]⟩) (λr s'=>r=.ok (.ret (.bool true))/\OldK s₁.heap s'.heap/\s'.os=s₁.os/\AllBare s'.gens) s₁:=by
 have rv:=gg hi
 have lenV:=hi.length
 have core:∀ H:Hp,pQ H->SqL K H a (ns.map V.int)->HOk P w H s₁.heap->(∀ b,H b ≠ none->b=a)->(H a ≠ none->K.lookup a=none) ->
     codeAny (model P w) callerA (.call (.ref fa) ⟨[.ref a],[]⟩) (λr s'=>r=.ok (.ret (.bool true))/\OldK s₁.heap s'.heap/\s'.os=s₁.os/\AllBare s'.gens) s₁:=by
   intro H hO hS hok hA hK
   have base_of:∀ {b:Addr} {o:Obj},s₁.heap.get? b=some o->H b=none->(gR s₁.heap H).get? b=some o:=λe n=>k9 e n
   have noA:∀ {b:Addr} {o:Obj} {es:Array DictEntry} {ep:Nat},s₁.heap.get? b=some o->o.data=.dict es ep->H b=none:=λ{b o es ep} e d=>by
     cases q:H b with
     | none=>rfl
     | some u=>
       have e':b=a:=hA b (by rw [q]; simp)
       subst e'
       rw [ha] at e; cases e
       have d':Data.seq vs.toArray _=Data.dict es ep:=d
       cases d'
   have nsK:∀ {b:Addr} {m:Str->Option Value},s₁.heap.Ns b m->(gR s₁.heap H).Ns b m:=λ{b m} ⟨o,es,ep,e,d,r⟩=>⟨o,es,ep,base_of e (noA e d),d,r⟩
   have hKb:K.In (gR s₁.heap H):=λb o e=>base_of (KX b o e) (by
     cases q:H b with
     | none=>rfl
     | some u=>
       have e':b=a:=hA b (by rw [q]; simp)
       subst e'
       rw [hK (by rw [q]; simp)] at e; cases e)
   have hM:Mod K mg (gR s₁.heap H):=⟨hKb,nsK hns,⟨mb,nsK hb,hbb⟩,let ⟨mc,h1,h2⟩:=hlim; ⟨mc,nsK h1,h2⟩⟩
   have e0:mi P w K mg (gR s₁.heap H) callerA [] s₁ H:=⟨rfl,hM,λb o e=>mW e,Nat.le_of_eq (kn _ _),trivial,λb hb=>absurd (show b ∈ ([]:List Addr) from hb) (by simp),hok,.of_eq hg⟩
   refine codeAny_mono ((F _ hKb (nsK hns)).run callerA [] s₁ H ⟨[.ref a],[]⟩ [.ref a] [.ref a] _ _ hr e0 (hbind s₁ (.ref a)) (.cons rfl .nil) (hsp H hO hS)) λr s' h=>?_
   cases r with
   | error e=>exact (hCX H e s' h).elim
   | ok fl=>
     cases fl with
     | next=>exact False.elim h
     | brk=>exact False.elim h
     | cont=>exact False.elim h
     | ret u=>
       obtain ⟨v,H',os,bare,un,hok',r',q⟩:=h
       have q':v=.bl true:=q
       subst q'
       obtain rfl:u=Value.bool true:=r'
       refine ⟨rfl,OldK.of_keep λb o e=>?_,os,bare⟩
       cases q:H b with
       | none=>exact un.keep b o e q (by intro z; exact absurd (show b ∈ ([]:List Addr) from z) (by simp)) (by simp)
       | some u=>
         rcases hO b with z | ⟨ob,xs,z⟩
         · rw [q] at z; cases z
         · have z2:=un.frzs b ob _ z
           obtain ⟨e1,_⟩:=hok b _ z
           obtain ⟨e2,_⟩:=hok' b _ z2
           rw [e] at e1; cases e1
           exact e2
 cases hk:K.lookup a with
 | some o=>
   have e:=KX a o hk
   rw [ha] at e
   cases e
   refine core (λ_=>none) (λ_=>.inl rfl) (.inr ⟨_,vs.toArray,_,hk,rfl,rfl,rfl,by rw [List.size_toArray,lenV]; exact hl,by simpa using rv⟩) (λb u z=>by have z':(none:Option HO)=some u:=z; cases z') (λb z=>absurd rfl z) λz=>absurd rfl z
 | none=>
   refine core (λb=>if b=a then some (.frz { cls:=.type "list",data:=.seq vs.toArray } (.lst (ns.map V.int))) else none) (λb=>?_) (.inl (.inr ⟨{ cls:=.type "list",data:=.seq vs.toArray },if_pos rfl⟩)) (λb u z=>?_) (λb z=>?_) λ_=>hk
   · by_cases hb:b=a
     · exact .inr ⟨_,_,if_pos hb⟩
     · exact .inl (if_neg hb)
   · by_cases hb:b=a
     · have z':=(if_pos hb).symm.trans z
       cases z'
       subst hb
       exact ⟨ha,by rw [List.length_map]; exact hl,vs,_,rv,ha⟩
     · have z':=(if_neg hb).symm.trans z
       cases z'
   · by_cases hb:b=a
     · exact hb
     · exact absurd (if_neg hb) z
theorem mV {l:PySem.W.OpenLaw} {n k:Nat} {q:Program} {loose:List Str} {XP:(Str->Option Value)->Heap->Prop} {YP:World->Heap->Prop} {d:DefRec} {K:Params->PySem.W.Frag} {CX:World->CXT} {sp:World->Sp} {x:Str}
   (hn:l.most=some n) (hn2:n<=sizeLine) (hdf:d.params.defaults=[]) (hr:b5 k callerA)
   (hY:∀ (w:World) (h:Heap),YP w h->(K w.params).In h)
   (F:∀ (w:World) (mg:Str->Option Value) (fa:Addr) (h:Heap),(K w.params).In h->h.Ns mainGlobals mg->mg d.name=some (.ref fa) ->
     ∃ fd:FuncData,(∀ (s:Shared) (u:Value),BindsTo s fd ⟨[u],[]⟩ [(x,u)]) /\
       ∀ base:Heap,(K w.params).In base->base.Ns mainGlobals mg->aO l.prog w (K w.params) mg base (CX w) k fa fd [x] (sp w))
   (hsp:∀ (w:World) (H:Hp) (a:Addr) (ns:List Int),ns.length<=n->pQ H->SqL (K w.params) H a (ns.map V.int)->sp w [.ref a] H (λv _=>v=.bl true) λ_ _ _=>False)
   (hCX:∀ (w:World) (H:Hp) (s:Shared) (e:Value) (s':Shared),CX w [] H s (λ_ _ _=>False) e s'->False) :
   PySem.W.WalkO q loose XP YP l.row.toRowW d [] (λf vs=>PySem.call f vs):=by
 refine Att.iq hn hdf λw s₀ s₁ mg mb fa o pm cd doc a vs ns G Y ho hd hcd hmg hobj hints hlen hg=>?_
 have KX:=hY w _ Y
 obtain ⟨fd,hb,hF⟩:=F w mg fa _ KX G.T.g hmg
 exact lH KX G.T.g G.T.b G.T.builtins G.T.nolimit hg hobj hints (Nat.le_trans hlen hn2) hr hF hb (λH hO hS=>hsp w H a ns hlen hO hS) λH e s'=>hCX w H s₁ e s'
noncomputable def bI (s:Stmt):Arguments:=match s with
 | .FunctionDef _ a _ _ _ _ _ _ _ _=>a
 | _=>{ posonlyargs:=[],args:=[],vararg:=none,kwonlyargs:=[],kw_defaults:=[],kwarg:=none,defaults:=[] }
noncomputable def a4 (s:Stmt):List Stmt:=match s with
 | .FunctionDef _ _ b _ _ _ _ _ _ _=>b
 | _=>[]
noncomputable def ai (s:Stmt):Scope:=match s with
 | .FunctionDef _ _ _ _ _ _ sc _ _ _=>sc
 | _=>{ kind:=.function,names:=[],isGenerator:=false,isCoroutine:=false }
noncomputable abbrev CX0:CXT:=λ_ _ _ _ _ _=>False
noncomputable abbrev E0:XK:=λ_ _ _=>False
theorem qU {X:Cx}:Passes CX0 X E0:=λ_ _ _ _ _ _ _ h=>h.elim
structure Fun (K:PySem.W.Frag) (x qual:Str) (st:Stmt) (f:Addr) (fd:FuncData):Prop where
 ex:∃ (oc:Value) (od:Option Addr) (dV kV doc pm:Value) (an:Option Addr) (cdv ct:Value) (osl:Array (Option Value)),
   fd=PySem.W.fnOf x qual (bI st) (a4 st) (ai st) dV kV doc pm an cdv ct/\K.lookup f=some ⟨oc,od,.func fd,osl⟩/\PySem.W.codeIn K cdv qual=true
 kp:PySem.W.keepIn K (.ref f)=true
section
variable {P:Program} {w:World} {K:PySem.W.Frag} {mg:Str->Option Value} {base:Heap}
theorem Fun.ok {x qual:Str} {st:Stmt} {f:Addr} {fd:FuncData} {N ps:List Str} {k:Nat} {sp:Sp} (F:Fun K x qual st f fd) (S:ax N ps (ai st)) (len:∀ vs H Q E,sp vs H Q E->vs.length=ps.length)
   (hbody:∀ (cdv:Value) (A:Around) (outer:List Env) (s:Shared) (H:Hp) (vs:List V) (Q:VK) (E:XK),b5 k (A.deeper (envOfC qual (ai st) s.heap.objs.size f cdv))->sp vs H Q E ->
     ∃ t,PSs (fE CX0 P w K mg base N qual (ai st) f cdv A outer s H E).nox (a4 st) t/\t { nx:=λ_ H'=>Q .non H',rt:=Q } (start N vs) H):aO P w K mg base CX0 (k + 1) f fd ps sp:=by
 obtain ⟨oc,od,dV,kV,doc,pm,an,cdv,ct,osl,rfl,lk,hcd⟩:=F.ex
 refine nW lk hcd S len λA outer s H vs Q E hr hsp=>?_
 obtain ⟨t,h,q⟩:=hbody cdv A outer s H vs Q E hr hsp
 exact ⟨t,h.nox,q⟩
theorem Fun.binds {x qual:Str} {st:Stmt} {f:Addr} {fd:FuncData} {ps:List Str} (_:Fun K x qual st f fd) (h:∀ us:List Value,us.length=ps.length->bindArgs fd ⟨us,[]⟩=pure (ps.zip us)):Binds K fd ps []:=.all h
theorem lq {x qual:Str} {st:Stmt} {f:Addr} {oc:Value} {od an:Option Addr} {osl:Array (Option Value)} {dV kV doc pm cdv ct:Value} (l:K.lookup f=some ⟨oc,od,.func (PySem.W.fnOf x qual (bI st) (a4 st) (ai st) dV kV doc pm an cdv ct),osl⟩)
   (c:PySem.W.codeIn K cdv qual=true) (k:PySem.W.keepIn K (.ref f)=true):Fun K x qual st f (PySem.W.fnOf x qual (bI st) (a4 st) (ai st) dV kV doc pm an cdv ct):=⟨⟨oc,od,dV,kV,doc,pm,an,cdv,ct,osl,rfl,l,c⟩,k⟩
end
theorem dR {n:Nat} (h:n<=1000):n < sizeLine:=Nat.lt_of_le_of_lt h (by decide)
section
variable {X:Cx}
theorem pv (i:Nat) {x:Str} {pos:Pos} (hN:X.N[i]?=some x:=by rfl) (hv:Vis X.env.scope x:=by first | exact Or.inl rfl | exact Or.inr (Or.inl rfl) | exact Or.inr (Or.inr rfl)) (hd:(x == ("__debug__" : Str))=false:=by decide)
   (hcd:(x == ("__classdict__" : Str))=false:=by decide):PE X (.Name x pos) (rX i):=b9 hN hv hd hcd
end
theorem lj {A B:Prop} (h:B):if false=true then A else B:=by
 rw [if_neg Bool.false_ne_true]
 exact h
theorem kY {A B:Prop} (h:A):if true=true then A else B:=by
 rw [if_pos rfl]
 exact h
noncomputable def ag (H H':Hp):Prop:=∀ b o,H b=some o->H' b=some o
theorem ag.refl (H:Hp):ag H H:=λ_ _ h=>h
theorem ag.trans {H H1 H2:Hp} (a:ag H H1) (b:ag H1 H2):ag H H2:=λc o h=>b c o (a c o h)
theorem ag.free {H H':Hp} (e:ag H H') {l:Addr} (h:H' l=Option.none):H l=Option.none:=by
 cases q:H l with
 | none=>rfl
 | some o=>
   rw [e l o q] at h
   cases h
theorem ag.seq {K:PySem.W.Frag} {H H':Hp} {a:Addr} {xs:List V} (e:ag H H') (h:SqL K H a xs):SqL K H' a xs:=by
 rcases h with (h | ⟨o,h⟩) | h
 · exact .inl (.inl (e _ _ h))
 · exact .inl (.inr ⟨o,e _ _ h⟩)
 · exact .inr h
end L2
set_option linter.all false
set_option maxRecDepth 100000
namespace Hx
open PySem PySem.Spec PyProof.Rows
noncomputable def Fly (old:Addr->Prop) (e C:Addr) (fl:Value) (h:Heap):Prop:=
 ∃ oe vs T oT ts,(¬ old e/\∀ b,old b->∃ u,h.get? b=some u)/\h.get? e=some oe/\(oe.cls=.ref C/\oe.dict=none)/\oe.data=.fields vs/\vs[2]?=some .none/\vs[1]?=some (.ref T)/\¬ old T/\T ≠ e/\h.get? T=some oT/\oT.data=.fields ts/\ts[3]?=some fl
structure Kp (old:Addr->Prop) (fs:List Addr) (h h':Heap):Prop where
 keep:∀ b o,old b->b ∉ fs->h.get? b=some o->h'.get? b=some o
 slot:∀ b o,old b->h.get? b=some o->∃ sl,h'.get? b=some { o with slots:=sl }
theorem kM (f:Array Value->Array Value) (o:Obj):(Obj.mapFields f o).dict=o.dict:=by
 obtain ⟨c,d,dt,sl⟩:=o
 cases dt <;> rfl
theorem Kp.trans {old:Addr->Prop} {fs:List Addr} {h h1 h2:Heap} (a:Kp old fs h h1) (b:Kp old fs h1 h2):Kp old fs h h2:=
 ⟨λx o q n e=>b.keep x o q n (a.keep x o q n e),λx o q e=>let ⟨_,e1⟩:=a.slot x o q e; let ⟨sl,e2⟩:=b.slot x _ q e1; ⟨sl,e2⟩⟩
theorem Kp.of {old:Addr->Prop} {fs:List Addr} {h h':Heap} (k:∀ b o,old b->h.get? b=some o->h'.get? b=some o):Kp old fs h h':=⟨λb o q _ e=>k b o q e,λb o q e=>⟨o.slots,k b o q e⟩⟩
section
variable {M:Model} {A:Around} {E:Value->Shared->Prop} {s:Shared}
theorem gp {old:Addr->Prop} {base:Heap} {env:Env} {outer:List Env} {L e C:Addr} {oe:Obj} {vs:Array Value} {head:Value} {more:Bool} {Q:Unit->Shared->Prop} (fr:A.frames=some (env :: outer)) (ff:s.heap.FunFrames base (env :: outer)) (fl:env.frame=some L)
   (he:s.heap.get? e=some oe) (hc:oe.cls=.ref C/\oe.dict=none) (hd:oe.data=.fields vs) (h1:1 < vs.size) (h2:vs[2]?=some .none) (l1:¬ old e/\∀ b,old b->∃ u,s.heap.get? b=some u)
   (k:∀ h',Kp old ((env :: outer).filterMap (·.frame)) s.heap h'->Fly old e C (rawInt L) h'->Q () { s with heap:=h' }) :
   wpAny M A (do let f <- frameOf env; let p <- entryPlaceOf L more; let t <- EntryCells.newEntry head f .none (rawInt L) .none p; setField (.ref e) 1 t) Q E s:=by
 have ne:e ∉ (env :: outer).filterMap (·.frame):=λm=>by
   obtain ⟨_,o,g,d⟩:=ff.mem m
   rw [he] at g; cases g
   exact d vs hd
 refine wpAny_bind (wpAny_frameOf_fun fr ff fl λg1 sl=>wpAny_bind (wpAny_entryPlaceOf λp hp=>?_))
 unfold EntryCells.newEntry newFields
 refine wpAny_bind (wpAny_newObj_type ?_ (hp.sizeOk5 _ _ _ _ _))
 have e1:g1.get? e=some oe:=(sl.2.1 e ne).trans he
 have lT:¬ old g1.objs.size:=λz=>by
   obtain ⟨u,g⟩:=l1.2 _ z
   have:=Heap.lt_size g
   rw [<- sl.1] at this
   exact Nat.lt_irrefl _ this
 generalize hT:({ cls:=.type "traceback",dict:=none,data:=.fields ([head,.ref L,.none,rawInt L,.none]++(if p.isEmpty then List.replicate 6 Value.none else p)).toArray }:Obj)=oT
 have e2:(g1.push oT).get? e=some oe:=Heap.get?_push_of_some oT e1
 refine wpAny_setField e2 hd h1 ?_
 have nT:g1.objs.size ≠ e:=Nat.ne_of_gt (Heap.lt_size e1)
 have d3:=Obj.data_mapFields hd (·.setIfInBounds 1 (Value.ref g1.objs.size))
 have cy:∀ b o,old b->g1.get? b=some o->((g1.push oT).update e (Obj.mapFields (·.setIfInBounds 1 (Value.ref g1.objs.size)))).get? b=some o:=λb o q g=>by
   rw [Heap.get?_update_other _ _ (show e ≠ b from λz=>l1.1 (by rw [z]; exact q))]
   exact Heap.get?_push_of_some oT g
 refine k _ ⟨λb o q n g=>cy b o q ((sl.2.1 b n).trans g),λb o q g=>?_⟩ ?_
 · obtain ⟨z,w⟩:=sl.2.2 b o g
   exact ⟨z,cy b _ q w⟩
 · refine ⟨_,_,g1.objs.size,oT,_,⟨l1.1,λb q=>?_⟩,Heap.get?_update_self _ e2 (Obj.isFreed_of_fields d3),⟨(Obj.cls_mapFields _ _).trans hc.1,(kM _ _).trans hc.2⟩,d3,?_,?_,lT,nT,?_,by rw [<- hT],?_⟩
   · obtain ⟨u,g⟩:=l1.2 b q
     obtain ⟨z,w⟩:=sl.2.2 b u g
     exact ⟨_,cy b _ q w⟩
   · rw [Array.getElem?_setIfInBounds_ne (by decide)]; exact h2
   · simp [h1]
   · rw [Heap.get?_update_other _ _ (Ne.symm nT)]
     exact Heap.get?_push_size g1 (by rw [<- hT]; rfl)
   · first | (simp; done) | (rcases hp with rfl | ⟨_,_,_,_,_,_,_,rfl⟩ <;> simp)
theorem i3 {old:Addr->Prop} {base:Heap} {env:Env} {outer:List Env} {L e C:Addr} {oe:Obj} {vs:Array Value} {Q:Unit->Shared->Prop} (fr:A.frames=some (env :: outer)) (ff:s.heap.FunFrames base (env :: outer)) (fl:env.frame=some L)
   (he:s.heap.get? e=some oe) (hc:oe.cls=.ref C/\oe.dict=none) (hd:oe.data=.fields vs) (h1:vs[1]?=some .none) (h2:vs[2]?=some .none) (l1:¬ old e/\∀ b,old b->∃ u,s.heap.get? b=some u)
   (k:∀ h',Kp old ((env :: outer).filterMap (·.frame)) s.heap h'->Fly old e C (rawInt L) h'->Q () { s with heap:=h' }):wpAny M A (noteFrame (.ref e) env) Q E s:=by
 unfold noteFrame
 simp only [fl]
 refine wpAny_bind (wpAny_field he hd h1 ?_)
 rw [if_neg (by decide)]
 exact gp fr ff fl he hc hd (Array.getElem?_eq_some_iff.mp h1).1 h2 l1 k
theorem gi {old:Addr->Prop} {base:Heap} {env:Env} {outer:List Env} {L e C:Addr} {Q:Unit->Shared->Prop} (fr:A.frames=some (env :: outer)) (ff:s.heap.FunFrames base (env :: outer)) (fl:env.frame=some L) (y:Fly old e C .none s.heap)
   (k:∀ h',Kp old ((env :: outer).filterMap (·.frame)) s.heap h'->Fly old e C (rawInt L) h'->Q () { s with heap:=h' }):wpAny M A (noteFrame (.ref e) env) Q E s:=by
 obtain ⟨oe,vs,T,oT,ts,l1,he,hc,hd,h2,h1,lT,nT,gT,dT,h3⟩:=y
 unfold noteFrame
 simp only [fl]
 refine wpAny_bind (wpAny_field he hd h1 ?_)
 rw [if_pos (by simp)]
 refine wpAny_bind (wpAny_field gT dT h3 ?_)
 rw [if_neg (by simp [rawInt])]
 refine wpAny_bind (wpAny_setField gT dT (Array.getElem?_eq_some_iff.mp h3).1 ?_)
 have oth:∀ b,b ≠ T->(s.heap.update T (Obj.mapFields (·.setIfInBounds 3 Value.none))).get? b=s.heap.get? b:=λb n=>Heap.get?_update_other _ _ (Ne.symm n)
 have kp:Kp old ((env :: outer).filterMap (·.frame)) s.heap (s.heap.update T (Obj.mapFields (·.setIfInBounds 3 Value.none))):=Kp.of λb o q g=>(oth b λz=>lT (z ▸ q)).trans g
 refine gp (base:=base) fr (ff.of_keeps λb o g d=>⟨o,(oth b λz=>?_).trans g,rfl⟩) fl ((oth e (Ne.symm nT)).trans he) hc hd (Array.getElem?_eq_some_iff.mp h1).1 h2 ⟨l1.1,λb q=>let ⟨u,g⟩:=l1.2 b q; ⟨u,(oth b λz=>lT (z ▸ q)).trans g⟩⟩ λh' a y'=>k h' (kp.trans a) y'
 rw [z,gT] at g; cases g
 exact d ts dT
theorem land {old:Addr->Prop} {fs:List Addr} {e C:Addr} {f:Value} {Q:Unit->Shared->Prop} (y:Fly old e C f s.heap) (k:∀ h',Kp old fs s.heap h'->Fly old e C .none h'->Q () { s with heap:=h' }):wpAny M A (setFlight (.ref e) none) Q E s:=by
 obtain ⟨oe,vs,T,oT,ts,l1,he,hc,hd,h2,h1,lT,nT,gT,dT,h3⟩:=y
 have z3:=(Array.getElem?_eq_some_iff.mp h3).1
 refine wpAny_setFlight_none he hd h1 gT dT z3 ?_
 have oth:∀ b,b ≠ T->(s.heap.update T (Obj.mapFields (·.setIfInBounds 3 Value.none))).get? b=s.heap.get? b:=λb n=>Heap.get?_update_other _ _ (Ne.symm n)
 refine k _ (Kp.of λb o q g=>(oth b λz=>lT (z ▸ q)).trans g) ?_
 exact ⟨oe,vs,T,_,_,⟨l1.1,λb q=>let ⟨u,g⟩:=l1.2 b q; ⟨u,(oth b λz=>lT (z ▸ q)).trans g⟩⟩,(oth e (Ne.symm nT)).trans he,hc,hd,h2,h1,lT,nT,Heap.get?_update_self _ gT (Obj.isFreed_of_fields (Obj.data_mapFields dT _)),Obj.data_mapFields dT _,by simp [z3]⟩
theorem ij {old:Addr->Prop} {base:Heap} {env:Env} {outer:List Env} {L e C:Addr} {oe:Obj} {vs:Array Value} {Q:Unit->Shared->Prop} (fr:A.frames=some (env :: outer)) (ff:s.heap.FunFrames base (env :: outer)) (fl:env.frame=some L)
   (he:s.heap.get? e=some oe) (hc:oe.cls=.ref C/\oe.dict=none) (hd:oe.data=.fields vs) (h1:vs[1]?=some .none) (h2:vs[2]?=some .none) (l1:¬ old e/\∀ b,old b->∃ u,s.heap.get? b=some u)
   (k:∀ h',Kp old ((env :: outer).filterMap (·.frame)) s.heap h'->Fly old e C .none h'->Q () { s with heap:=h' }):wpAny M A (leaving env (.ref e)) Q E s:=by
 unfold leaving
 refine wpAny_bind (i3 fr ff fl he hc hd h1 h2 l1 λh' a y=>?_)
 exact land (s:={ s with heap:=h' }) y λh'' b y'=>k h'' (a.trans b) y'
theorem iQ {old:Addr->Prop} {base:Heap} {env:Env} {outer:List Env} {L e C:Addr} {Q:Unit->Shared->Prop} (fr:A.frames=some (env :: outer)) (ff:s.heap.FunFrames base (env :: outer)) (fl:env.frame=some L) (y:Fly old e C .none s.heap)
   (k:∀ h',Kp old ((env :: outer).filterMap (·.frame)) s.heap h'->Fly old e C .none h'->Q () { s with heap:=h' }):wpAny M A (leaving env (.ref e)) Q E s:=by
 unfold leaving
 refine wpAny_bind (gi fr ff fl y λh' a y'=>?_)
 exact land (s:={ s with heap:=h' }) y' λh'' b y2=>k h'' (a.trans b) y2
theorem Fly.at {old:Addr->Prop} {e C:Addr} {f:Value} {h:Heap} (y:Fly old e C f h):∃ o vs,h.get? e=some o/\(o.cls=.ref C/\o.dict=none)/\o.data=.fields vs/\vs[2]?=some .none/\¬ old e:=by
 obtain ⟨oe,vs,T,oT,ts,l1,he,hc,hd,h2,_⟩:=y
 exact ⟨oe,vs,he,hc,hd,h2,l1.1⟩
end
end Hx
namespace Hx
open PySem PySem.Spec PySem.Calls PyProof.Rows PySem.W
structure bL (K:Frag) (D:Addr):Prop where
 cls:(clsIn K D).isSome=true
 ga:findIn K (.ref D) "__getattribute__" = some (some (.builtin "BaseException.__getattribute__"))
 gt:findIn K (.ref D) "__getattr__" = some none
 at_:findIn K (.ref D) "__class__" = some (some (.builtin "object.__class__"))
 get:specialIn K (.builtin "object.__class__") "__get__" = some (some (.builtin "getset_descriptor.__get__"))
 tk:takesIn K (.builtin "object.__class__")=some true
 obj:mroIn K D (.type "object")=some true
 exc:mroIn K D (.type "BaseException")=some true
section
variable {prog:Program} {w:World} {A:Around} {E:Value->Shared->Prop} {s:Shared} {K:Frag} {x D:Addr} {ox:Obj}
theorem mx:builtinKind "BaseException.__getattribute__" = some .slot:=by decide +kernel
theorem kr:splitId "BaseException.__getattribute__" = some ("BaseException","__getattribute__"):=by decide +kernel
theorem iJ (c:bL K D):findObj K D none "__class__" = some (.bind (.builtin "getset_descriptor.__get__") (.builtin "object.__class__")):=by
 obtain ⟨cd,h⟩:=Option.isSome_iff_exists.mp c.cls
 unfold findObj
 rw [h,Option.bind_some,c.at_,Option.bind_some]
 simp [c.get,c.tk]
theorem lJ {tk:Tok} {R:Result->Shared->Prop} (c:bL K D) (X:K.In s.heap) (I:InstAt s.heap x ox D none) (q:R (.ok (.ret (.ref D))) s) :
   wpAny (model prog w) A (Builtin.«object.__getattribute__» ⟨[.ref x,.str "__class__" tk],[]⟩) (λfin s'=>match fin with | .done f=>R (.ok f) s' | .again _=>False) E s:=by
 have lt:=I.type (M:=model prog w)
 have L3:=looks_find (M:=model prog w) X I (iJ c)
 unfold Builtin.«object.__getattribute__»
 refine wpAny_bind (wpAny_pure ?_)
 dsimp only
 refine wpAny_bind (wpAny_pure ?_)
 refine wpAny_bind (lt.here (wpAny_bind (L3.here ?_)))
 dsimp only
 show wpAny _ _ (do let v <- holding [.builtin "object.__class__"] (call (.builtin "getset_descriptor.__get__") [.builtin "object.__class__",.ref x,.ref D]); ret v) _ _ _
 refine wpAny_bind (wpAny_holding (wpAny_call (class_get X I c.obj ?_)))
 exact wpAny_pure q
theorem mz (a b:Value):argsOk "BaseException.__getattribute__" ⟨a :: [b],[]⟩:=PySem.F.args_bexc_ga a b
theorem lD {tk:Tok} {Q:Unit->Shared->Prop} (L4:Looks (model prog w) s.heap (isInstance (.ref x) (.type "BaseException")) true) (q:Q () s):wpAny (model prog w) A (checkBuiltinCall "BaseException.__getattribute__" ⟨Value.ref x :: [.str "__class__" tk],[]⟩) Q E s:=
 check_slot (M:=model prog w) (A:=A) (E:=E) (s:=s) (i:="BaseException.__getattribute__") (owner:="BaseException") (n:="__getattribute__") (self:=.ref x) (rest:=[.str "__class__" tk]) (kw:=[]) (Q:=Q) mx kr L4 (mz _ _) q
theorem nv {tk:Tok} {R:Result->Shared->Prop} (c:bL K D) (X:K.In s.heap) (I:InstAt s.heap x ox D none) (q:R (.ok (.ret (.ref D))) s) :
   codeAny (model prog w) A (.call (.builtin "BaseException.__getattribute__") ⟨[.ref x,.str "__class__" tk],[]⟩) R s:=by
 refine codeAny_call_builtin PySem.F.attr_ValueError.ga.plain PySem.F.entry_bexc_ga (lD ((I.type (M:=model prog w)).andThen (looks_mroIn X c.exc)) ?_)
 refine wpAny_mono (lJ (R:=R) (E:=λe s'=>R (.error e) s') c X I q) (λfin s' z=>?_) λ_ _ z=>z
 cases fin with
 | done f=>exact z
 | again c'=>exact z.elim
theorem jY {Q:Option Value->Shared->Prop} (c:bL K D) (X:K.In s.heap) (I:InstAt s.heap x ox D none) (q:Q (some (.ref D)) { s with toks:=s.toks + 1 }):wpAny (model prog w) A (getAttr? (.ref x) "__class__") Q E s:=by
 obtain ⟨hh,g,d,t,os⟩:=s
 have lt:=I.type (M:=model prog w)
 have lg:=looks_findIn (M:=model prog w) X c.ga; have lh:=looks_findIn (M:=model prog w) X c.gt
 have L3:=looks_find (M:=model prog w) X I (iJ c)
 have L4:Looks (model prog w) hh (isInstance (.ref x) (.type "BaseException")) true:=lt.andThen (looks_mroIn X c.exc)
 unfold getAttr? getAttrBy? getAttrBy; refine wpAny_bind (wpAny_mkText (wpAny_bind (wpAny_attempt (wpAny_holding (wpAny_bind (lt.at (wpAny_bind (lg.at ?_))))))))
 dsimp only
 have no:(Value.builtin "BaseException.__getattribute__" == Value.builtin "object.__getattribute__")=false:=by decide +kernel
 rw [no,Bool.and_false,if_neg Bool.false_ne_true]
 unfold getAttrByItsOwn hookBefore
 rw [if_pos (show onTheHeap (Value.ref D)=true from rfl)]
 refine wpAny_bind (lh.at (wpAny_bind (wpAny_attempt (wpAny_holding ?_))))
 unfold callGetattribute boundAndCalled
 rw [if_neg (show ¬ ((false && onTheHeap (Value.builtin "BaseException.__getattribute__"))=true) by decide),PySem.F.attr_ValueError.ga.bind]
 refine wpAny_bind (wpAny_pure ?_)
 show wpAny (model prog w) A (call (.builtin "BaseException.__getattribute__") [.ref x,.str "__class__" t]) _ _ _
 refine wpAny_call (nv c X I ?_)
 exact handed_on rfl (wpAny_pure q)
theorem lY (c:bL K D):KitX K (.ref x) (.ref D) (λh=>∃ ox,InstAt h x ox D none) where
 ty:=λ_ _ _ ⟨_,I⟩=>I.type
 it:=λ_ _ X _=>by
   obtain ⟨cd,h⟩:=Option.isSome_iff_exists.mp c.cls
   unfold clsIn at h
   split at h
   · rename_i ho
     intro B R F s1 kp z
     unfold isType loadHead; exact wpAny_bind (wpAny_loadPart (kp _ _ (X _ _ ho)) (wpAny_pure z))
   · cases h
 ne:=λg t od xs m ws X e=>by
   obtain ⟨cd,h⟩:=Option.isSome_iff_exists.mp c.cls
   refine Bool.eq_false_iff.mpr λq=>(?_:False)
   obtain rfl:D=t:=Value.ref.inj (beq_iff_eq.mp q)
   unfold clsIn at h
   split at h
   · rename_i ho
     cases (X _ _ ho).symm.trans e
   · cases h
 ca:=λX ⟨_,I⟩ k=>jY c X I k
end
end Hx
namespace Hx
open PySem PySem.Spec PySem.Calls PyProof.Rows PySem.W L2
noncomputable def nsO (o:Obj):Bool:=match o.data with | .dict es _=>es.toList.all (λe=>match e.key with | .str _ _=>true | _=>false) | _=>false
noncomputable abbrev bmV:List Value:=[.type "ValueError",.type "Exception",.type "BaseException",.type "object"]
structure nJ (K:Frag) (C S:Addr):Prop where
 obj:∃ nm q N bs hdct sn sub ab col dd k0 k1 k2 k3 k5 oN,K.lookup C=some (excClassObj nm q C N bs (.ref S :: bmV) hdct sn sub ab col dd k0 k1 k2 k3 k5 "ValueError.__new__")/\K.lookup N=some oN/\nsO oN=true/\nsIn K N "__init__" = some none
 sup:∃ c0 dd cd sl oN,K.lookup S=some ⟨c0,dd,.cls cd,sl⟩/\K.lookup cd.ns=some oN/\nsO oN=true/\nsIn K cd.ns "__init__" = some none
 at_:bL K C
theorem rb {K:Frag} {h:Heap} {N:Addr} {o:Obj} {x:Str} (X:K.In h) (e:K.lookup N=some o) (n:nsO o=true) (i:nsIn K N x=some none):∃ m,h.Ns N m/\m x=none:=by
 have e':=X _ _ e
 have q:h.isNs N=true:=by
   unfold Heap.isNs
   rw [e']
   obtain ⟨c,d,dt,sl⟩:=o
   cases dt with
   | dict es ep=>
     show es.all _=true
     rw [<- Array.all_toList]
     exact n
   | _=>cases n
 refine ⟨_,.of_isNs q,?_⟩
 unfold nsIn at i
 rw [e] at i
 unfold Heap.nsMap
 rw [e']
 obtain ⟨c,d,dt,sl⟩:=o
 cases dt with
 | dict es ep=>
   dsimp only at i ⊢
   unfold nsFind findBy
   rw [<- Array.find?_toList]
   split at i
   · cases i
   · rename_i z
     rw [z]; rfl
 | _=>rfl
section
variable {X:Cx} {x:Str} {C S:Addr} {np cpos pos:Pos} {e:Expr} {es:List Expr} {t:TA}
theorem lN (hc:X.calm=true) (hg:Gl X x) (hm:X.mg x=some (.ref C)) (O:nJ X.K C S) (ha:PA X (e :: es) t) (hdb:(x == ("__debug__" : Str))=false)
   (he:starEach (e :: es) X.env=(false,eval e X.env) :: starEach es X.env) (hpl:(backTo cpos (starEach es X.env)).any (·.1)=false) :
   PS X (.Raise (some (.Call (.Name x np) (e :: es) [] cpos)) none pos) (λ_ σ H=>t σ H λvs H1=>vs.length<=sizeLine/\∀ pins s us,Inv X pins σ H1 s->∀ h' a,Heap.MadeExcOf s.heap h' a (.ref C) us->X.xe (.ref a) { s with heap:=h' }):=by
 intro pins s σ H D I q
 obtain ⟨nm,qn,N,bs,hdct,sn,sub,ab,col,dd,k0,k1,k2,k3,k5,oN,hC,hN,hn,hi⟩:=O.obj
 obtain ⟨c0,dd',cd,sl,oS,hS,hNS,hnS,hiS⟩:=O.sup
 obtain ⟨mN,nN,iN⟩:=rb I.mod.kin hN hn hi
 obtain ⟨mS,nS,iS⟩:=rb I.mod.kin hNS hnS hiS
 refine wpAny_Raise_call_subU (C:=C) (nm:=nm) (q:=qn) (N:=N) (bs:=bs) (bm:=.ref S :: bmV) (hdct:=hdct) (sn:=sn) (sub:=sub) (ab:=ab) (col:=col) (dd:=dd) (k0:=k0) (k1:=k1) (k2:=k2) (k3:=k3) (k5:=k5) (mN:=mN) PySem.F.excBase_ValueError (by decide) PySem.F.excBase_ValueError
   (by rw [List.contains_cons]; rw [show bmV.contains (.type "BaseException")=true by decide]; rw [Bool.or_true]) (I.ok.hd hc) (by rw [he]; exact hpl) iN (dz I hg hm ⟨rfl,?_⟩ hdb)
 rw [he]
 refine Calls.evalArgs_plain ?_
 have q':=ha cpos pins s σ H _ I q
 rw [he] at q'
 refine thn q' λus s1 ⟨vs,H1,I1,r1,l1,q1⟩=>?_
 exact ⟨rfl,by rw [<- r1.length]; exact l1,I1.kIn _ _ hC,nN.keeps I1.bk,.own (I1.kIn _ _ hS) (nS.keeps I1.bk) iS .base,λh' a m=>q1 pins s1 us I1 h' a m⟩
end
section
variable {fs fs' ch:List Addr} {H H1:Hp} {h h1 h2:Heap} {old:Addr->Prop} {P:Program} {w:World} {a:Addr}
theorem jJ (u:Un fs ch H H1 h h1) (k:Kp old fs' h1 h2) (ho:∀ b o,h.get? b=some o->old b) (hf:∀ b o,h.get? b=some o->b ∈ fs'->b ∈ fs):Un fs ch H H1 h h2 where
 keep:=λb o e n nf nx=>k.keep b o (ho b o e) (λz=>nf (hf b o e z)) (u.keep b o e n nf nx)
 slot:=λb o e n f nx=>let ⟨_,z⟩:=u.slot b o e n f nx; let ⟨sl,z2⟩:=k.slot b _ (ho b o e) z; ⟨sl,z2⟩
 free:=u.free
 there:=λb o e nx=>let ⟨o',z⟩:=u.there b o e nx; let ⟨_,z2⟩:=k.slot b o' (ho b o e) z; ⟨_,z2⟩
 tups:=u.tups
 frzs:=u.frzs
 tbls:=u.tbls
theorem gP (x:HOk P w H h1) (k:Kp old fs h1 h2) (q:∀ b o,H b=some o->old b/\b ∉ fs):HOk P w H h2:=λb o e=>by
 refine (x b o e).cy (λd v hd z=>?_) (λ_ z=>z) λ_ _ z=>z
 rcases hd with rfl | hd
 · exact k.keep _ v (q _ _ e).1 (q _ _ e).2 z
 · exact k.keep d v (q _ _ hd).1 (q _ _ hd).2 z
theorem qy {o:Obj} {x:HO} (u:Un fs [] H H1 h h2) (ha:h.get? a=none) (hn:H1 a=none):Un fs [] H (upd H1 a (.frz o x)) h h2 where
 keep:=u.keep
 slot:=u.slot
 free:=λb ob e n nx=>by
   rw [aq (λz=>by rw [z,ha] at e; cases e)]
   exact u.free b ob e n nx
 there:=u.there
 tups:=λb xs e=>by have z:=u.tups b xs e; rw [aq (av z hn)]; exact z
 frzs:=λb ob v e=>by have z:=u.frzs b ob v e; rw [aq (av z hn)]; exact z
 tbls:=λb ps e=>by obtain ⟨m,z⟩:=u.tbls b ps e; exact ⟨m,by rw [aq (av z hn)]; exact z⟩
theorem mF {o:Obj} (x:HOk P w H h) (hn:H a=none) (e:h.get? a=some o):HOk P w (upd H a (.frz o (.ext λ_=>True))) h:=λb ob z=>by
 by_cases hb:b=a
 · subst hb
   rw [aF] at z; cases z
   exact ⟨e,trivial,⟨o,e⟩,λ_ _ _ _=>trivial⟩
 · rw [aq hb] at z
   exact (x b ob z).cy (λ_ _ _ q=>q) (λc q=>by rw [aq (av q hn)]; exact q) λc xs q=>by rw [aq (av q hn)]; exact q
end
theorem there {P:Program} {w:World} {H:Hp} {h:Heap} {a:Addr} {o:HO} (x:bp P w H h a o):∃ u,h.get? a=some u:=by
 cases o with
 | lst xs=>obtain ⟨_,_,_,_,e⟩:=x; exact ⟨_,e⟩
 | tup xs=>obtain ⟨_,_,_,o,e,_⟩:=x; exact ⟨_,e⟩
 | dK kvs=>obtain ⟨_,_,_,_,o,_,_,e,_⟩:=x; exact ⟨_,e⟩
 | dT kvs=>obtain ⟨_,_,_,_,o,_,_,e,_⟩:=x; exact ⟨_,e⟩
 | set S n=>obtain ⟨o,_,_,_,e,_⟩:=x; exact ⟨_,e⟩
 | ins C dx fs=>obtain ⟨_,_,_,e,_⟩:=x; exact ⟨_,e⟩
 | own y=>exact x
 | xd fs=>obtain ⟨_,⟨o,_,_,e,_⟩,_⟩:=x; exact ⟨_,e⟩
 | met f y=>exact ⟨_,x⟩
 | rng lo hi=>obtain ⟨_,_,_,e⟩:=x; exact ⟨_,e⟩
 | frz o u=>exact ⟨_,x.1⟩
 | tbl ps=>exact ⟨_,x⟩
 | ext φ=>exact x.2.1
noncomputable def CXe (P:Program) (w:World) (cl:Nat->Addr):CXT:=λouter H s E e s'=>∃ a c H',∃ old:Addr->Prop,e=.ref a/\s'.os=s.os/\AllBare s'.gens/\Un (frs outer) [] H H' s.heap s'.heap/\HOk P w H' s'.heap/\Fly old a (cl c) .none s'.heap /\
 (∀ b o,s.heap.get? b=some o->old b)/\(∀ b o,H' b=some o->old b)/\E (.ref (cl c)) none H'
section
variable {P:Program} {w:World} {K:Frag} {mg:Str->Option Value} {base:Heap} {N:List Str} {qual:Str} {scope:Scope} {f:Addr} {cd:Value} {A:Around} {outer:List Env} {s0:Shared} {H0:Hp} {E:XK} {cl:Nat->Addr}
noncomputable abbrev cxE (P:Program) (w:World) (K:Frag) (mg:Str->Option Value) (base:Heap) (N:List Str) (qual:Str) (scope:Scope) (f:Addr) (cd:Value) (A:Around) (outer:List Env) (s0:Shared) (H0:Hp) (E:XK) (cl:Nat->Addr):Cx:=fE (CXe P w cl) P w K mg base N qual scope f cd A outer s0 H0 E
theorem iu {pins:List (Addr × Obj)} {σ:L2.St} {H:Hp} {s:Shared} {c:Nat} (I:Inv (cxE P w K mg base N qual scope f cd A outer s0 H0 E cl) pins σ H s) (q:E (.ref (cl c)) none H) {h':Heap} {a:Addr} {us:List Value} (m:Heap.MadeExcOf s.heap h' a (.ref (cl c)) us) :
   (cxE P w K mg base N qual scope f cd A outer s0 H0 E cl).xe (.ref a) { s with heap:=h' }:=by
 obtain ⟨t,he,_,_⟩:=m.there
 have kp:∀ b o,s.heap.get? b=some o->h'.get? b=some o:=m.keeps
 refine ij (old:=λb=>∃ o,s.heap.get? b=some o) (base:=base) (s:={ s with heap:=h' }) I.ok.frames (I.stack.of_keeps λb o g _=>⟨o,kp b o g,rfl⟩) rfl he ⟨rfl,rfl⟩ rfl rfl rfl ⟨λ⟨o,z⟩=>(by rw [m.new] at z; cases z),λb ⟨o,z⟩=>⟨o,kp b o z⟩⟩ λh2 k y=>?_
 have k0:Kp (λb=>∃ o,s.heap.get? b=some o) (frs (cxE P w K mg base N qual scope f cd A outer s0 H0 E cl).stack) s.heap h2:=(Kp.of λb o _ z=>kp b o z).trans k
 refine ⟨a,c,H,_,rfl,I.os,I.bare,jJ I.base k0 (λb o e=>I.base.there b o e (by intro z; exact absurd (show b ∈ ([]:List Addr) from z) (by simp))) (λb o e z=>?_),gP I.hok k0 λb o e=>⟨?_,λz=>?_⟩,y,λb o e=>I.base.there b o e (by intro z; exact absurd (show b ∈ ([]:List Addr) from z) (by simp)),λb o e=>?_,q⟩
 · rcases List.mem_cons.mp (I.eX b z) with z | z
   · exact absurd (Heap.lt_size e) (by rw [z]; exact Nat.lt_irrefl _)
   · exact z
 · exact there (I.hok b o e)
 · rw [I.dr b z] at e; cases e
 · exact there (I.hok b o e)
theorem j5 {Ex:Nat->Hp->Prop} (hE:∀ c H,Ex c H->E (.ref (cl c)) none H):Passes (CXe P w cl) (cxE P w K mg base N qual scope f cd A outer s0 H0 E cl) (λC _ H'=>∃ c,C=.ref (cl c)/\Ex c H'):=by
 intro pins σ H s e s' I ⟨a,c,H',old,he,os,bare,un,hok,y,o1,o2,c',ec,q⟩
 subst he
 have ec:cl c=cl c':=Value.ref.inj ec
 have I':Inv (cxE P w K mg base N qual scope f cd A outer s0 H0 E cl) pins σ H' s':=I.gr os un hok bare λb z=>absurd z (by simp)
 have oth:∀ b o,s0.heap.get? b=some o->old b:=λb o e=>by
   obtain ⟨u,g⟩:=I.base.there b o e (by intro z; exact absurd (show b ∈ ([]:List Addr) from z) (by simp))
   exact o1 b u g
 refine iQ (base:=base) I'.ok.frames I'.stack rfl y λh2 k y2=>?_
 refine ⟨a,c',H',old,rfl,I'.os,I'.bare,jJ I'.base k oth (λb o e z=>?_),gP I'.hok k λb o e=>⟨o2 b o e,λz=>?_⟩,by rw [<- ec]; exact y2,oth,o2,hE c' H' q⟩
 · rcases List.mem_cons.mp (I'.eX b z) with z | z
   · exact absurd (Heap.lt_size e) (by rw [z]; exact Nat.lt_irrefl _)
   · exact z
 · have:=I'.dr b z
   rw [this] at e; cases e
end
noncomputable abbrev XH (X:Cx) (a:Addr):Cx:={ X with A:=X.A.mark (some (.ref a)),calm:=false,xe:=λ_ _=>False }
section
variable {X:Cx} {pins:List (Addr × Obj)} {σ:L2.St} {H:Hp} {s:Shared} {a:Addr}
theorem nu (ok:X.Ok):(XH X a).Ok:=⟨ok.mod,ok.kind,ok.glob,ok.blt,ok.above,ok.inj,ok.has,ok.cab,(λz=>nomatch z),ok.frames,ok.stk,ok.exf,ok.bs,ok.bsz,ok.noex,ok.exfs,ok.dF,ok.frf⟩
theorem iB (I:Inv X pins σ H s):Inv (XH X a) pins σ H s:=⟨nu I.ok,I.os,I.bare,I.base,I.loc,I.cell,I.free,I.freeC,I.pin,I.hok,I.len⟩
theorem iX (ok:X.Ok) (I:Inv (XH X a) pins σ H s):Inv X pins σ H s:=⟨ok,I.os,I.bare,I.base,I.loc,I.cell,I.free,I.freeC,I.pin,I.hok,I.len⟩
noncomputable abbrev XP (X:Cx) (pins:List (Addr × Obj)) (E:Value->Shared->Prop):Cx:={ X with pn:=X.pn++pins,xe:=E }
theorem rm {E:Value->Shared->Prop} (ok:X.Ok):(XP X pins E).Ok:=⟨ok.mod,ok.kind,ok.glob,ok.blt,ok.above,ok.inj,ok.has,ok.cab,ok.hd,ok.frames,ok.stk,ok.exf,ok.bs,ok.bsz,ok.noex,ok.exfs,ok.dF,ok.frf⟩
theorem pf {E:Value->Shared->Prop} (I:Inv X pins σ H s):Inv (XP X pins E) [] σ H s:=⟨rm I.ok,I.os,I.bare,I.base,I.loc,I.cell,I.free,I.freeC,λp hp=>I.pin p (by simpa using hp),I.hok,I.len⟩
theorem cP {E:Value->Shared->Prop} {pl:List (Addr × Obj)} (ok:X.Ok) (I:Inv (XP X pins E) pl σ H s):Inv X pins σ H s:=⟨ok,I.os,I.bare,I.base,I.loc,I.cell,I.free,I.freeC,λp hp=>I.pin p (List.mem_append_left _ hp),I.hok,I.len⟩
theorem ng {E:Value->Shared->Prop} {D:Ends} {f:Flow} (ok:X.Ok) (h:SP (XP X pins E) [] D f s):SP X pins D f s:=by
 cases f with
 | next=>obtain ⟨σ',H',I,q⟩:=h; exact ⟨σ',H',cP ok I,q⟩
 | brk=>obtain ⟨σ',H',I,q⟩:=h; exact ⟨σ',H',cP ok I,q⟩
 | cont=>obtain ⟨σ',H',I,q⟩:=h; exact ⟨σ',H',cP ok I,q⟩
 | ret u=>obtain ⟨v,σ',H',I,r,q⟩:=h; exact ⟨v,σ',H',cP ok I,r,q⟩
theorem qf {E:Value->Shared->Prop} {M:Model} {A:Around} {i:Nat} {n:Str} {v:V} {Q:Unit->Shared->Prop} (I:Inv X pins σ H s) (hN:X.N.Nodup) (hi:X.N[i]?=some n) (hn:X.env.scope.names.lookup n=some .local) (hv:σ[i]?=some (some v))
   (k:∀ s',Inv X pins (σ.set i none) H s'->Q () s'):wpAny M A (unbindName X.env n) Q E s:=by
 obtain ⟨m,ns,look⟩:=id I.loc
 obtain ⟨u,_,lu⟩:=look i n v hi hv (.inl hn)
 have mu:m n=some u:=by
   rcases lu with z | ⟨z | z,_⟩
   · exact z.2
   · have z:X.env.scope.names.lookup n=some .cell:=z
     rw [hn] at z; cases z
   · have z:X.env.scope.names.lookup n=some .free:=z
     rw [hn] at z; cases z
 have hcls:(X.env.scope.kind == .class || (X.env.scope.kind == .module && X.env.locals != X.env.globals))=false:=by rw [I.ok.kind]; rfl
 refine wpAny_unbindName_local hn ns mu hcls λh' x ns' sb=>?_
 obtain ⟨oL,_,_,gL,_⟩:=id ns
 have far:∀ b o,X.s₀.heap.get? b=some o->h'.get? b=s.heap.get? b:=λb o e=>sb.2 b (Nat.ne_of_lt (Nat.lt_of_lt_of_le (Heap.lt_size e) I.ok.above))
 refine k { s with heap:=h' } ⟨I.ok,I.os,I.bare,⟨λb o e n0 nf nx=>(far b o e).trans (I.base.keep b o e n0 nf nx),λb o e n0 f nx=>?_,I.base.free,λb o e nx=>?_,I.base.tups,I.base.frzs,I.base.tbls⟩,⟨_,ns',λj y w e1 e2 e3=>?_⟩,λy c e=>?_,I.free,I.freeC,λp hp=>?_,λb ob e=>?_,by simpa using I.len⟩
 · obtain ⟨sl,z⟩:=I.base.slot b o e n0 f nx
   exact ⟨sl,(far b o e).trans z⟩
 · obtain ⟨o',z⟩:=I.base.there b o e nx
   exact ⟨o',(far b o e).trans z⟩
 · have hj:j ≠ i:=λz=>by
     subst z
     rw [List.getElem?_set_self (by rw [I.len]; exact (List.getElem?_eq_some_iff.mp hi).1)] at e2
     cases e2
   rw [List.getElem?_set_ne (Ne.symm hj)] at e2
   obtain ⟨u',r',q⟩:=look j y w e1 e2 e3
   refine ⟨u',r',?_⟩
   have ne:y ≠ n:=λe=>hj (fD hN e1 (e ▸ hi))
   rcases q with ⟨z,e⟩ | ⟨z,c,e,g⟩
   · exact .inl ⟨z,by simp [ne,e]⟩
   · exact .inr ⟨z,c,e,g.sameBut sb (I.cne y c e)⟩
 · obtain ⟨w,z⟩:=I.cell y c e
   exact ⟨w,z.sameBut sb (I.cne y c e)⟩
 · obtain ⟨e,n0,ne,nf,d⟩:=I.pin p hp
   exact ⟨(sb.2 p.1 ne).trans e,n0,ne,nf,d⟩
 · refine (I.hok b ob e).cy (λc w hc q=>(sb.2 c ?_).trans q) (λ_ q=>q) λ_ _ q=>q
   rcases hc with rfl | hc
   · exact av e I.free
   · exact av hc I.free
end
noncomputable def kJ (o:Obj) (C:Addr):Prop:=(o.cls=.ref C/\o.dict=none)/\∃ vs,o.data=.fields vs/\vs[2]?=some .none
noncomputable abbrev kh (o:Obj):HO:=.frz o (.ext λ_=>True)
section
variable {X:Cx} {cl:Nat->Addr} {ks:List Nat} {n sm:Str} {i:Nat} {S:Addr} {ret:Expr} {psm pr ph pos:Pos} {body:List Stmt} {tb:(Nat->Hp->Prop)->TS} {tr:Addr->Obj->TE}
noncomputable def ExH (ks:List Nat) (cl:Nat->Addr) (i:Nat) (tr:Addr->Obj->TE) (D:Ends):Nat->Hp->Prop:=λc H=>c ∈ ks/\∀ (σ:L2.St) a o,i < σ.length->H a=none->kJ o (cl c)->tr a o (σ.set i (some (.ref a))) (upd H a (kh o)) D.rt
theorem pG (hst:X.stack=X.env :: X.outer/\X.env.frame=some X.env.locals) (nd:X.N.Nodup) (hi:X.N[i]?=some n) (hn:X.env.scope.names.lookup n=some .local) (hgS:Gl X sm) (hmS:X.mg sm=some (.ref S)) (hdb:(sm == ("__debug__" : Str))=false)
   (hx:∀ c ∈ ks,exmOne X.K (.ref (cl c)) (.ref S)=some true) (hr:∀ a o,PE (XH X a) ret (tr a o)) {pins:List (Addr × Obj)} {σ:L2.St} {H:Hp} {s s':Shared} {e:Value} {D:Ends} (I:Inv X pins σ H s)
   (h:CXe X.prog X.w cl X.stack H s (λC _ H'=>∃ c,C=.ref (cl c)/\ExH ks cl i tr D c H') e s') :
   wpAny (model X.prog X.w) X.A (noteFrame e X.env) (λ_ s2=>wpAny (model X.prog X.w) X.A (setFlight e none) (λ_ s3=>wpAny (model X.prog X.w) X.A (handleBy e X.env [.ExceptHandler (some (.Name sm psm)) (some n) [.Return (some ret) pr] ph]) (SP X pins D) X.xe s3) X.xe s2) X.xe s':=by
 obtain ⟨a,c0,H2,old,rfl,os,bare,un,hok,y,o1,o2,c,ec,hc,q⟩:=h
 have ec:cl c0=cl c:=Value.ref.inj ec
 rw [ec] at y
 have I':Inv X pins σ H2 s':=I.gr os un hok bare λb z=>absurd z (by simp)
 have fr:X.A.frames=some (X.env :: X.outer):=by rw [<- hst.1]; exact I.ok.frames
 have ff:s'.heap.FunFrames X.base (X.env :: X.outer):=by rw [<- hst.1]; exact I'.stack
 have efs:(X.env :: X.outer).filterMap (·.frame)=frs X.stack:=by rw [hst.1]; rfl
 have tk:∀ b o,H2 b=some o->old b/\b ∉ frs X.stack:=λb o e=>⟨o2 b o e,λz=>by rw [I'.dr b z] at e; cases e⟩
 have na:s.heap.get? a=none:=by
   cases g:s.heap.get? a with
   | none=>rfl
   | some o=>exact absurd (o1 a o g) y.at.choose_spec.choose_spec.2.2.2.2
 have Ha:H2 a=none:=by
   cases g:H2 a with
   | none=>rfl
   | some o=>exact absurd (o2 a o g) y.at.choose_spec.choose_spec.2.2.2.2
 have at_:∀ {h4:Heap},Kp old (frs X.stack) s'.heap h4->Inv X pins σ H2 { s' with heap:=h4 }:=λ{h4} k=>I.gr (s':={ s' with heap:=h4 }) os (jJ un k o1 λ_ _ _ z=>z) (gP hok k tk) bare λb z=>absurd z (by simp)
 refine gi fr ff hst.2 y λh3 k3 y3=>?_
 rw [efs] at k3
 refine land (s:={ s' with heap:=h3 }) (fs:=frs X.stack) y3 λh4 k4 y4=>?_
 have k4:=k3.trans k4
 have I4:=at_ k4
 have no:∀ {α:Type} {t:Sem α} {Q:α->Shared->Prop} {A:Around} {s:Shared} {E:Value->Shared->Prop},wpAny (model X.prog X.w) A t Q (λ_ _=>False) s->wpAny (model X.prog X.w) A t Q E s:=λh=>wpAny_mono h (λ_ _ q=>q) λ_ _ q=>q.elim
 refine wpAny_handleBy_cons (codeAny_handlers_test (no (dz (X:=XH X a) (iB I4) hgS hmS ?_ hdb))) (by intro z; cases z)
 obtain ⟨oe,vs,ge,hce,hde,h2e,_⟩:=y4.at
 have LT:Looks (model X.prog X.w) h4 (typeOf (.ref a)) (.ref (cl c)):=hce.1 ▸ (Looks.ld ge).andThen .now
 refine (exm_one I4.kIn LT (hx c hc)).here ?_
 refine codeAny_handlers_suite_as (land (s:={ s' with heap:=h4 }) (fs:=frs X.stack) y4 λh5 k5 y5=>?_)
 obtain ⟨o5,vs5,g5,hc5,hd5,h25,_⟩:=y5.at
 have k5:=k4.trans k5
 have I5:Inv X pins σ (upd H2 a (kh o5)) { s' with heap:=h5 }:=I.gr (s':={ s' with heap:=h5 }) os (qy (jJ un k5 o1 λ_ _ _ z=>z) na Ha) (mF (gP hok k5 tk) Ha g5) bare λb z=>absurd z (by simp)
 refine dB (X:=XH X a) (iB I5) nd hi (.inl hn) (v:=.ref a) rfl (λs6 I6=>?_) (.inr hn)
 refine no (thn (mZ (gy (hr a o5)) pins s6 _ _ { nx:=λ_ _=>False,rt:=D.rt } I6 (q σ a o5 (by rw [I.len]; exact (List.getElem?_eq_some_iff.mp hi).1) Ha ⟨hc5,vs5,hd5,h25⟩)) λf s7 q7=>?_)
 cases f with
 | next=>obtain ⟨_,_,_,z⟩:=q7; exact z.elim
 | brk=>obtain ⟨_,_,_,z⟩:=q7; exact z.elim
 | cont=>obtain ⟨_,_,_,z⟩:=q7; exact z.elim
 | ret u=>
   obtain ⟨v,σ7,H7,I7,r7,z7⟩:=q7
   have I7:=iX I.ok I7
   refine wpAny_bind (wpAny_bindName (dB I7 nd hi (.inl hn) (v:=.non) rfl (λs8 I8=>?_) (.inr hn)))
   unfold unbindBehindTheSuite
   refine wpAny_onRaise (qf I8 nd hi hn (v:=.non) (List.getElem?_set_self (by rw [I7.len]; exact (List.getElem?_eq_some_iff.mp hi).1)) λs9 I9=>?_)
   exact ⟨v,_,H7,I9,r7,z7⟩
theorem pY (hst:X.stack=X.env :: X.outer/\X.env.frame=some X.env.locals) (nd:X.N.Nodup) (hi:X.N[i]?=some n) (hn:X.env.scope.names.lookup n=some .local) (hgS:Gl X sm) (hmS:X.mg sm=some (.ref S)) (hdb:(sm == ("__debug__" : Str))=false)
   (hx:∀ c ∈ ks,exmOne X.K (.ref (cl c)) (.ref S)=some true) (hr:∀ a o,PE (XH X a) ret (tr a o))
   (hb:∀ (Ex:Nat->Hp->Prop) (pins:List (Addr × Obj)) (E:Value->Shared->Prop),Passes (CXe X.prog X.w cl) (XP X pins E) (λC _ H'=>∃ c,C=.ref (cl c)/\Ex c H')->PSs (XP X pins E) body (tb Ex)) :
   PS X (.Try body [.ExceptHandler (some (.Name sm psm)) (some n) [.Return (some ret) pr] ph] [] [] pos) (λD σ H=>tb (ExH ks cl i tr D) D σ H):=by
 intro pins s σ H D I h
 refine wpAny_Try_except ?_
 refine wpAny_mono (hb (ExH ks cl i tr D) pins (λe s1=>wpAny (model X.prog X.w) X.A (noteFrame e X.env) (λ_ s2=>wpAny (model X.prog X.w) X.A (setFlight e none) (λ_ s3=>wpAny (model X.prog X.w) X.A (handleBy e X.env [.ExceptHandler (some (.Name sm psm)) (some n) [.Return (some ret) pr] ph]) (SP X pins D) X.xe s3) X.xe s2) X.xe s1)
   (λpl σ1 H1 s1 e s2 I1 z=>pG hst nd hi hn hgS hmS hdb hx hr (cP I.ok I1) z) [] s σ H D (pf I) h) (λf s1 q=>?_) λ_ _ z=>z
 have q:=ng I.ok q
 cases f with
 | next=>exact wpAny_execs_nil q
 | _=>exact q
end
end Hx
namespace Ev
open PySem PySem.Spec PyProof.Rows L2
structure Bx where
 p:PySem.W.Frag->Hp->Addr->Prop
 mono:∀ {K:PySem.W.Frag} {H H':Hp} {a:Addr},ag H H'->p K H a->p K H' a
 isd:∀ {K:PySem.W.Frag} {H:Hp} {a:Addr},p K H a->∃ o:HO,H a=some o/\∀ (P:Program) (w:World) (H':Hp) (h:Heap),bp P w H' h a o->∃ ob,h.get? a=some ob/\ob.cls=.type "dict"
inductive D where
 | non | bl (b:Bool) | int (i:Int) | str (x:Str) | tup (xs:List D) | lst (xs:List D) | box (x:Bx)
noncomputable instance:Inhabited D:=⟨.non⟩
mutual
inductive Den (K:PySem.W.Frag) (H:Hp):V->D->Prop where
 | non:Den K H .non .non
 | bl {b:Bool}:Den K H (.bl b) (.bl b)
 | int {i:Int}:Den K H (.int i) (.int i)
 | str {x:Str}:Den K H (.str x) (.str x)
 | tup {a:Addr} {vs:List V} {ds:List D} (h:SqT K H a vs) (r:aw K H vs ds):Den K H (.ref a) (.tup ds)
 | lst {a:Addr} {vs:List V} {ds:List D} (h:SqL K H a vs) (r:aw K H vs ds):Den K H (.ref a) (.lst ds)
 | box {a:Addr} {x:Bx} (h:x.p K H a):Den K H (.ref a) (.box x)
inductive aw (K:PySem.W.Frag) (H:Hp):List V->List D->Prop where
 | nil:aw K H [] []
 | cons {v:V} {d:D} {vs:List V} {ds:List D} (h:Den K H v d) (r:aw K H vs ds):aw K H (v :: vs) (d :: ds)
end
section
variable {K:PySem.W.Frag} {H H':Hp}
theorem aV (e:ag H H') {a:Addr} {xs:List V} (h:SqT K H a xs):SqT K H' a xs:=by
 rcases h with (h | ⟨o,h⟩) | h
 · exact .inl (.inl (e _ _ h))
 · exact .inl (.inr ⟨o,e _ _ h⟩)
 · exact .inr h
theorem aI (e:ag H H') {a:Addr} {xs:List V} (h:SqL K H a xs):SqL K H' a xs:=e.seq h
mutual
theorem Den.mono (e:ag H H'):∀ {v:V} {d:D},Den K H v d->Den K H' v d
 | _,_,.non=>.non
 | _,_,.bl=>.bl
 | _,_,.int=>.int
 | _,_,.str=>.str
 | _,_,.tup h r=>.tup (aV e h) (aw.mono e r)
 | _,_,.lst h r=>.lst (aI e h) (aw.mono e r)
 | _,_,.box (x:=x) h=>.box (x.mono e h)
theorem aw.mono (e:ag H H'):∀ {vs:List V} {ds:List D},aw K H vs ds->aw K H' vs ds
 | _,_,.nil=>.nil
 | _,_,.cons h r=>.cons (Den.mono e h) (aw.mono e r)
end
theorem aw.length:∀ {vs:List V} {ds:List D},aw K H vs ds->vs.length=ds.length
 | _,_,.nil=>rfl
 | _,_,.cons _ r=>congrArg (· + 1) r.length
theorem aw.get:∀ {vs:List V} {ds:List D} {i:Nat} {d:D},aw K H vs ds->ds[i]?=some d->∃ v,vs[i]?=some v/\Den K H v d
 | _,_,_,_,.nil,e=>by simp at e
 | _,_,0,_,.cons h _,e=>by simp at e; subst e; exact ⟨_,rfl,h⟩
 | _,_,i + 1,d,.cons _ r,e=>by
   obtain ⟨v,h1,h2⟩:=aw.get (i:=i) (d:=d) r (by simpa using e)
   exact ⟨v,by simpa using h1,h2⟩
theorem aw.append:∀ {xs ys:List V} {ds es:List D},aw K H xs ds->aw K H ys es->aw K H (xs++ys) (ds++es)
 | _,_,_,_,.nil,s=>s
 | _,_,_,_,.cons h r,s=>.cons h (aw.append r s)
theorem aw.take:∀ {xs:List V} {ds:List D} (n:Nat),aw K H xs ds->aw K H (xs.take n) (ds.take n)
 | _,_,0,_=>.nil
 | _,_,_ + 1,.nil=>.nil
 | _,_,n + 1,.cons h r=>.cons h (aw.take n r)
theorem aw.drop:∀ {xs:List V} {ds:List D} (n:Nat),aw K H xs ds->aw K H (xs.drop n) (ds.drop n)
 | _,_,0,r=>r
 | _,_,_ + 1,.nil=>.nil
 | _,_,n + 1,.cons _ r=>aw.drop n r
end
noncomputable def aU (i j:Int):Prop:=i.natAbs.log2 < 64\/j.natAbs.log2 < 64\/(i.natAbs.log2 < 1000000/\j.natAbs.log2 < 1000000)
noncomputable def aK (j:Int):Prop:=j ≠ 0/\j.natAbs.log2 < 9000
theorem au {H:Hp} {p:Addr} (h:H p=none) (o:HO):ag H (upd H p o):=λb u q=>by rw [aq (av q h)]; exact q
noncomputable def Ite (K:PySem.W.Frag) (a:Addr):L2.It:=
 ⟨λi H=>∃ xs x,SqL K H a xs/\xs[i]?=some x,λi H v H'=>∃ p x,H p=none/\v=.ref p/\H'=upd H p (.tup [.int (i:Nat),x])/\∀ xs,SqL K H a xs->xs[i]?=some x,λi H=>∃ xs,SqL K H a xs/\xs.length<=i⟩
theorem j0 {P:Program} {w:World} {K:PySem.W.Frag} {ts:List Expr} {q:Nat} {tp:Pos} (a e it:Addr) (hne:e ≠ it) :
   Turn P w K false (.Tuple ts q tp) (Ite K a) [e,it] e (λi h=>(∃ old,IsEnum h e it (i:Nat) old)/\h.IsListIter it a i) where
 mem:=by simp
 obj:=λi h st b hb=>by
   obtain ⟨⟨old,h1⟩,o,h2,h3,h4⟩:=st
   rcases List.mem_cons.mp hb with rfl | hb
   · exact ⟨_,h1,λv z=>nomatch z⟩
   · have z:b=it:=by simpa using hb
     subst z
     exact ⟨o,h2,λv z=>by rw [h4] at z; cases z⟩
 keep:=λi h h' st k=>by
   obtain ⟨⟨old,h1⟩,o,h2,h3,h4⟩:=st
   exact ⟨⟨old,k e (by simp) _ h1⟩,o,k it (by simp) o h2,h3,h4⟩
 item:=by
   intro X hP hw hK hc i pins s σ H E I hf st hg
   subst hP hw hK
   obtain ⟨xs,x,hq,hx⟩:=hg
   obtain ⟨its,rv,p,hz⟩:=I.list hq
   obtain ⟨u,hu,ru⟩:=rv.get hx
   obtain ⟨⟨old,h1⟩,h2⟩:=st
   have fe:=hf e (by simp)
   have fi:=hf it (by simp)
   refine wpAny_pyNext_enum_item h1 h2 p.isList (x:=u) (by simpa using hu) hne λh' g1 g2 g3 g4 g5=>⟨_,rfl,?_⟩
   refine wpAny_letOwnedTupleGo_enum (s:={ s with heap:=h',toks:=s.toks + 1 }) g1 λh2' k1 k2=>?_
   have hn:H s.heap.objs.size=none:=I.hok.fresh (Nat.le_refl _)
   have le1:e < s.heap.objs.size:=Heap.lt_size h1
   have le2:it < s.heap.objs.size:=by obtain ⟨o,z,_⟩:=h2; exact Heap.lt_size z
   have kp:∀ b o,b ≠ e->b ≠ it->s.heap.get? b=some o->h2'.get? b=some o:=λb o b1 b2 z=>(k2.2 b b1).trans (g5 b o b1 b2 z)
   have nt:h2'.get? s.heap.objs.size=some { cls:=.type "tuple",data:=.seq #[.int (i:Nat) s.toks,u] }:=(k2.2 _ (Nat.ne_of_gt le1)).trans g3
   have ne1:∀ b v,H b=some v->b ≠ e:=λb v z q=>by rw [q,fe.1] at z; cases z
   have ne2:∀ b v,H b=some v->b ≠ it:=λb v z q=>by rw [q,fi.1] at z; cases z
   have hok0:HOk X.prog X.w H h2':=λb v z=>(I.hok b v z).cy (λc v' hc' q=>kp c v' (by
       rcases hc' with hc' | hc'
       · rw [hc']; exact ne1 b v z
       · exact ne1 c _ hc') (by
       rcases hc' with hc' | hc'
       · rw [hc']; exact ne2 b v z
       · exact ne2 c _ hc') q) (λ_ q=>q) λ_ _ q=>q
   have hok1:HOk X.prog X.w (upd H s.heap.objs.size (.tup [.int (i:Nat),x])) h2':=λb v z=>by
     by_cases hb:b=s.heap.objs.size
     · subst hb
       rw [aF] at z; cases z
       exact ⟨(by show 2<=sizeLine; decide),[.int (i:Nat) s.toks,u],.cons ⟨_,rfl⟩ (.cons ru .nil),_,nt,rfl,_,rfl⟩
     · rw [aq hb] at z
       exact (hok0 b v z).cy (λc v' _ q=>q) (λc q=>by rw [aq (av q hn)]; exact q) λc ys q=>by rw [aq (av q hn)]; exact q
   have I1:Inv X pins σ (upd H s.heap.objs.size (.tup [.int (i:Nat),x])) { s with heap:=h2',toks:=s.toks + 1 }:=by
     refine I.step (g':=s.gens) (d':=s.drawn) (ch:=[e,it]) (λb hb=>?_) (λb o _ _ hc' z _=>kp b o (λq=>hc' (by simp [q])) (λq=>hc' (by simp [q])) z)
       (λb o _ _ hc' z _=>⟨o.slots,kp b o (λq=>hc' (by simp [q])) (λq=>hc' (by simp [q])) z⟩)
       (λb o hc' z n=>by rw [aq (Nat.ne_of_lt (Heap.lt_size z))]; exact n) (λb o hc' z=>⟨o,kp b o (λq=>hc' (by simp [q])) (λq=>hc' (by simp [q])) z⟩)
       (λb ys z=>by rw [aq (av z hn)]; exact z) (λb o u z=>by rw [aq (av z hn)]; exact z) (λb ps z=>⟨#[],by rw [aq (av z hn),z]; simp⟩) (λm hm=>?_) hok1 I.bare
     · rcases List.mem_cons.mp hb with rfl | hb
       · exact ⟨fe.2.2.2.1,fe.2.1,fe.2.2.2.2.1,fe.2.2.2.2.2⟩
       · have z:b=it:=by simpa using hb
         subst z
         exact ⟨fi.2.2.2.1,fi.2.1,fi.2.2.2.2.1,fi.2.2.2.2.2⟩
     · obtain ⟨o,es,ep,ho,r⟩:=hm
       exact ⟨o,es,ep,kp _ o (Ne.symm fe.2.1) (Ne.symm fi.2.1) ho,r⟩
   refine ⟨.ref s.heap.objs.size,_,I1,rfl,⟨s.heap.objs.size,x,hn,rfl,rfl,λys hy=>by rw [I.cH hy hq]; exact hx⟩,⟨⟨_,k1⟩,?_⟩,λb hb=>?_⟩
   · obtain ⟨o,z1,z2,z3⟩:=g2
     exact ⟨o,(k2.2 it (Ne.symm hne)).trans z1,z2,z3⟩
   · rcases List.mem_cons.mp hb with rfl | hb
     · rw [aq (Nat.ne_of_lt le1)]; exact fe.1
     · have z:b=it:=by simpa using hb
       subst z
       rw [aq (Nat.ne_of_lt le2)]; exact fi.1
 done:=by
   intro X hP hw hK hc i pins s σ H E I hf st hg
   subst hP hw hK
   obtain ⟨xs,hq,hx⟩:=hg
   obtain ⟨its,rv,p,hz⟩:=I.list hq
   obtain ⟨⟨old,h1⟩,h2⟩:=st
   obtain ⟨f0,f1,f2,f3,f4,f5⟩:=hf it (by simp)
   have hl:=rv.length
   exact wpAny_pyNext_enum_end (I.ok.hd hc.calm) h1 h2 p.isList (by simp; omega) λh' eb=>⟨rfl,I.turned (t':=s.toks) (λb o hb z=>eb b o hb z) f0 f1 f3 f4 f5⟩
 self:=λ_ _ _ _ _ st h=>by
   obtain ⟨⟨old,h1⟩,_⟩:=st
   exact wpAny_pyIter_enum h1 h
section
variable {X:Cx}
noncomputable def sa (K:PySem.W.Frag) (ta:TA):TI:=λσ H R=>ta σ H λvs H1=>∃ a,vs=[.ref a]/\(∃ xs,SqL K H1 a xs)/\R (Ite K a) H1
theorem j1:bootBuiltins "enumerate" = some (.type "enumerate"):=by decide +kernel
theorem jG {ts:List Expr} {q:Nat} {tp:Pos} {a:Expr} {ta:TA} {p pos:Pos} (hc:X.calm=true) (hg:Gl X "enumerate") (hm:X.mg "enumerate" = none) (ha:PA X [a] ta) (hs:starEach [a] X.env=[(false,eval a X.env)]) :
   PI X (.Tuple ts q tp) (.Call (.Name "enumerate" p) [a] [] pos) (sa X.K ta):=by
 intro pins s σ H R I h
 refine Call_ (cX I hg hm j1 (PyProof.Rows.callWith_type1 (thn (ha pos pins s σ H _ I h) λus s1 ⟨vs,H1,I1,r1,q1⟩=>?_) hs rfl))
 obtain ⟨l,e,⟨xs,hq⟩,q⟩:=q1
 subst e
 obtain ⟨u,rfl,ru⟩:=vals1 r1
 cases ru
 obtain ⟨its,rv,pl,hz⟩:=I1.list hq
 refine call_enumerate_list pl.isList λh' g1 g2 g3 g4=>?_
 refine wpAny_pyIter_enum (s:={ s1 with heap:=h' }) g1 ?_
 have I2:Inv X pins σ H1 { s1 with heap:=h' }:=I1.kept (t':=s1.toks) g4
 have n1:H1 (s1.heap.objs.size + 1)=none:=I1.hok.fresh (by omega)
 have n2:H1 s1.heap.objs.size=none:=I1.hok.fresh (Nat.le_refl _)
 refine ⟨false,s1.heap.objs.size + 1,[s1.heap.objs.size + 1,s1.heap.objs.size],_,_,H1,rfl,I2,.inl hc,j0 l (s1.heap.objs.size + 1) s1.heap.objs.size (Nat.succ_ne_self _),⟨⟨_,g1⟩,g2⟩,λb hb=>?_,q⟩
 rcases List.mem_cons.mp hb with rfl | hb
 · exact I1.iW (by omega) n1
 · have z:b=s1.heap.objs.size:=by simpa using hb
   subst z
   exact I1.iW (Nat.le_refl _) n2
end
noncomputable def Itz (K:PySem.W.Frag) (a b:Addr):L2.It:=
 ⟨λi H=>∃ xs ys x y,SqL K H a xs/\SqL K H b ys/\xs[i]?=some x/\ys[i]?=some y,
  λi H v H'=>∃ p x y,H p=none/\v=.ref p/\H'=upd H p (.tup [x,y])/\(∀ xs,SqL K H a xs->xs[i]?=some x)/\∀ ys,SqL K H b ys->ys[i]?=some y,
  λi H=>∃ xs ys,SqL K H a xs/\SqL K H b ys/\(xs.length<=i\/ys.length<=i)⟩
noncomputable def zSt (a b z TI TO i1 i2:Addr) (i:Nat) (h:Heap):Prop:=
 IsZip h z TI TO .none/\IsPair h TI (.ref i1) (.ref i2)/\(∃ u v,IsPair h TO u v)/\h.IsListIter i1 a i/\h.IsListIter i2 b i
theorem gf {h:Heap} {a b z TI TO i1 i2:Addr} {i:Nat} {xs ys:Array Value} (n:TI ≠ TO) (m:i1 ≠ i2) (s:zSt a b z TI TO i1 i2 i h) (l1:h.IsList a xs) (l2:h.IsList b ys):ZipApart z TI TO i1 i2 a b:=by
 obtain ⟨h1,h2,⟨u,v,h3⟩,⟨o4,h4,c4,d4⟩,⟨o5,h5,c5,d5⟩⟩:=s
 obtain ⟨o6,h6,c6,n6,d6⟩:=l1
 obtain ⟨o7,h7,c7,n7,d7⟩:=l2
 have kk:∀ {x y:Addr} {o p:Obj},h.get? x=some o->h.get? y=some p->o.cls ≠ p.cls->x ≠ y:=λe1 e2 c q=>by subst q; rw [e1] at e2; cases e2; exact c rfl
 have cz:∀ {s t:String},s ≠ t->Value.type s ≠ Value.type t:=λn q=>n (by cases q; rfl)
 refine ⟨kk h2 h1 (cz (by decide)),kk h3 h1 (cz (by decide)),kk h4 h1 ?_,kk h5 h1 ?_,n,kk h2 h4 ?_,kk h2 h5 ?_,kk h3 h4 ?_,kk h3 h5 ?_,m,kk h6 h1 ?_,kk h6 h3 ?_,kk h6 h4 ?_,kk h6 h5 ?_,kk h7 h1 ?_,kk h7 h3 ?_,kk h7 h4 ?_,kk h7 h5 ?_⟩
 all_goals first | (rw [c4]; exact cz (by decide)) | (rw [c5]; exact cz (by decide)) | (rw [c6]; exact cz (by decide)) | (rw [c7]; exact cz (by decide)) | (rw [c6,c4]; exact cz (by decide)) | (rw [c6,c5]; exact cz (by decide)) | (rw [c7,c4]; exact cz (by decide)) | (rw [c7,c5]; exact cz (by decide))
theorem kN {P:Program} {w:World} {K:PySem.W.Frag} {ts:List Expr} {q:Nat} {tp:Pos} (a b z TI TO i1 i2:Addr) (nT:TI ≠ TO) (nI:i1 ≠ i2) :
   Turn P w K false (.Tuple ts q tp) (Itz K a b) [z,TI,TO,i1,i2] z (zSt a b z TI TO i1 i2) where
 mem:=by simp
 obj:=λi h st c hb=>by
   obtain ⟨h1,h2,⟨u,v,h3⟩,⟨o4,h4,c4,d4⟩,⟨o5,h5,c5,d5⟩⟩:=st
   simp only [List.mem_cons,List.not_mem_nil,or_false] at hb
   rcases hb with rfl | rfl | rfl | rfl | rfl
   · exact ⟨_,h1,λv z=>nomatch z⟩
   · exact ⟨_,h2,λv z=>nomatch z⟩
   · exact ⟨_,h3,λv z=>nomatch z⟩
   · exact ⟨_,h4,λv z=>by rw [d4] at z; cases z⟩
   · exact ⟨_,h5,λv z=>by rw [d5] at z; cases z⟩
 keep:=λi h h' st k=>by
   obtain ⟨h1,h2,⟨u,v,h3⟩,⟨o4,h4,c4,d4⟩,⟨o5,h5,c5,d5⟩⟩:=st
   exact ⟨k z (by simp) _ h1,k TI (by simp) _ h2,⟨u,v,k TO (by simp) _ h3⟩,⟨o4,k i1 (by simp) _ h4,c4,d4⟩,⟨o5,k i2 (by simp) _ h5,c5,d5⟩⟩
 item:=by
   intro X hP hw hK hc i pins s σ H E I hf st hg
   subst hP hw hK
   obtain ⟨xs,ys,x,y,hq1,hq2,hx,hy⟩:=hg
   obtain ⟨its1,rv1,p1,hz1⟩:=I.list hq1
   obtain ⟨its2,rv2,p2,hz2⟩:=I.list hq2
   obtain ⟨u1,hu1,ru1⟩:=rv1.get hx
   obtain ⟨u2,hu2,ru2⟩:=rv2.get hy
   have D:=gf nT nI st p1.isList p2.isList
   obtain ⟨h1,h2,⟨u,v,h3⟩,h4,h5⟩:=st
   refine wpAny_pyNext_zip_item D h1 h2 h3 h4 h5 p1.isList p2.isList (x:=u1) (y:=u2) (by simpa using hu1) (by simpa using hu2) λh' g1 g2 g3 g4 g5 g6 g7=>⟨_,rfl,?_⟩
   refine wpAny_letOwnedTupleGo_zip (s:={ s with heap:=h' }) g1 λh2' k1 k2=>?_
   have hn:H s.heap.objs.size=none:=I.hok.fresh (Nat.le_refl _)
   have le1:z < s.heap.objs.size:=Heap.lt_size h1
   have lt2:TI < s.heap.objs.size:=Heap.lt_size h2
   have lt3:TO < s.heap.objs.size:=Heap.lt_size h3
   have lt4:i1 < s.heap.objs.size:=by obtain ⟨o,z,_⟩:=h4; exact Heap.lt_size z
   have lt5:i2 < s.heap.objs.size:=by obtain ⟨o,z,_⟩:=h5; exact Heap.lt_size z
   have kp:∀ c o,c ≠ z->c ≠ TO->c ≠ i1->c ≠ i2->s.heap.get? c=some o->h2'.get? c=some o:=λc o b1 b2 b3 b4 e=>(k2.2 c b1).trans (g7 c o b1 b2 b3 b4 e)
   have nt:IsPair h2' s.heap.objs.size u1 u2:=(k2.2 _ (Nat.ne_of_gt le1)).trans g5
   have ne:∀ c,c ∈ [z,TI,TO,i1,i2]->∀ d v,H d=some v->d ≠ c:=λc hc d v e q=>by
     have:=(hf c hc).1
     rw [q,this] at e; cases e
   have hok0:HOk X.prog X.w H h2':=λd v e=>(I.hok d v e).cy (λc v' hc' q=>kp c v'
       (by rcases hc' with hc' | hc'
           · rw [hc']; exact ne z (by simp) d v e
           · exact ne z (by simp) c _ hc')
       (by rcases hc' with hc' | hc'
           · rw [hc']; exact ne TO (by simp) d v e
           · exact ne TO (by simp) c _ hc')
       (by rcases hc' with hc' | hc'
           · rw [hc']; exact ne i1 (by simp) d v e
           · exact ne i1 (by simp) c _ hc')
       (by rcases hc' with hc' | hc'
           · rw [hc']; exact ne i2 (by simp) d v e
           · exact ne i2 (by simp) c _ hc') q) (λ_ q=>q) λ_ _ q=>q
   have hok1:HOk X.prog X.w (upd H s.heap.objs.size (.tup [x,y])) h2':=λd v e=>by
     by_cases hb:d=s.heap.objs.size
     · subst hb
       rw [aF] at e; cases e
       exact ⟨(by show 2<=sizeLine; decide),[u1,u2],.cons ru1 (.cons ru2 .nil),_,nt,rfl,_,rfl⟩
     · rw [aq hb] at e
       exact (hok0 d v e).cy (λc v' _ q=>q) (λc q=>by rw [aq (av q hn)]; exact q) λc ys q=>by rw [aq (av q hn)]; exact q
   have I1:Inv X pins σ (upd H s.heap.objs.size (.tup [x,y])) { s with heap:=h2' }:=by
     refine I.step (t':=s.toks) (g':=s.gens) (d':=s.drawn) (ch:=[z,TO,i1,i2]) (λc hb=>?_) (λc o _ _ hc' e _=>kp c o (λq=>hc' (by simp [q])) (λq=>hc' (by simp [q])) (λq=>hc' (by simp [q])) (λq=>hc' (by simp [q])) e)
       (λc o _ _ hc' e _=>⟨o.slots,kp c o (λq=>hc' (by simp [q])) (λq=>hc' (by simp [q])) (λq=>hc' (by simp [q])) (λq=>hc' (by simp [q])) e⟩)
       (λc o hc' e n=>by rw [aq (Nat.ne_of_lt (Heap.lt_size e))]; exact n) (λc o hc' e=>⟨o,kp c o (λq=>hc' (by simp [q])) (λq=>hc' (by simp [q])) (λq=>hc' (by simp [q])) (λq=>hc' (by simp [q])) e⟩)
       (λc ys e=>by rw [aq (av e hn)]; exact e) (λc o u e=>by rw [aq (av e hn)]; exact e) (λc ps e=>⟨#[],by rw [aq (av e hn),e]; simp⟩) (λm hm=>?_) hok1 I.bare
     · have hb':c ∈ [z,TI,TO,i1,i2]:=by
         simp only [List.mem_cons,List.not_mem_nil,or_false] at hb ⊢
         rcases hb with h | h | h | h <;> simp [h]
       have fe:=hf c hb'
       exact ⟨fe.2.2.2.1,fe.2.1,fe.2.2.2.2.1,fe.2.2.2.2.2⟩
     · obtain ⟨o,es,ep,ho,r⟩:=hm
       exact ⟨o,es,ep,kp _ o (Ne.symm (hf z (by simp)).2.1) (Ne.symm (hf TO (by simp)).2.1) (Ne.symm (hf i1 (by simp)).2.1) (Ne.symm (hf i2 (by simp)).2.1) ho,r⟩
   refine ⟨.ref s.heap.objs.size,_,I1,rfl,⟨s.heap.objs.size,x,y,hn,rfl,rfl,λzs hy'=>by rw [I.cH hy' hq1]; exact hx,λzs hy'=>by rw [I.cH hy' hq2]; exact hy⟩,⟨k1,?_,⟨u1,u2,(k2.2 TO D.TOz).trans g2⟩,?_,?_⟩,λc hb=>?_⟩
   · exact kp TI _ D.TIz D.TITO D.TIi1 D.TIi2 h2
   · obtain ⟨o,z1,z2,z3⟩:=g3
     exact ⟨o,(k2.2 i1 D.i1z).trans z1,z2,z3⟩
   · obtain ⟨o,z1,z2,z3⟩:=g4
     exact ⟨o,(k2.2 i2 D.i2z).trans z1,z2,z3⟩
   · have fc:=(hf c hb).1
     have lt:c < s.heap.objs.size:=by
       simp only [List.mem_cons,List.not_mem_nil,or_false] at hb
       rcases hb with rfl | rfl | rfl | rfl | rfl <;> assumption
     rw [aq (Nat.ne_of_lt lt)]
     exact fc
 done:=by
   intro X hP hw hK hc i pins s σ H E I hf st hg
   subst hP hw hK
   obtain ⟨xs,ys,hq1,hq2,hx⟩:=hg
   obtain ⟨its1,rv1,p1,hz1⟩:=I.list hq1
   obtain ⟨its2,rv2,p2,hz2⟩:=I.list hq2
   have D:=gf nT nI st p1.isList p2.isList
   obtain ⟨h1,h2,⟨u,v,h3⟩,h4,h5⟩:=st
   have hl1:=rv1.length
   have hl2:=rv2.length
   refine wpAny_pyNext_zip_end (I.ok.hd hc.calm) D h1 h2 h3 h4 h5 p1.isList p2.isList (by
     rcases hx with hx | hx
     · left; simp; omega
     · right; simp; omega) λh' eb=>⟨rfl,?_⟩
   have ne:∀ c,c ∈ [z,TI,TO,i1,i2]->∀ d v,H d=some v->d ≠ c:=λc hc d v e q=>by
     have:=(hf c hc).1
     rw [q,this] at e; cases e
   have hok0:HOk X.prog X.w H h':=λd v e=>(I.hok d v e).cy (λc v' hc' q=>eb c v'
       (by rcases hc' with hc' | hc'
           · rw [hc']; exact ne z (by simp) d v e
           · exact ne z (by simp) c _ hc')
       (by rcases hc' with hc' | hc'
           · rw [hc']; exact ne TO (by simp) d v e
           · exact ne TO (by simp) c _ hc')
       (by rcases hc' with hc' | hc'
           · rw [hc']; exact ne i1 (by simp) d v e
           · exact ne i1 (by simp) c _ hc')
       (by rcases hc' with hc' | hc'
           · rw [hc']; exact ne i2 (by simp) d v e
           · exact ne i2 (by simp) c _ hc') q) (λ_ q=>q) λ_ _ q=>q
   refine I.step (t':=s.toks) (g':=s.gens) (d':=s.drawn) (ch:=[z,TO,i1,i2]) (λc hb=>?_) (λc o _ _ hc' e _=>eb c o (λq=>hc' (by simp [q])) (λq=>hc' (by simp [q])) (λq=>hc' (by simp [q])) (λq=>hc' (by simp [q])) e)
       (λc o _ _ hc' e _=>⟨o.slots,eb c o (λq=>hc' (by simp [q])) (λq=>hc' (by simp [q])) (λq=>hc' (by simp [q])) (λq=>hc' (by simp [q])) e⟩)
       (λc o hc' e n=>n) (λc o hc' e=>⟨o,eb c o (λq=>hc' (by simp [q])) (λq=>hc' (by simp [q])) (λq=>hc' (by simp [q])) (λq=>hc' (by simp [q])) e⟩)
       (λc ys e=>e) (λc o u e=>e) (λc ps e=>⟨#[],by rw [e]; simp⟩) (λm hm=>?_) hok0 I.bare
   · have hb':c ∈ [z,TI,TO,i1,i2]:=by
       simp only [List.mem_cons,List.not_mem_nil,or_false] at hb ⊢
       rcases hb with h | h | h | h <;> simp [h]
     have fe:=hf c hb'
     exact ⟨fe.2.2.2.1,fe.2.1,fe.2.2.2.2.1,fe.2.2.2.2.2⟩
   · obtain ⟨o,es,ep,ho,r⟩:=hm
     exact ⟨o,es,ep,eb _ o (Ne.symm (hf z (by simp)).2.1) (Ne.symm (hf TO (by simp)).2.1) (Ne.symm (hf i1 (by simp)).2.1) (Ne.symm (hf i2 (by simp)).2.1) ho,r⟩
 self:=λ_ _ _ _ _ st h=>wpAny_pyIter_zip st.1 h
section
variable {X:Cx}
noncomputable def qF (K:PySem.W.Frag) (ta:TA):TI:=λσ H R=>ta σ H λvs H1=>∃ a b,vs=[.ref a,.ref b]/\(∃ xs,SqL K H1 a xs)/\(∃ ys,SqL K H1 b ys)/\R (Itz K a b) H1
theorem mf {ts:List Expr} {q:Nat} {tp:Pos} {a b:Expr} {ta:TA} {p pos:Pos} (hc:X.calm=true) (hg:Gl X "zip") (hm:X.mg "zip" = none) (ha:PA X [a,b] ta) (hs:starEach [a,b] X.env=(false,eval a X.env) :: starEach [b] X.env) (hs2:starEach [b] X.env=[(false,eval b X.env)]) :
   PI X (.Tuple ts q tp) (.Call (.Name "zip" p) [a,b] [] pos) (qF X.K ta):=by
 intro pins s σ H R I h
 refine Call_ (cX I hg hm boot_zip (PyProof.Rows.callWith_type1 (thn (ha pos pins s σ H _ I h) λus s1 ⟨vs,H1,I1,r1,q1⟩=>?_) hs (by rw [hs2]; rfl)))
 obtain ⟨l,l',e,⟨xs,hq1⟩,⟨ys,hq2⟩,q⟩:=q1
 subst e
 obtain ⟨u,u',rfl,ru,ru'⟩:=vals2 r1
 cases ru
 cases ru'
 obtain ⟨its1,rv1,pl1,hz1⟩:=I1.list hq1
 obtain ⟨its2,rv2,pl2,hz2⟩:=I1.list hq2
 refine call_zip_2 pl1.isList pl2.isList λh' g1 g2 g3 g4 g5 g6 g7=>?_
 refine wpAny_pyIter_zip (s:={ s1 with heap:=h' }) g1 ?_
 have I2:Inv X pins σ H1 { s1 with heap:=h' }:=I1.kept (t':=s1.toks) g7
 have nn:∀ j,H1 (s1.heap.objs.size + j)=none:=λj=>I1.hok.fresh (by omega)
 refine ⟨false,s1.heap.objs.size + 4,[s1.heap.objs.size + 4,s1.heap.objs.size + 2,s1.heap.objs.size + 3,s1.heap.objs.size,s1.heap.objs.size + 1],_,_,H1,rfl,I2,.inl hc,kN l l' (s1.heap.objs.size + 4) (s1.heap.objs.size + 2) (s1.heap.objs.size + 3) s1.heap.objs.size (s1.heap.objs.size + 1) (by simp) (Ne.symm (Nat.succ_ne_self _)),⟨g1,g2,⟨_,_,g3⟩,g4,g5⟩,λc hb=>?_,q⟩
 have hb':∃ j,c=s1.heap.objs.size + j:=by
   simp only [List.mem_cons,List.not_mem_nil,or_false] at hb
   rcases hb with h | h | h | h | h
   · exact ⟨_,h⟩
   · exact ⟨_,h⟩
   · exact ⟨_,h⟩
   · exact ⟨0,h⟩
   · exact ⟨_,h⟩
 obtain ⟨j,rfl⟩:=hb'
 exact I1.iW (Nat.le_add_right _ _) (nn j)
end
noncomputable def Itv (K:PySem.W.Frag) (a:Addr) (n:Nat):L2.It:=
 ⟨λi H=>i < n/\∃ xs x,SqL K H a xs/\xs[n - 1 - i]?=some x,λi H x H'=>H'=H/\∀ xs,SqL K H a xs->xs[n - 1 - i]?=some x,λi _=>n<=i⟩
theorem lA {P:Program} {w:World} {K:PySem.W.Frag} {tg:Expr} (a it:Addr) (n:Nat) :
   Turn P w K false tg (Itv K a n) [it] it (λi h=>i<=n/\h.IsRevIter it a ((n:Int) - 1 - (i:Int))) where
 mem:=by simp
 obj:=λi h st b hb=>by
   have e:b=it:=by simpa using hb
   subst e
   obtain ⟨o,e,c,d⟩:=st.2
   exact ⟨o,e,λv z=>by rw [d] at z; cases z⟩
 keep:=λi h h' st k=>⟨st.1,st.2.at λo e=>k it (by simp) o e⟩
 item:=by
   intro X hP hw hK hc i pins s σ H E I hf st hg
   subst hP hw hK
   obtain ⟨hi,xs,x,hq,hx⟩:=hg
   obtain ⟨its,rv,p,hz⟩:=I.list hq
   obtain ⟨u,hu,ru⟩:=rv.get hx
   obtain ⟨f0,f1,f2,f3,f4,f5⟩:=hf it (by simp)
   have st2:=st.2
   rw [show (n:Int) - 1 - (i:Int)=((n - 1 - i:Nat):Int) by omega] at st2
   refine wpAny_pyNext_rev_item st2 p.isList (x:=u) (by simpa using hu) λh' st' sb=>?_
   have I1:Inv X pins σ H { s with heap:=h' }:=I.turned (t':=s.toks) (λb o hb e=>(sb.2 b hb).trans e) f0 f1 f3 f4 f5
   obtain ⟨o,e,c,d⟩:=id st'
   refine ⟨u,rfl,lr (s:={ s with heap:=h' }) e c d (by decide) ⟨x,H,I1,ru,⟨rfl,λys hy=>by rw [I.cH hy hq]; exact hx⟩,⟨hi,?_⟩,λb hb=>(hf b hb).1⟩⟩
   rw [show (n:Int) - 1 - ((i + 1:Nat):Int)=((n - 1 - i:Nat):Int) - 1 by omega]
   exact st'
 done:=by
   intro X hP hw hK hc i pins s σ H E I hf st hg
   subst hP hw hK
   obtain ⟨f0,f1,f2,f3,f4,f5⟩:=hf it (by simp)
   have st2:=st.2
   have hg:n<=i:=hg
   rw [show (n:Int) - 1 - (i:Int)=-1 by have:=st.1; omega] at st2
   exact wpAny_pyNext_rev_end (I.ok.hd hc.calm) st2 λh' eb=>⟨rfl,I.turned (t':=s.toks) (λb o hb e=>eb b o hb e) f0 f1 f3 f4 f5⟩
 self:=λ_ _ _ _ _ st h=>wpAny_pyIter_revIter st.2 h
section
variable {X:Cx} {tg:Expr}
noncomputable def ot (K:PySem.W.Frag) (ta:TA):TI:=λσ H R=>ta σ H λvs H1=>∃ a xs,vs=[.ref a]/\SqL K H1 a xs/\R (Itv K a xs.length) H1
theorem kW:bootBuiltins "reversed" = some (.type "reversed"):=by decide +kernel
theorem ll {a:Expr} {ta:TA} {p pos:Pos} (hc:X.calm=true) (hg:Gl X "reversed") (hm:X.mg "reversed" = none) (ha:PA X [a] ta) (hs:starEach [a] X.env=[(false,eval a X.env)]):PI X tg (.Call (.Name "reversed" p) [a] [] pos) (ot X.K ta):=by
 intro pins s σ H R I h
 refine Call_ (cX I hg hm kW (PyProof.Rows.callWith_type1 (thn (ha pos pins s σ H _ I h) λus s1 ⟨vs,H1,I1,r1,q1⟩=>?_) hs rfl))
 obtain ⟨l,xs,e,hq,q⟩:=q1
 subst e
 obtain ⟨u,rfl,ru⟩:=vals1 r1
 cases ru
 obtain ⟨its,rv,pl,hz⟩:=I1.list hq
 have hl:=rv.length
 refine call_reversed_list pl.isList ?_
 have st:({ s1 with heap:=s1.heap.push (revObj l ((its.toArray.size:Int) - 1)) }:Shared).heap.IsRevIter s1.heap.objs.size l ((its.toArray.size:Int) - 1):=⟨_,Heap.get?_push_size _ rfl,rfl,rfl⟩
 refine wpAny_pyIter_revIter st ?_
 refine ⟨false,s1.heap.objs.size,[s1.heap.objs.size],_,_,H1,rfl,I1.kept (t':=s1.toks) (λb o e=>Heap.get?_push_of_some _ e),.inl hc,lA l _ xs.length,⟨Nat.zero_le _,?_⟩,λb hb=>?_,q⟩
 · rw [show (xs.length:Int) - 1 - ((0:Nat):Int)=(its.toArray.size:Int) - 1 by rw [List.size_toArray,<- hl]; omega]
   exact st
 · have e:b=s1.heap.objs.size:=by simpa using hb
   subst e
   exact I1.iW (Nat.le_refl _) (I1.hok.fresh (Nat.le_refl _))
end
theorem lM:∀ (names:List (Str × NameKind)) (n:Nat) (acc:List (Str × Addr)) (x:Str) (c:Addr),(cellsFrom n names acc).lookup x=some c->n<=c\/acc.lookup x=some c
 | [],_,_,_,_,h=>.inr h
 | (y,k) :: r,n,acc,x,c,h=>by
   unfold cellsFrom at h
   split at h
   · rcases lM r (n + 1) _ x c h with q | q
     · exact .inl (by omega)
     · rw [List.lookup_cons] at q
       split at q
       · cases q; exact .inl (Nat.le_refl _)
       · exact .inr q
   · exact lM r n acc x c h
theorem e8:∀ (names:List (Str × NameKind)) (n:Nat) (acc:List (Str × Addr)) (x:Str),(x,NameKind.cell) ∉ names->(cellsFrom n names acc).lookup x=acc.lookup x
 | [],_,_,_,_=>rfl
 | (y,k) :: r,n,acc,x,h=>by
   have h1:(x,NameKind.cell) ∉ r:=λz=>h (List.mem_cons_of_mem _ z)
   unfold cellsFrom
   split
   · rename_i hk
     rw [e8 r _ _ x h1,List.lookup_cons]
     have:(x == y)=false:=by
       rw [beq_eq_false_iff_ne]
       rintro rfl
       exact h (by rw [eq_of_beq hk]; exact List.mem_cons_self)
     rw [this]
   · exact e8 r n acc x h1
theorem gC:∀ (names:List (Str × NameKind)) (n:Nat) (acc:List (Str × Addr)) (x:Str),(x,NameKind.cell) ∈ names->∃ c,(cellsFrom n names acc).lookup x=some c/\n<=c
 | (y,k) :: r,n,acc,x,h=>by
   unfold cellsFrom
   by_cases hr:(x,NameKind.cell) ∈ r
   · split
     · obtain ⟨c,e,l⟩:=gC r (n + 1) ((y,n) :: acc) x hr
       exact ⟨c,e,by omega⟩
     · exact gC r n acc x hr
   · rcases List.mem_cons.mp h with q | q
     · cases q
       rw [if_pos (by rfl),e8 r _ _ _ hr]
       exact ⟨n,by simp [List.lookup_cons],Nat.le_refl _⟩
     · exact absurd q hr
theorem iU:∀ (names:List (Str × NameKind)) (n:Nat) (acc:List (Str × Addr)),(∀ x c,acc.lookup x=some c->c < n)->(∀ x y c,acc.lookup x=some c->acc.lookup y=some c->x=y) ->
   ∀ x y c,(cellsFrom n names acc).lookup x=some c->(cellsFrom n names acc).lookup y=some c->x=y
 | [],_,_,_,h=>h
 | (z,k) :: r,n,acc,hl,h=>by
   unfold cellsFrom
   split
   · refine iU r (n + 1) _ (λx c e=>?_) (λx y c e1 e2=>?_)
     · rw [List.lookup_cons] at e
       split at e
       · cases e; exact Nat.lt_succ_self _
       · exact Nat.lt_succ_of_lt (hl x c e)
     · rw [List.lookup_cons] at e1 e2
       split at e1
       · rename_i q1
         cases e1
         split at e2
         · rename_i q2
           exact (eq_of_beq q1).trans (eq_of_beq q2).symm
         · exact absurd (hl y _ e2) (Nat.lt_irrefl _)
       · split at e2
         · cases e2
           exact absurd (hl x _ e1) (Nat.lt_irrefl _)
         · exact h x y c e1 e2
   · exact iU r n acc hl h
theorem gU:∀ (names:List (Str × NameKind)) (h:Heap) (acc:List (Str × Addr)),(∀ x c,acc.lookup x=some c->∃ v,h.IsCell c v)->∀ x c,(cellsFrom h.objs.size names acc).lookup x=some c->∃ v,(pushCells h names).IsCell c v
 | [],_,_,ha,x,c,e=>ha x c e
 | (z,k) :: r,h,acc,ha,x,c,e=>by
   unfold cellsFrom at e
   unfold pushCells
   split at e
   · rename_i hk
     rw [if_pos hk]
     refine gU r _ ((z,h.objs.size) :: acc) (λy d q=>?_) x c (by rw [Heap.size_push]; exact e)
     rw [List.lookup_cons] at q
     split at q
     · cases q
       exact ⟨none,_,Heap.get?_push_size _ rfl,rfl⟩
     · obtain ⟨v,o,ho,hd⟩:=ha y d q
       exact ⟨v,o,Heap.get?_push_of_some _ ho,hd⟩
   · rename_i hk
     rw [if_neg hk]
     exact gU r h acc ha x c e
noncomputable def bC (env:PySem.Env):List (Str × NameKind)->List (Str × Addr)->List (Str × Addr)
 | [],acc=>acc
 | (n,k) :: r,acc=>if k == .free then (match env.cells.lookup n with | some c=>bC env r ((n,c) :: acc) | none=>bC env r acc) else bC env r acc
theorem eW (env:PySem.Env):∀ (names:List (Str × NameKind)) (acc:List (Str × Addr)),(∀ x ∈ names,x.2=.free->∃ c,env.cells.lookup x.1=some c) ->
   (forIn (m:=Sem) names acc λx cs=>do
     let (name,kind):=x
     if kind == .free then do
       let c <- cellOf env name
       pure (ForInStep.yield ((name,c) :: cs))
     else pure (ForInStep.yield cs))=pure (bC env names acc)
 | [],acc,_=>rfl
 | (n,k) :: r,acc,h=>by
   rw [List.forIn_cons]
   unfold bC
   by_cases hk:(k == .free)=true
   · obtain ⟨c,hc⟩:=h (n,k) List.mem_cons_self (eq_of_beq hk)
     simp only [hk,if_true,cellOf,hc,pure_bind]
     exact eW env r _ λx hx=>h x (List.mem_cons_of_mem _ hx)
   · simp only [hk,Bool.false_eq_true,if_false,pure_bind]
     exact eW env r _ λx hx=>h x (List.mem_cons_of_mem _ hx)
theorem jT {env:PySem.Env} {scope:Scope} (h:∀ x ∈ scope.names,x.2=.free->∃ c,env.cells.lookup x.1=some c):closureFor scope env=pure (bC env scope.names []):=by
 unfold closureFor
 have:=eW env scope.names [] h
 simp only [bind_pure]
 exact this
theorem cf (env:PySem.Env):∀ (names:List (Str × NameKind)) (acc:List (Str × Addr)) (x:Str) (c:Addr),(∀ y d,acc.lookup y=some d->env.cells.lookup y=some d)->(bC env names acc).lookup x=some c->env.cells.lookup x=some c
 | [],_,x,c,ha,h=>ha x c h
 | (n,k) :: r,acc,x,c,ha,h=>by
   unfold bC at h
   split at h
   · split at h
     · rename_i c' hc
       refine cf env r _ x c (λy d q=>?_) h
       rw [List.lookup_cons] at q
       split at q
       · rename_i qq
         cases q
         rw [eq_of_beq qq]; exact hc
       · exact ha y d q
     · exact cf env r acc x c ha h
   · exact cf env r acc x c ha h
theorem bK (env:PySem.Env):∀ (names:List (Str × NameKind)) (acc:List (Str × Addr)) (x:Str) (c:Addr),(∀ y d,acc.lookup y=some d->env.cells.lookup y=some d)->env.cells.lookup x=some c->((x,NameKind.free) ∈ names\/acc.lookup x=some c)->(bC env names acc).lookup x=some c
 | [],_,x,c,_,_,h=>h.elim (λz=>absurd z (by simp)) id
 | (n,k) :: r,acc,x,c,ha,hc,h=>by
   unfold bC
   split
   · split
     · rename_i c' hc'
       refine bK env r _ x c (λy d q=>?_) hc ?_
       · rw [List.lookup_cons] at q
         split at q
         · rename_i qq
           cases q
           rw [eq_of_beq qq]; exact hc'
         · exact ha y d q
       · by_cases q:x=n
         · subst q
           rw [hc] at hc'; cases hc'
           exact .inr (by simp [List.lookup_cons])
         · rcases h with h | h
           · rcases List.mem_cons.mp h with z | z
             · cases z; exact absurd rfl q
             · exact .inl z
           · refine .inr ?_
             rw [List.lookup_cons,beq_eq_false_iff_ne.mpr q]
             exact h
     · rename_i hc'
       refine bK env r acc x c ha hc ?_
       rcases h with h | h
       · rcases List.mem_cons.mp h with z | z
         · cases z; rw [hc] at hc'; cases hc'
         · exact .inl z
       · exact .inr h
   · rename_i hk
     refine bK env r acc x c ha hc ?_
     rcases h with h | h
     · rcases List.mem_cons.mp h with z | z
       · cases z; exact absurd rfl hk
       · exact .inl z
     · exact .inr h
theorem gn {M:Model} {A:Around} {E:Value->Shared->Prop} {s:Shared} {scope:Scope} {cl:List (Str × Addr)} {env:PySem.Env} {Q:PySem.Env->Shared->Prop}
   (h:Q (newEnv scope s.heap.objs.size env.globals (cellsFrom (s.heap.objs.size + 1) scope.names cl) env.qual none .none (some env) builtinsNs) { s with heap:=pushCells (s.heap.push { cls:=.type "dict",data:=.dict #[] }) scope.names }) :
   wpAny M A (newFunctionEnv scope env.globals cl [] env.qual none .none (some env)) Q E s:=by
 simp only [newFunctionEnv,Option.isSome_some,if_true]
 refine wpAny_bind (wpAny_alloc ?_)
 refine wpAny_bind (wpAny_layCells _ (λname kind cells=>by cases hkc:kind == NameKind.cell <;> simp [hkc]) _ _ _ _ ?_)
 rw [show ({ s with heap:=s.heap.push { cls:=.type "dict",data:=.dict #[] } }:Shared).heap.objs.size=s.heap.objs.size + 1 from Heap.size_push ..]
 exact wpAny_bind (wpAny_pure (wpAny_pure h))
noncomputable def az (X:Cx) (s:Shared) (H:Hp) (scope:Scope) (N:List Str) (fp:List Addr):Cx:=
 { prog:=X.prog,w:=X.w,K:=X.K,mg:=X.mg,base:=X.base,A:=X.A,N:=N,s₀:=s,H₀:=H
   env:=compEnvC scope (cellsFrom (s.heap.objs.size + 1 + 1) scope.names (bC X.env scope.names [])) (s.heap.objs.size + 1) X.env
   outer:=X.stack,stack:=X.stack,ex:=fp,fn:=λx=>decide ((x,NameKind.cell) ∈ scope.names),calm:=X.calm,pn:=[],xe:=λ_ _=>False }
noncomputable def dW (σ:L2.St) (caps:List (Option Nat)):L2.St:=caps.map λo=>o.bind λi=>(σ[i]?).join
structure cE (X:Cx) (scope:Scope) (N:List Str) (caps:List (Option Nat)):Prop where
 kind:scope.kind=.function
 loc:∀ x ∈ scope.names,x.2=.local->scope.names.lookup x.1=some .local
 fre:∀ x ∈ scope.names,x.2=.free->X.env.kindOf x.1=some .cell
 one:∀ x,(x,NameKind.free) ∈ scope.names->(x,NameKind.cell) ∉ scope.names
 noboth:∀ x,(x,NameKind.free) ∈ scope.names->(x,NameKind.local) ∉ scope.names
 len:N.length=caps.length + 1
 cap:∀ (j i:Nat),caps[j]?=some (some i)->∃ x,N[j]?=some x/\X.N[i]?=some x/\(x,NameKind.free) ∈ scope.names
 acc:∃ z,N[caps.length]?=some z/\¬ Vis (relabel scope X.env) z
section
variable {X:Cx} {pins:List (Addr × Obj)} {σ:L2.St} {H:Hp} {s:Shared} {scope:Scope} {N:List Str} {caps:List (Option Nat)} {fp:List Addr}
theorem cj {env:PySem.Env} {x:Str} {names:List (Str × NameKind)} (h:∀ y,(y,NameKind.free) ∈ names->env.kindOf y=some .cell) (hk:env.scope.kind=.function) {k:NameKind}
   (e:(names.map λ(n,k)=>if (k == NameKind.free && env.scope.kind == .function && env.kindOf n == some .cell) then (n,NameKind.cell) else (n,k)).lookup x=some k) :
   (x,k) ∈ names\/((x,NameKind.free) ∈ names/\k=.cell):=by
 induction names with
 | nil=>cases e
 | cons p r ih=>
   obtain ⟨n,q⟩:=p
   rw [List.map_cons] at e
   have hr:∀ y,(y,NameKind.free) ∈ r->env.kindOf y=some .cell:=λy hy=>h y (List.mem_cons_of_mem _ hy)
   have sub:((x,k) ∈ r\/((x,NameKind.free) ∈ r/\k=.cell))->(x,k) ∈ (n,q) :: r\/((x,NameKind.free) ∈ (n,q) :: r/\k=.cell):=λz=>
     z.elim (λy=>.inl (List.mem_cons_of_mem _ y)) λy=>.inr ⟨List.mem_cons_of_mem _ y.1,y.2⟩
   dsimp only at e
   split at e
   · rename_i c
     rw [List.lookup_cons] at e
     split at e
     · rename_i qq
       cases e
       rw [Bool.and_eq_true,Bool.and_eq_true] at c
       rw [eq_of_beq qq,eq_of_beq c.1.1]
       exact .inr ⟨List.mem_cons_self,rfl⟩
     · exact sub (ih hr e)
   · rename_i c
     rw [List.lookup_cons] at e
     split at e
     · rename_i qq
       cases e
       rw [eq_of_beq qq]
       exact .inl List.mem_cons_self
     · exact sub (ih hr e)
theorem cW (I:Inv X pins σ H s) (c:cE X scope N caps):∀ x ∈ scope.names,x.2=.free->∃ d,X.env.cells.lookup x.1=some d:=λx hx hf=>I.ok.has x.1 (.inl (c.fre x hx hf))
theorem hZ (I:Inv X pins σ H s) (hf:∀ b ∈ fp,fT X pins H b) (ho:∀ b ∈ fp,∃ o,s.heap.get? b=some o) (c:cE X scope N caps) :
   Inv (az X s H scope N fp) [] (dW σ caps++[some (.ref s.heap.objs.size)]) (upd H s.heap.objs.size (.lst []))
     { s with heap:=pushCells ((s.heap.push { cls:=.type "list",data:=.seq ([]:List Value).toArray }).push { cls:=.type "dict",data:=.dict #[] }) scope.names }:=by
 have hcl:∀ x d,(bC X.env scope.names []).lookup x=some d->X.env.cells.lookup x=some d:=λx d=>cf X.env scope.names [] x d (λy d z=>by simp at z)
 have kp:∀ b o,s.heap.get? b=some o->(pushCells ((s.heap.push { cls:=.type "list",data:=.seq ([]:List Value).toArray }).push { cls:=.type "dict",data:=.dict #[] }) scope.names).get? b=some o:=λb o e=>
   pushCells_keeps _ _ b o (Heap.get?_push_of_some _ (Heap.get?_push_of_some _ e))
 have sz2:((s.heap.push { cls:=.type "list",data:=.seq ([]:List Value).toArray }).push { cls:=.type "dict",data:=.dict #[] }).objs.size=s.heap.objs.size + 1 + 1:=by rw [Heap.size_push,Heap.size_push]
 have oldc:∀ x d,X.env.cells.lookup x=some d->d < s.heap.objs.size:=λx d e=>by
   obtain ⟨v,o,q,_⟩:=I.cell x d e
   exact Heap.lt_size q
 have cel:∀ x d,(az X s H scope N fp).env.cells.lookup x=some d->s.heap.objs.size + 1 + 1<=d\/X.env.cells.lookup x=some d:=λx d e=>by
   rcases lM _ _ _ x d e with q | q
   · exact .inl q
   · exact .inr (hcl x d q)
 have ok:(az X s H scope N fp).Ok:=by
   refine ⟨I.ok.mod,c.kind,I.ok.glob,I.ok.blt,Nat.le_succ _,?_,?_,?_,I.ok.hd,I.ok.frames,.inl rfl,?_,I.bs,Nat.le_trans I.ok.bsz I.sz,?_,?_,I.stack,I.dr⟩
   · exact iU _ _ _ (λx d e=>Nat.lt_of_lt_of_le (oldc x d (hcl x d e)) (by omega)) λx y d e1 e2=>I.ok.inj x y d (hcl x d e1) (hcl y d e2)
   · intro x hx
     have hfk:∀ y,(y,NameKind.free) ∈ scope.names->X.env.kindOf y=some .cell:=λy hy=>c.fre _ hy rfl
     have fre:(x,NameKind.free) ∈ scope.names->∃ d,(az X s H scope N fp).env.cells.lookup x=some d:=λhm=>by
       obtain ⟨d,hd⟩:=cW I c _ hm rfl
       exact ⟨d,by
         show (cellsFrom _ scope.names _).lookup x=_
         rw [e8 _ _ _ x (c.one x hm)]
         exact bK X.env scope.names [] x d (λy e z=>by simp at z) hd (.inl hm)⟩
     have own:(x,NameKind.cell) ∈ scope.names->∃ d,(az X s H scope N fp).env.cells.lookup x=some d:=λhm=>by
       obtain ⟨d,e,_⟩:=gC scope.names (s.heap.objs.size + 1 + 1) (bC X.env scope.names []) x hm
       exact ⟨d,e⟩
     rcases hx with hx | hx
     · rcases cj hfk I.ok.kind (show (scope.names.map _).lookup x=some .cell from hx) with q | q
       · exact own q
       · exact fre q.1
     · rcases cj hfk I.ok.kind (show (scope.names.map _).lookup x=some .free from hx) with q | q
       · exact fre q
       · exact fre q.1
   · intro x d hfn e
     have hm:(x,NameKind.cell) ∈ scope.names:=of_decide_eq_true hfn
     obtain ⟨d',e',l⟩:=gC scope.names (s.heap.objs.size + 1 + 1) (bC X.env scope.names []) x hm
     have e2:(cellsFrom (s.heap.objs.size + 1 + 1) scope.names (bC X.env scope.names [])).lookup x=some d:=e
     rw [e'] at e2; cases e2
     exact Nat.le_trans (Nat.le_trans (Nat.le_succ _) (Nat.le_succ _)) l
   · intro b hb
     obtain ⟨o,q⟩:=ho b hb
     have bl:=Heap.lt_size q
     refine ⟨λz=>?_,λx d e z=>?_⟩
     · have z':b=s.heap.objs.size + 1:=z
       rw [z'] at bl
       exact absurd bl (Nat.not_lt.mpr (Nat.le_succ _))
     · subst z
       rcases cel x d e with q | q
       · exact absurd (Nat.lt_of_lt_of_le bl (Nat.le_trans (Nat.le_trans (Nat.le_succ _) (Nat.le_succ _)) q)) (Nat.lt_irrefl _)
       · exact (hf d hb).2.2.2.2.1 x d q rfl
   · intro b o e hb
     rcases (hf b hb).2.2.2.1 with q | q
     · exact I.ok.noex b o e q
     · have:=Nat.lt_of_lt_of_le (Heap.lt_size e) I.ok.bsz
       exact absurd (Nat.lt_of_lt_of_le this q) (Nat.lt_irrefl _)
   · intro b hb hm
     rcases List.mem_cons.mp (I.eX b hm) with q | q
     · exact (hf b hb).2.1 q
     · exact (hf b hb).2.2.1 q
 have hD:(pushCells ((s.heap.push { cls:=.type "list",data:=.seq ([]:List Value).toArray }).push { cls:=.type "dict",data:=.dict #[] }) scope.names).get? s.heap.objs.size=some { cls:=.type "list",data:=.seq ([]:List Value).toArray }:=
   pushCells_keeps _ _ _ _ (Heap.get?_push_of_some _ (Heap.get?_push_size _ rfl))
 have fr:∀ a,s.heap.objs.size<=a->a ≠ s.heap.objs.size->(upd H s.heap.objs.size (.lst [])) a=none:=λa h1 h2=>by rw [aq h2]; exact I.hok.fresh h1
 refine ⟨ok,rfl,I.bare,Un.laid kp (Nat.le_refl _) (I.hok.fresh (Nat.le_refl _)),⟨λ_=>none,?_,λi x v e1 e2 e3=>?_⟩,λx d e=>?_,?_,λx d e=>?_,λp hp=>absurd (show p ∈ ([]:List (Addr × Obj)) from hp) (by simp),?_,?_⟩
 · have:=Heap.Ns.new (s.heap.push { cls:=.type "list",data:=.seq ([]:List Value).toArray }) (.type "dict")
   rw [Heap.size_push] at this
   exact this.keeps (pushCells_keeps _ _)
 · by_cases hi:i < caps.length
   · rw [List.getElem?_append_left (by unfold dW; rw [List.length_map]; exact hi)] at e2
     unfold dW at e2
     rw [List.getElem?_map] at e2
     cases hc:caps[i]? with
     | none=>rw [hc] at e2; cases e2
     | some o=>
       rw [hc] at e2
       cases o with
       | none=>cases e2
       | some j=>
         have e2':(σ[j]?).join=some v:=Option.some.inj e2
         have e4:σ[j]?=some (some v):=by
           cases q:σ[j]? with
           | none=>rw [q] at e2'; cases e2'
           | some y=>rw [q] at e2'; exact congrArg some e2'
         obtain ⟨x',g1,g2,g3⟩:=c.cap i j hc
         rw [show (az X s H scope N fp).N=N from rfl,g1] at e1
         cases e1
         have hkc:=c.fre _ g3 rfl
         obtain ⟨m,_,hl⟩:=I.loc
         obtain ⟨u,ru,look⟩:=hl j x v g2 e4 (.inr (.inl hkc))
         refine ⟨u,ru,?_⟩
         rcases look with ⟨k,_⟩ | ⟨k,d,hd,hcell⟩
         · rw [hkc] at k; cases k
         · have e5:(az X s H scope N fp).env.cells.lookup x=some d:=by
             show (cellsFrom _ scope.names _).lookup x=_
             rw [e8 _ _ _ x (c.one x g3)]
             exact bK X.env scope.names [] x d (λy e z=>by simp at z) hd (.inl g3)
           have hcell':Heap.IsCell (pushCells ((s.heap.push { cls:=.type "list",data:=.seq ([]:List Value).toArray }).push { cls:=.type "dict",data:=.dict #[] }) scope.names) d (some u):=by
             obtain ⟨o,q1,q2⟩:=hcell
             exact ⟨o,kp _ _ q1,q2⟩
           refine .inr ⟨?_,d,e5,hcell'⟩
           rcases e3 with e3 | e3 | e3
           · exfalso
             rcases cj (λy hy=>c.fre _ hy rfl) I.ok.kind (show (scope.names.map _).lookup x=some .local from e3) with q | q
             · have q1:=c.loc _ q rfl
               exact c.noboth x g3 q
             · cases q.2
           · exact .inl e3
           · exact .inr e3
   · exfalso
     obtain ⟨z,z1,z2⟩:=c.acc
     have hl:i < N.length:=(List.getElem?_eq_some_iff.mp e1).1
     have:i=caps.length:=by have:=c.len; omega
     subst this
     rw [show (az X s H scope N fp).N=N from rfl,z1] at e1
     cases e1
     exact z2 e3
 · rw [show (az X s H scope N fp).env.cells=cellsFrom (s.heap.objs.size + 1 + 1) scope.names (bC X.env scope.names []) from rfl,<- sz2] at e
   refine gU scope.names _ _ (λy d' q=>?_) x d e
   obtain ⟨v,o,q1,q2⟩:=I.cell y d' (hcl y d' q)
   exact ⟨v,o,Heap.get?_push_of_some _ (Heap.get?_push_of_some _ q1),q2⟩
 · exact fr _ (Nat.le_succ _) (Nat.succ_ne_self _)
 · rcases cel x d e with q | q
   · exact fr d (by omega) (by intro z; omega)
   · rw [aq (Nat.ne_of_lt (oldc x d q))]; exact I.freeC x d q
 · exact I.hok.laid kp (Nat.le_refl _) ⟨Nat.zero_le _,[],0,.nil,hD⟩
 · rw [List.length_append]
   unfold dW
   rw [List.length_map,show (az X s H scope N fp).N=N from rfl,c.len]
   rfl
end
noncomputable def PTs (X:Cx) (ifs:List Expr) (t:TT):Prop:=
 ∀ (pins:List (Addr × Obj)) (s:Shared) (σ:L2.St) (H:Hp) (Q:Bool->Hp->Prop),Inv X pins σ H s->t σ H Q ->
   wpAny (model X.prog X.w) X.A (forIn ifs true λc r=>if r=true then do let ok <- isTrue c X.env (eval c X.env); pure (ForInStep.yield ok) else pure (ForInStep.yield r)) (TP X pins σ Q) X.xe s
section
variable {prog:Program} {w:World} {A:Around} {R:Result->Shared->Prop} {s:Shared}
theorem eQ {elt target iter:Expr} {ifs:List Expr} {scope:Scope} {pos:Pos} {it acc:Value} {env:PySem.Env} (Iv:Nat->Shared->Prop)
   (step:∀ n s,Iv n s->wpAny (model prog w) A (pyNext it) (λr s₁=>match r with
     | none=>R (.ok .next) s₁
     | some v=>wpAny (model prog w) A (letOwnedTupleGo target it v) (λ_ s₀=>wpAny (model prog w) A (assign target env v) (λ_ s₂=>
         wpAny (model prog w) A (forIn ifs true λc r=>if r=true then do let ok <- isTrue c env (eval c env); pure (ForInStep.yield ok) else pure (ForInStep.yield r)) (λok s₃=>
           if ok=true then wpAny (model prog w) A (eval elt env) (λx s₄=>
             wpAny (model prog w) A (call (.builtin "list.append") [acc,x]) (λ_ s₅=>∃ m,m < n/\Iv m s₅) (λ_ _=>False) s₄) (λ_ _=>False) s₃
           else ∃ m,m < n/\Iv m s₃) (λ_ _=>False) s₂) (λ_ _=>False) s₀) (λ_ _=>False) s₁) (λ_ _=>False) s)
   (n:Nat) (h:Iv n s):codeAny (model prog w) A (.compLoop (.ListComp elt [⟨target,iter,ifs,0⟩] scope pos) 0 it acc env) R s:=by
 have no:∀ {α:Type} {t:Sem α} {Q:α->Shared->Prop} {s:Shared} {E:Value->Shared->Prop},wpAny (model prog w) A t Q (λ_ _=>False) s->wpAny (model prog w) A t Q E s:=λh=>wpAny_mono h (λ_ _ q=>q) λ_ _ q=>q.elim
 refine codeAny_loop rfl Iv (λn s hI=>?_) n h
 show wpAny _ A (Sem.onRaise (compTurn (.ListComp elt [⟨target,iter,ifs,0⟩] scope pos) 0 it acc env) (λx=>do noteFrame x env; theTreesLotGoes x)) _ _ s
 refine wpAny_noted ?_
 rw [compTurn_list]
 refine wpAny_bind (wpAny_standAt (wpAny_bind (thn (no (step n s hI)) λr s₁ h₁=>?_)))
 cases r with
 | none=>exact wpAny_pure h₁
 | some v=>
   refine wpAny_bind (thn (no h₁) λ_ s₀ h₀=>wpAny_bind (thn (no h₀) λ_ s₂ h₂=>wpAny_bind (thn (no h₂) λok s₃ h₃=>?_)))
   cases ok with
   | false=>exact wpAny_pure ⟨rfl,h₃⟩
   | true=>exact wpAny_bind (wpAny_bind (thn (no h₃) λx s₄ h₄=>wpAny_bind (thn (no h₄) λ_ s₅ h₅=>wpAny_pure (wpAny_pure ⟨rfl,h₅⟩))))
end
theorem jo {X:Cx} {kd:Bool} {pins:List (Addr × Obj)} {σ:L2.St} {H:Hp} {s:Shared} {scope:Scope} {N:List Str} {fp:List Addr} (h:Ck kd X) (I:Inv X pins σ H s):Ck kd (az X s H scope N fp):=by
 rcases h with h | ⟨hk,q,o,u,vs,e1,e2,e3,e4⟩
 · exact .inl h
 · exact .inr ⟨hk,q,o,u,vs,e1,I.base.frzs q o u e2,e3,e4⟩
noncomputable def cS (In:TG->TT->TE->Prop) (caps:List (Option Nat)) (wi:TI):TE:=λσ H Q=>wi σ H λJ H1=>∃ g tt te,In g tt te/\∀ D,H1 D=none ->
 ∃ Z:Nat->Nat->L2.St->Hp->Prop,(∃ m,Z 0 m (dW σ caps++[some (.ref D)]) (upd H1 D (.lst [])))/\∀ i m σ' H',Z i m σ' H' ->
   (J.stop i H'/\Q (.ref D) H')\/(J.go i H'/\∀ x H2,J.yld i H' x H2->g x σ' H2 λσ2 H3=>tt σ2 H3 λb H4=>
     if b=true then te σ2 H4 λv H5=>∃ vs m',H5 D=some (.lst vs)/\vs.length < sizeLine/\m' < m/\Z (i + 1) m' σ2 (upd H5 D (.lst (vs++[v]))) else ∃ m',m' < m/\Z (i + 1) m' σ2 H4)
theorem cn {X:Cx} {elt tg iter:Expr} {ifs:List Expr} {scope:Scope} {N:List Str} {caps:List (Option Nat)} {pos:Pos} {wi:TI} {In:TG->TT->TE->Prop} (c:cE X scope N caps) (hi:PI X tg iter wi)
   (hs:∀ x,foldedSetIterable iter X.env x=pure x)
   (hin:∀ g tt te,In g tt te->∀ s H fp,PG (az X s H scope N fp) tg g/\PTs (az X s H scope N fp) ifs tt/\PE (az X s H scope N fp) elt te) :
   PE X (.ListComp elt [⟨tg,iter,ifs,0⟩] scope pos) (cS In caps wi):=by
 intro pins s σ H Q I h
 rw [eval_ListComp]
 have hcl:=jT (cW I c)
 refine wpAny_comprehension_free (use:=none) (g:=⟨tg,iter,ifs,0⟩) (gs:=[]) rfl hs hcl c.kind c.loc ?_
 show wpAny _ _ (eval iter X.env) _ _ s
 refine thn (hi pins s σ H _ I h) λv s1 h1=>thn h1 λitv s2 h2=>?_
 obtain ⟨kd,it,fp,tn,J,H2,e,I2,hck,T,st2,f2,g,tt,te,hI,q⟩:=h2
 have hc:=jo (scope:=scope) (N:=N) (fp:=fp) hck I2
 subst e
 obtain ⟨Z,⟨m0,z0⟩,turn⟩:=q s2.heap.objs.size (I2.hok.fresh (Nat.le_refl _))
 have ho:∀ b ∈ fp,∃ o,s2.heap.get? b=some o:=λb hb=>let ⟨o,e,_⟩:=T.obj _ _ st2 b hb; ⟨o,e⟩
 have I4:=hZ (scope:=scope) (N:=N) (caps:=caps) I2 f2 ho c
 obtain ⟨hg,ht,he⟩:=hin g tt te hI s2 H2 fp
 refine wpAny_newObj_type (gn ?_) (by show 0<=sizeLine; decide)
 have hC:(s2.heap.push { cls:=.type "list",dict:=none,data:=.seq ([]:List Value).toArray }).objs.size=s2.heap.objs.size + 1:=Heap.size_push ..
 dsimp only
 rw [hC]
 have kp:∀ b o,s2.heap.get? b=some o->(pushCells ((s2.heap.push { cls:=.type "list",data:=.seq ([]:List Value).toArray }).push { cls:=.type "dict",data:=.dict #[] }) scope.names).get? b=some o:=λb o e=>
   pushCells_keeps _ _ b o (Heap.get?_push_of_some _ (Heap.get?_push_of_some _ e))
 have st4:tn 0 (pushCells ((s2.heap.push { cls:=.type "list",data:=.seq ([]:List Value).toArray }).push { cls:=.type "dict",data:=.dict #[] }) scope.names):=T.keep _ _ _ st2 λb _ o e=>kp b o e
 have stat:∀ {H':Hp},(∀ b ∈ fp,H' b=none)->∀ b ∈ fp,fT (az X s2 H2 scope N fp) [] H' b:=λhn b hb=>
   ⟨hn b hb,(I4.ok.exf b hb).1,I4.ok.exfs b hb,.inl hb,(I4.ok.exf b hb).2,λp hp=>absurd (show p ∈ ([]:List (Addr × Obj)) from hp) (by simp)⟩
 have fr4:∀ b ∈ fp,(upd H2 s2.heap.objs.size (.lst [])) b=none:=λb hb=>by
   obtain ⟨o,e⟩:=ho b hb
   rw [aq (Nat.ne_of_lt (Heap.lt_size e))]; exact (f2 b hb).1
 have loop:codeAny (model X.prog X.w) X.A (.compLoop (.ListComp elt [⟨tg,iter,ifs,0⟩] scope pos) 0 (.ref it) (.ref s2.heap.objs.size) (az X s2 H2 scope N fp).env)
     (compPost (model X.prog X.w) X.A X.xe none (EP X pins σ Q) (.ref s2.heap.objs.size) (s2.heap.objs.size + 1))
     { s2 with heap:=pushCells ((s2.heap.push { cls:=.type "list",data:=.seq ([]:List Value).toArray }).push { cls:=.type "dict",data:=.dict #[] }) scope.names }:=by
   refine eQ (λn s'=>∃ i σ' H',Inv (az X s2 H2 scope N fp) [] σ' H' s'/\tn i s'.heap/\(∀ b ∈ fp,H' b=none)/\Z i n σ' H') ?_ m0 ⟨0,_,_,I4,st4,fr4,z0⟩
   rintro n s3 ⟨i,σ3,H3,I3,st3,fr3,w3⟩
   rcases turn i n σ3 H3 w3 with ⟨stop,qn⟩ | ⟨go,step⟩
   · refine thn (T.done (az X s2 H2 scope N fp) rfl rfl rfl hc i [] s3 σ3 H3 _ I3 (stat fr3) st3 stop) λr s5 ⟨hr,I5⟩=>?_
     subst hr
     obtain ⟨m,hn,_⟩:=id I5.loc
     refine ⟨m,hn,λh' sb=>⟨.ref s2.heap.objs.size,H3,?_,rfl,qn⟩⟩
     have lt:∀ b o,s2.heap.get? b=some o->b ≠ s2.heap.objs.size + 1:=λb o e=>Nat.ne_of_lt (Nat.lt_succ_of_lt (Heap.lt_size e))
     have u:=I5.base
     have u':Un (frs X.stack) fp H2 H3 s2.heap h':=⟨λb o e n1 n2 n3=>(sb.2 b (lt b o e)).trans (u.keep b o e n1 n2 n3),λb o e n1 n2 n3=>let ⟨sl,z⟩:=u.slot b o e n1 n2 n3; ⟨sl,(sb.2 b (lt b o e)).trans z⟩,
       u.free,λb o e n1=>let ⟨o',z⟩:=u.there b o e n1; ⟨o',(sb.2 b (lt b o e)).trans z⟩,u.tups,u.frzs,u.tbls⟩
     have fC:H3 (s2.heap.objs.size + 1)=none:=I5.free
     refine I2.gr (s':={ s5 with heap:=h' }) I5.os u' (λb o e=>(I5.hok b o e).cy (λd v hd z=>(sb.2 d ?_).trans z) (λ_ z=>z) λ_ _ z=>z) I5.bare λb hb=>⟨(f2 b hb).2.2.2.1,(f2 b hb).2.1,(f2 b hb).2.2.2.2.1,(f2 b hb).2.2.2.2.2⟩
     rcases hd with hd | hd
     · rw [hd]; exact av e fC
     · exact av hd fC
   · refine thn (T.item (az X s2 H2 scope N fp) rfl rfl rfl hc i [] s3 σ3 H3 _ I3 (stat fr3) st3 go) λr s4 ⟨u,hr,h4⟩=>?_
     subst hr
     refine thn h4 λ_ s5 ⟨x,H5,I5,r5,y5,st5,fr5⟩=>?_
     have I5':=I5.pinned (stat fr5) (T.obj _ _ st5)
     refine thn (hg _ s5 σ3 H5 x u _ I5' r5 (step x H5 y5)) λ_ s6 ⟨σ6,H6,I6,q6⟩=>?_
     have again:∀ {s7:Shared} {σ7:L2.St} {H7:Hp} {m':Nat},Inv (az X s2 H2 scope N fp) ([]++da fp s5.heap) σ7 H7 s7->m' < n->Z (i + 1) m' σ7 H7 ->
         ∃ m,m < n/\∃ i σ' H',Inv (az X s2 H2 scope N fp) [] σ' H' s7/\tn i s7.heap/\(∀ b ∈ fp,H' b=none)/\Z i m σ' H':=λ{s7 σ7 H7 m'} I7 hm z7=>by
       refine ⟨m',hm,i + 1,σ7,H7,I7.bZ,T.keep _ _ _ st5 λb hb o e=>(I7.pin (b,o) (List.mem_append_right _ (List.mem_append_right _ (bh hb e)))).1,λb hb=>?_,z7⟩
       obtain ⟨o,e,d⟩:=T.obj _ _ st5 b hb
       exact (I7.pin (b,o) (List.mem_append_right _ (List.mem_append_right _ (bh hb e)))).2.1
     refine thn (ht _ s6 σ6 H6 _ I6 q6) λok s7 ⟨H7,I7,q7⟩=>?_
     cases ok with
     | false=>
       rw [if_neg (by decide)] at q7
       obtain ⟨m',hm,z7⟩:=q7
       exact again I7 hm z7
     | true=>
       rw [if_pos rfl] at q7
       refine thn (he _ s7 σ6 H7 _ I7 q7) λv' s8 ⟨v,H8,I8,r8,vs,m',q8,l8,hm,z8⟩=>?_
       refine thn (dJ (X:=az X s2 H2 scope N fp) _ s8 σ6 H8 (.ref s2.heap.objs.size) [v] (.ref s2.heap.objs.size) [v'] (λ_ H9=>H9=upd H8 s2.heap.objs.size (.lst (vs++[v]))) I8 rfl (.cons r8 .nil) ⟨_,vs,v,rfl,rfl,q8,l8,rfl⟩) λ_ s9 ⟨_,H9,I9,_,e9⟩=>?_
       subst e9
       exact again I9 hm z8
 exact codeAny_compStart_list loop (T.self _ 0 _ _ _ st4 loop)
theorem hU {X:Cx} {gT:TG} {y:Str} {py spos:Pos} {elt tg iter:Expr} {ifs:List Expr} {scope:Scope} {N:List Str} {caps:List (Option Nat)} {pos:Pos} {wi:TI} {In:TG->TT->TE->Prop} (hT:PG X (.Name y py) gT) (c:cE X scope N caps) (hi:PI X tg iter wi)
   (hs:∀ x,foldedSetIterable iter X.env x=pure x)
   (hin:∀ g tt te,In g tt te->∀ s H fp,PG (az X s H scope N fp) tg g/\PTs (az X s H scope N fp) ifs tt/\PE (az X s H scope N fp) elt te)
   (hsw:swapsWith (.ListComp elt [⟨tg,iter,ifs,0⟩] scope pos) (some (.Name y py)) spos.line X.env=pure true) :
   PS X (.Assign [.Name y py] (.ListComp elt [⟨tg,iter,ifs,0⟩] scope pos) spos) (pN (cS In caps wi) gT):=by
 intro pins s σ H D I h
 rw [exec_Assign_Name_used _ _ _ _ hsw]
 refine wpAny_bind (wpAny_standAt (wpAny_bind ?_))
 show wpAny _ _ (do let _ <- comprehension (.ListComp elt [⟨tg,iter,ifs,0⟩] scope pos) scope X.env _ (newList []) false _ (some (assign (.Name y py) X.env))) _ _ s
 refine wpAny_bind ?_
 have hcl:=jT (cW I c)
 refine wpAny_comprehension_free (use:=some (assign (.Name y py) X.env)) (Q:=λ_ s'=>wpAny (model X.prog X.w) X.A (pure ()) (λ_ s''=>wpAny (model X.prog X.w) X.A (pure Flow.next) (SP X pins D) X.xe s'') X.xe s') (g:=⟨tg,iter,ifs,0⟩) (gs:=[]) rfl hs hcl c.kind c.loc ?_
 show wpAny _ _ (eval iter X.env) _ _ s
 refine thn (hi pins s σ H _ I h) λv s1 h1=>thn h1 λitv s2 h2=>?_
 obtain ⟨kd,it,fp,tn,J,H2,e,I2,hck,T,st2,f2,g,tt,te,hI,q⟩:=h2
 have hc:=jo (scope:=scope) (N:=N) (fp:=fp) hck I2
 subst e
 obtain ⟨Z,⟨m0,z0⟩,turn⟩:=q s2.heap.objs.size (I2.hok.fresh (Nat.le_refl _))
 have ho:∀ b ∈ fp,∃ o,s2.heap.get? b=some o:=λb hb=>let ⟨o,e,_⟩:=T.obj _ _ st2 b hb; ⟨o,e⟩
 have I4:=hZ (scope:=scope) (N:=N) (caps:=caps) I2 f2 ho c
 obtain ⟨hg,ht,he⟩:=hin g tt te hI s2 H2 fp
 refine wpAny_newObj_type (gn ?_) (by show 0<=sizeLine; decide)
 have hC:(s2.heap.push { cls:=.type "list",dict:=none,data:=.seq ([]:List Value).toArray }).objs.size=s2.heap.objs.size + 1:=Heap.size_push ..
 dsimp only
 rw [hC]
 have kp:∀ b o,s2.heap.get? b=some o->(pushCells ((s2.heap.push { cls:=.type "list",data:=.seq ([]:List Value).toArray }).push { cls:=.type "dict",data:=.dict #[] }) scope.names).get? b=some o:=λb o e=>
   pushCells_keeps _ _ b o (Heap.get?_push_of_some _ (Heap.get?_push_of_some _ e))
 have st4:tn 0 (pushCells ((s2.heap.push { cls:=.type "list",data:=.seq ([]:List Value).toArray }).push { cls:=.type "dict",data:=.dict #[] }) scope.names):=T.keep _ _ _ st2 λb _ o e=>kp b o e
 have stat:∀ {H':Hp},(∀ b ∈ fp,H' b=none)->∀ b ∈ fp,fT (az X s2 H2 scope N fp) [] H' b:=λhn b hb=>
   ⟨hn b hb,(I4.ok.exf b hb).1,I4.ok.exfs b hb,.inl hb,(I4.ok.exf b hb).2,λp hp=>absurd (show p ∈ ([]:List (Addr × Obj)) from hp) (by simp)⟩
 have fr4:∀ b ∈ fp,(upd H2 s2.heap.objs.size (.lst [])) b=none:=λb hb=>by
   obtain ⟨o,e⟩:=ho b hb
   rw [aq (Nat.ne_of_lt (Heap.lt_size e))]; exact (f2 b hb).1
 have loop:codeAny (model X.prog X.w) X.A (.compLoop (.ListComp elt [⟨tg,iter,ifs,0⟩] scope pos) 0 (.ref it) (.ref s2.heap.objs.size) (az X s2 H2 scope N fp).env)
     (compPost (model X.prog X.w) X.A X.xe (some (assign (.Name y py) X.env)) (λ_ s'=>wpAny (model X.prog X.w) X.A (pure ()) (λ_ s''=>wpAny (model X.prog X.w) X.A (pure Flow.next) (SP X pins D) X.xe s'') X.xe s') (.ref s2.heap.objs.size) (s2.heap.objs.size + 1))
     { s2 with heap:=pushCells ((s2.heap.push { cls:=.type "list",data:=.seq ([]:List Value).toArray }).push { cls:=.type "dict",data:=.dict #[] }) scope.names }:=by
   refine eQ (λn s'=>∃ i σ' H',Inv (az X s2 H2 scope N fp) [] σ' H' s'/\tn i s'.heap/\(∀ b ∈ fp,H' b=none)/\Z i n σ' H') ?_ m0 ⟨0,_,_,I4,st4,fr4,z0⟩
   rintro n s3 ⟨i,σ3,H3,I3,st3,fr3,w3⟩
   rcases turn i n σ3 H3 w3 with ⟨stop,qn⟩ | ⟨go,step⟩
   · refine thn (T.done (az X s2 H2 scope N fp) rfl rfl rfl hc i [] s3 σ3 H3 _ I3 (stat fr3) st3 stop) λr s5 ⟨hr,I5⟩=>?_
     subst hr
     obtain ⟨m,hn,_⟩:=id I5.loc
     have I6:Inv X pins σ H3 s5:=by
       have lt:∀ b o,s2.heap.get? b=some o->b ≠ s2.heap.objs.size + 1:=λb o e=>Nat.ne_of_lt (Nat.lt_succ_of_lt (Heap.lt_size e))
       have u:=I5.base
       have u':Un (frs X.stack) fp H2 H3 s2.heap s5.heap:=⟨λb o e n1 n2 n3=>u.keep b o e n1 n2 n3,λb o e n1 n2 n3=>u.slot b o e n1 n2 n3,u.free,λb o e n1=>u.there b o e n1,u.tups,u.frzs,u.tbls⟩
       exact I2.gr (s':=s5) I5.os u' I5.hok I5.bare λb hb=>⟨(f2 b hb).2.2.2.1,(f2 b hb).2.1,(f2 b hb).2.2.2.2.1,(f2 b hb).2.2.2.2.2⟩
     have fC:H3 (s2.heap.objs.size + 1)=none:=I5.free
     have fk:fT X pins H3 (s2.heap.objs.size + 1):=I2.iW (Nat.le_succ _) fC
     obtain ⟨oC,es,ep,hoC,hdC,rC⟩:=id hn
     have hpin:=I6.pinned (fp:=[s2.heap.objs.size + 1]) (λb hb=>by rw [List.mem_singleton.mp hb]; exact fk) (λb hb=>by rw [List.mem_singleton.mp hb]; exact ⟨oC,hoC,λv z=>by rw [hdC] at z; cases z⟩)
     have hmem:(s2.heap.objs.size + 1,oC) ∈ da [s2.heap.objs.size + 1] s5.heap:=bh (List.mem_singleton_self _) hoC
     refine thn (hT _ s5 σ H3 (.ref s2.heap.objs.size) (.ref s2.heap.objs.size) _ hpin rfl qn) λ_ s6 ⟨σ6,H6,I7,q7⟩=>?_
     obtain ⟨p1,p2,p3,p4,p5⟩:=I7.pin _ (List.mem_append_right _ (List.mem_append_right _ hmem))
     refine ⟨m,⟨oC,es,ep,p1,hdC,rC⟩,λh' sb=>wpAny_pure (wpAny_pure ?_)⟩
     refine ⟨σ6,H6,?_,q7⟩
     exact (I7.bZ).turned (t':=s6.toks) (it:=s2.heap.objs.size + 1) (λb o hb e=>(sb.2 b hb).trans e) p2 p3 fk.2.2.2.1 fk.2.2.2.2.1 fk.2.2.2.2.2
   · refine thn (T.item (az X s2 H2 scope N fp) rfl rfl rfl hc i [] s3 σ3 H3 _ I3 (stat fr3) st3 go) λr s4 ⟨u,hr,h4⟩=>?_
     subst hr
     refine thn h4 λ_ s5 ⟨x,H5,I5,r5,y5,st5,fr5⟩=>?_
     have I5':=I5.pinned (stat fr5) (T.obj _ _ st5)
     refine thn (hg _ s5 σ3 H5 x u _ I5' r5 (step x H5 y5)) λ_ s6 ⟨σ6,H6,I6,q6⟩=>?_
     have again:∀ {s7:Shared} {σ7:L2.St} {H7:Hp} {m':Nat},Inv (az X s2 H2 scope N fp) ([]++da fp s5.heap) σ7 H7 s7->m' < n->Z (i + 1) m' σ7 H7 ->
         ∃ m,m < n/\∃ i σ' H',Inv (az X s2 H2 scope N fp) [] σ' H' s7/\tn i s7.heap/\(∀ b ∈ fp,H' b=none)/\Z i m σ' H':=λ{s7 σ7 H7 m'} I7 hm z7=>by
       refine ⟨m',hm,i + 1,σ7,H7,I7.bZ,T.keep _ _ _ st5 λb hb o e=>(I7.pin (b,o) (List.mem_append_right _ (List.mem_append_right _ (bh hb e)))).1,λb hb=>?_,z7⟩
       obtain ⟨o,e,d⟩:=T.obj _ _ st5 b hb
       exact (I7.pin (b,o) (List.mem_append_right _ (List.mem_append_right _ (bh hb e)))).2.1
     refine thn (ht _ s6 σ6 H6 _ I6 q6) λok s7 ⟨H7,I7,q7⟩=>?_
     cases ok with
     | false=>
       rw [if_neg (by decide)] at q7
       obtain ⟨m',hm,z7⟩:=q7
       exact again I7 hm z7
     | true=>
       rw [if_pos rfl] at q7
       refine thn (he _ s7 σ6 H7 _ I7 q7) λv' s8 ⟨v,H8,I8,r8,vs,m',q8,l8,hm,z8⟩=>?_
       refine thn (dJ (X:=az X s2 H2 scope N fp) _ s8 σ6 H8 (.ref s2.heap.objs.size) [v] (.ref s2.heap.objs.size) [v'] (λ_ H9=>H9=upd H8 s2.heap.objs.size (.lst (vs++[v]))) I8 rfl (.cons r8 .nil) ⟨_,vs,v,rfl,rfl,q8,l8,rfl⟩) λ_ s9 ⟨_,H9,I9,_,e9⟩=>?_
       subst e9
       exact again I9 hm z8
 exact codeAny_compStart_list loop (T.self _ 0 _ _ _ st4 loop)
end Ev
namespace Hy
open PySem PySem.Spec PyProof.Rows L2
open Ev (D Den aw)
open Classical in
noncomputable def hd (H:Hp) (M:Addr->Prop):Hp:=λb=>if M b then none else H b
theorem ao {H:Hp} {M:Addr->Prop} {b:Addr} {o:HO}:hd H M b=some o ↔ ¬ M b/\H b=some o:=by
 unfold hd
 by_cases h:M b
 · rw [if_pos h]; exact ⟨λz=>(nomatch z),λz=>absurd h z.1⟩
 · rw [if_neg h]; exact ⟨λz=>⟨h,z⟩,λz=>z.2⟩
theorem ay {H H':Hp} {M M':Addr->Prop} (e:ag H H') (m:∀ b,M' b->M b):ag (hd H M) (hd H' M'):=λb _ h=>ao.mpr ⟨λz=>(ao.mp h).1 (m b z),e b _ (ao.mp h).2⟩
theorem aM {H:Hp} {M:Addr->Prop}:ag (hd H M) H:=λ_ _ h=>(ao.mp h).2
inductive Nd where
 | d (x:D) | l (xs:List Nd) | t (xs:List Nd)
structure Ex where
 p:PySem.W.Frag->Hp->HO->Addr->Prop
 mono:∀ {K:PySem.W.Frag} {G G':Hp} {o:HO} {a:Addr},ag G G'->p K G o a->p K G' o a
 ext:∀ {K:PySem.W.Frag} {G:Hp} {o:HO} {a:Addr},p K G o a->(∃ φ,o=.ext φ)\/(∃ ob φ,o=.frz ob (.ext φ))\/∃ kvs,o=.dK kvs\/∃ ob,o=.frz ob (.dK kvs)
inductive Sl where
 | un | d (x:D) | o (xs:List D) | n (t:Nd) | x (E:Ex)
mutual
inductive a5 (K:PySem.W.Frag) (G H:Hp):V->List Addr->Nd->Prop where
 | d {u:V} {x:D} (h:Den K G u x):a5 K G H u [] (.d x)
 | l {a:Addr} {vs:List V} {bs:List Addr} {xs:List Nd} (h:H a=some (.lst vs)) (r:aC K G H vs bs xs):a5 K G H (.ref a) (a :: bs) (.l xs)
 | t {a:Addr} {vs:List V} {bs:List Addr} {xs:List Nd} (h:H a=some (.tup vs)) (r:aC K G H vs bs xs):a5 K G H (.ref a) (a :: bs) (.t xs)
inductive aC (K:PySem.W.Frag) (G H:Hp):List V->List Addr->List Nd->Prop where
 | nil:aC K G H [] [] []
 | cons {v:V} {vs:List V} {b1 b2:List Addr} {s:Nd} {ss:List Nd} (h:a5 K G H v b1 s) (r:aC K G H vs b2 ss):aC K G H (v :: vs) (b1++b2) (s :: ss)
end
noncomputable def bB (K:PySem.W.Frag) (G H:Hp) (v:Option V) (bs:List Addr):Sl->Prop
 | .un=>bs=[]
 | .d x=>bs=[]/\∃ u,v=some u/\Den K G u x
 | .o xs=>∃ a vs,bs=[a]/\v=some (.ref a)/\H a=some (.lst vs)/\aw K G vs xs
 | .n t=>bs.Nodup/\∃ u,v=some u/\a5 K G H u bs t
 | .x E=>∃ a o,bs=[a]/\v=some (.ref a)/\H a=some o/\E.p K G o a
section
variable {K:PySem.W.Frag} {G G' H H':Hp}
mutual
theorem a5.frame (g:ag G G'):∀ {u:V} {bs:List Addr} {t:Nd},(∀ b ∈ bs,H' b=H b)->a5 K G H u bs t->a5 K G' H' u bs t
 | _,_,_,_,.d h=>.d (h.mono g)
 | _,_,_,e,.l h r=>.l (by rw [e _ (List.mem_cons_self ..)]; exact h) (aC.frame g (λb hb=>e b (List.mem_cons_of_mem _ hb)) r)
 | _,_,_,e,.t h r=>.t (by rw [e _ (List.mem_cons_self ..)]; exact h) (aC.frame g (λb hb=>e b (List.mem_cons_of_mem _ hb)) r)
theorem aC.frame (g:ag G G'):∀ {vs:List V} {bs:List Addr} {xs:List Nd},(∀ b ∈ bs,H' b=H b)->aC K G H vs bs xs->aC K G' H' vs bs xs
 | _,_,_,_,.nil=>.nil
 | _,_,_,e,.cons h r=>.cons (a5.frame g (λb hb=>e b (List.mem_append_left _ hb)) h) (aC.frame g (λb hb=>e b (List.mem_append_right _ hb)) r)
end
mutual
theorem a5.some_of:∀ {u:V} {bs:List Addr} {t:Nd},a5 K G H u bs t->∀ b ∈ bs,∃ o,H b=some o
 | _,_,_,.d _,_,z=>nomatch z
 | _,_,_,.l h r,b,z=>(List.mem_cons.mp z).elim (λe=>e ▸ ⟨_,h⟩) λz=>aC.some_of r b z
 | _,_,_,.t h r,b,z=>(List.mem_cons.mp z).elim (λe=>e ▸ ⟨_,h⟩) λz=>aC.some_of r b z
theorem aC.some_of:∀ {vs:List V} {bs:List Addr} {xs:List Nd},aC K G H vs bs xs->∀ b ∈ bs,∃ o,H b=some o
 | _,_,_,.nil,_,z=>nomatch z
 | _,_,_,.cons h r,b,z=>(List.mem_append.mp z).elim (λz=>a5.some_of h b z) λz=>aC.some_of r b z
end
theorem a5.mono (g:ag G G') (e:ag H H') {u:V} {bs:List Addr} {t:Nd} (h:a5 K G H u bs t):a5 K G' H' u bs t:=h.frame g λb hb=>by
 obtain ⟨o,q⟩:=h.some_of b hb
 rw [q,e b o q]
theorem bB.mono (g:ag G G') (e:ag H H') {v:Option V} {bs:List Addr}:∀ {s:Sl},bB K G H v bs s->bB K G' H' v bs s
 | .un,h=>h
 | .d _,⟨h,u,e1,h2⟩=>⟨h,u,e1,h2.mono g⟩
 | .o _,⟨a,vs,h1,h2,h3,h4⟩=>⟨a,vs,h1,h2,e _ _ h3,h4.mono g⟩
 | .n _,⟨h0,u,h1,h2⟩=>⟨h0,u,h1,h2.mono g e⟩
 | .x E,⟨a,o,h1,h2,h3,h4⟩=>⟨a,o,h1,h2,e _ _ h3,E.mono g h4⟩
end
noncomputable def own (A:Addr->Prop) (B:Nat->List Addr) (b:Addr):Prop:=A b\/∃ i,b ∈ B i
noncomputable def vw (C:Bool) (A:Addr->Prop) (B:Nat->List Addr):Addr->Prop:=match C with
 | true=>own A B
 | false=>A
structure Sta (K:PySem.W.Frag) (A:Addr->Prop) (H₀:Hp) (τ:List Sl) (B:Nat->List Addr) (σ:L2.St) (H:Hp):Prop where
 same:ag H₀ H
 len:σ.length=τ.length
 sl:∀ i s,τ[i]?=some s->bB K (hd H (own A B)) H (σ[i]?).join (B i) s
 fr:∀ i b,b ∈ B i->H₀ b=none
 uq:∀ i j b,b ∈ B i->b ∈ B j->i=j
 ad:∀ b,A b->∃ o,H₀ b=some o
 bd:∀ i b,b ∈ B i->∃ o,H b=some o
noncomputable def upB (B:Nat->List Addr) (i:Nat) (bs:List Addr):Nat->List Addr:=λj=>if j=i then bs else B j
section
variable {K:PySem.W.Frag} {A:Addr->Prop} {H₀ H H':Hp} {τ:List Sl} {B:Nat->List Addr} {σ:L2.St}
theorem Sta.dm (S:Sta K A H₀ τ B σ H) (b:Addr) (h:own A B b):∃ o,H b=some o:=h.elim (λz=>let ⟨o,q⟩:=S.ad b z; ⟨o,S.same _ _ q⟩) λ⟨i,z⟩=>S.bd i b z
theorem Sta.mono (S:Sta K A H₀ τ B σ H) (e:ag H H'):Sta K A H₀ τ B σ H' where
 same:=S.same.trans e
 len:=S.len
 sl:=λi s h=>(S.sl i s h).mono (ay e λ_ z=>z) e
 fr:=S.fr
 uq:=S.uq
 ad:=S.ad
 bd:=λi b h=>let ⟨o,q⟩:=S.bd i b h; ⟨o,e _ _ q⟩
theorem aP {i j:Nat} {bs:List Addr} {b:Addr} (h:b ∈ upB B i bs j):(j=i/\b ∈ bs)\/(j ≠ i/\b ∈ B j):=by
 unfold upB at h
 by_cases e:j=i
 · rw [if_pos e] at h; exact .inl ⟨e,h⟩
 · rw [if_neg e] at h; exact .inr ⟨e,h⟩
theorem Sta.set (S:Sta K A H₀ τ B σ H) (e:ag H H') {i:Nat} {v:V} {s:Sl} {bs:List Addr} (hf:∀ b ∈ bs,H b=none/\∃ o,H' b=some o) (h:bB K (hd H' λb=>own A B b\/b ∈ bs) H' (some v) bs s) :
   Sta K A H₀ (τ.set i s) (upB B i bs) (σ.set i (some v)) H':=by
 have sub:∀ b,own A (upB B i bs) b->own A B b\/b ∈ bs:=λb z=>z.elim (λz=>.inl (.inl z)) λ⟨j,z⟩=>(aP z).elim (λz=>.inr z.2) λz=>.inl (.inr ⟨j,z.2⟩)
 have some_of:∀ b j,b ∈ B j->∃ o,H b=some o:=λb j z=>S.dm b (.inr ⟨j,z⟩)
 refine ⟨S.same.trans e,by rw [List.length_set,List.length_set,S.len],λj t hj=>?_,λj b hb=>?_,λj k b h1 h2=>?_,S.ad,λj b hb=>?_⟩
 · by_cases ej:j=i
   · subst ej
     have hl:j < τ.length:=by
       have:=(List.getElem?_eq_some_iff.mp hj).1
       rwa [List.length_set] at this
     rw [List.getElem?_set_self hl] at hj
     cases hj
     rw [List.getElem?_set_self (by rw [S.len]; exact hl)]
     unfold upB
     rw [if_pos rfl]
     exact h.mono (ay (ag.refl _) sub) (ag.refl _)
   · rw [List.getElem?_set_ne (λz=>ej z.symm)] at hj
     rw [List.getElem?_set_ne (λz=>ej z.symm)]
     unfold upB
     rw [if_neg ej]
     have q:=S.sl j t hj
     refine q.mono (λb o z=>?_) e
     obtain ⟨z1,z2⟩:=ao.mp z
     refine ao.mpr ⟨λy=>?_,e _ _ z2⟩
     rcases sub b y with y | y
     · exact z1 y
     · rw [(hf b y).1] at z2; cases z2
 · rcases aP hb with ⟨_,z⟩ | ⟨_,z⟩
   · exact S.same.free (hf b z).1
   · exact S.fr j b z
 · rcases aP h1 with ⟨e1,z1⟩ | ⟨e1,z1⟩ <;> rcases aP h2 with ⟨e2,z2⟩ | ⟨e2,z2⟩
   · exact e1.trans e2.symm
   · obtain ⟨o,q⟩:=some_of b k z2; rw [(hf b z1).1] at q; cases q
   · obtain ⟨o,q⟩:=some_of b j z1; rw [(hf b z2).1] at q; cases q
   · exact S.uq j k b z1 z2
 · rcases aP hb with ⟨_,z⟩ | ⟨_,z⟩
   · exact (hf b z).2
   · obtain ⟨o,q⟩:=S.bd j b z; exact ⟨o,e _ _ q⟩
theorem Sta.less (S:Sta K A H₀ τ B σ H) {i:Nat} {s:Sl} {bs:List Addr} (hb:∀ b ∈ bs,b ∈ B i) (h:∀ G:Hp,ag (hd H (own A B)) G->(∀ b o,b ∈ B i->b ∉ bs->H b=some o->G b=some o)->bB K G H (σ[i]?).join bs s):Sta K A H₀ (τ.set i s) (upB B i bs) σ H:=by
 have sub:∀ b,own A (upB B i bs) b->own A B b:=λb z=>z.elim .inl λ⟨j,z⟩=>(aP z).elim (λz=>.inr ⟨i,hb b z.2⟩) λz=>.inr ⟨j,z.2⟩
 refine ⟨S.same,by rw [List.length_set,S.len],λj t hj=>?_,λj b h=>?_,λj k b h1 h2=>?_,S.ad,λj b h=>(aP h).elim (λz=>S.bd i b (hb b z.2)) λz=>S.bd j b z.2⟩
 · by_cases ej:j=i
   · subst ej
     have hl:j < τ.length:=by
       have:=(List.getElem?_eq_some_iff.mp hj).1
       rwa [List.length_set] at this
     rw [List.getElem?_set_self hl] at hj
     cases hj
     unfold upB
     rw [if_pos rfl]
     refine h _ (ay (ag.refl _) sub) λb o z1 z2 z3=>ao.mpr ⟨λy=>?_,z3⟩
     rcases y with y | ⟨m,y⟩
     · obtain ⟨_,q⟩:=S.ad b y
       rw [S.fr j b z1] at q; cases q
     · rcases aP y with ⟨e,y⟩ | ⟨e,y⟩
       · exact z2 y
       · exact e (S.uq m j b y z1)
   · rw [List.getElem?_set_ne (λz=>ej z.symm)] at hj
     unfold upB
     rw [if_neg ej]
     exact (S.sl j t hj).mono (ay (ag.refl _) sub) (ag.refl _)
 · rcases aP h with ⟨e,z⟩ | ⟨_,z⟩
   · exact S.fr i b (hb b z)
   · exact S.fr j b z
 · rcases aP h1 with ⟨e1,z1⟩ | ⟨e1,z1⟩ <;> rcases aP h2 with ⟨e2,z2⟩ | ⟨e2,z2⟩
   · exact e1.trans e2.symm
   · exact absurd (S.uq k i b z2 (hb b z1)) e2
   · exact absurd (S.uq j i b z1 (hb b z2)) e1
   · exact S.uq j k b z1 z2
end
end Hy
namespace Hy
open PySem PySem.Spec PyProof.Rows L2
open Ev (D Den aw aU aK au aV aI)
noncomputable def Fr (H H':Hp) (bs:List Addr):Prop:=∀ b ∈ bs,H b=none/\∃ o,H' b=some o
noncomputable def dE (K:PySem.W.Frag) (C:Bool) (τ:List Sl) (s:Sl):TE:=λσ H Q=>∃ A H₀ B,Sta K A H₀ τ B σ H /\
 ∀ v H' bs,ag H H'->Fr H H' bs->bB K (hd H' λb=>vw C A B b\/b ∈ bs) H' (some v) bs s->Q v H'
noncomputable def dA (K:PySem.W.Frag) (C:Bool) (τ:List Sl) (ds:List D):TA:=λσ H Q=>∃ A H₀ B,Sta K A H₀ τ B σ H /\
 ∀ vs H',ag H H'->aw K (hd H' (vw C A B)) vs ds->Q vs H'
noncomputable def dT (K:PySem.W.Frag) (τ:List Sl) (c:Bool):TT:=λσ H Q=>∃ A H₀ B,Sta K A H₀ τ B σ H/\∀ H',ag H H'->Q c H'
structure Po where
 nx:List Sl->Prop
 rt:Sl->Prop
 bk:List Sl->Prop:=λ_=>False
 ct:List Sl->Prop:=λ_=>False
 xc:Hp->Prop:=λ_=>True
structure Meets (K:PySem.W.Frag) (A:Addr->Prop) (H₀:Hp) (N:Po) (D:Ends):Prop where
 nx:∀ τ B σ H,N.nx τ->Sta K A H₀ τ B σ H->D.nx σ H
 bk:∀ τ B σ H,N.bk τ->Sta K A H₀ τ B σ H->D.bk σ H
 ct:∀ τ B σ H,N.ct τ->Sta K A H₀ τ B σ H->D.ct σ H
 rt:∀ v H bs s,N.rt s->ag H₀ H->Fr H₀ H bs->bB K (hd H λb=>A b\/b ∈ bs) H (some v) bs s->D.rt v H
 xc:∀ H,ag H₀ H->N.xc H
noncomputable def dS (K:PySem.W.Frag) (τ:List Sl) (N:Po):TS:=λD σ H=>∃ A H₀ B,Sta K A H₀ τ B σ H/\Meets K A H₀ N D
theorem peW {X:Cx} {e:Expr} {t t':TE} (h:PE X e t) (f:∀ σ H Q,t' σ H Q->t σ H Q):PE X e t':=λpins s σ H Q I q=>h pins s σ H Q I (f σ H Q q)
theorem ptW {X:Cx} {e:Expr} {t t':TT} (h:PT X e t) (f:∀ σ H Q,t' σ H Q->t σ H Q):PT X e t':=λpins s σ H Q I q=>h pins s σ H Q I (f σ H Q q)
theorem pwW {X:Cx} {e:Expr} {t t':TT} (h:PW X e t) (f:∀ σ H Q,t' σ H Q->t σ H Q):PW X e t':=λwh pins s σ H Q I q=>h wh pins s σ H Q I (f σ H Q q)
theorem paW {X:Cx} {e:List Expr} {t t':TA} (h:PA X e t) (f:∀ σ H Q,t' σ H Q->t σ H Q):PA X e t':=λp pins s σ H Q I q=>h p pins s σ H Q I (f σ H Q q)
theorem psW {X:Cx} {e:Stmt} {t t':TS} (h:PS X e t) (f:∀ D σ H,t' D σ H->t D σ H):PS X e t':=λpins s σ H D I q=>h pins s σ H D I (f D σ H q)
theorem lU {X:Cx} {e:List Stmt} {t t':TS} (h:PSs X e t) (f:∀ D σ H,t' D σ H->t D σ H):PSs X e t':=λpins s σ H D I q=>h pins s σ H D I (f D σ H q)
section
variable {K:PySem.W.Frag} {C:Bool} {τ:List Sl} {A:Addr->Prop} {H₀ H H':Hp} {B:Nat->List Addr} {σ:L2.St} {x y z:D} {Q:VK}
theorem iM {b:Addr} (h:vw C A B b):own A B b:=by
 cases C with
 | true=>exact h
 | false=>exact .inl h
theorem Sta.vd (S:Sta K A H₀ τ B σ H) (b:Addr) (h:vw C A B b):∃ o,H b=some o:=S.dm b (iM h)
theorem aR (S:Sta K A H₀ τ B σ H) (k:∀ v H',ag H H'->Den K (hd H' (vw C A B)) v x->Q v H'):dE K C τ (.d x) σ H Q:=
 ⟨A,H₀,B,S,λv H' bs e _ ⟨hb,u,eu,h⟩=>by
   cases eu
   exact k v H' e (h.mono (ay (ag.refl _) λ_ z=>.inl z))⟩
theorem cD (h:dE K C τ (.d x) σ H Q):∃ A H₀ B,Sta K A H₀ τ B σ H/\∀ v H',ag H H'->Den K (hd H' (vw C A B)) v x->Q v H':=by
 obtain ⟨A,H₀,B,S,k⟩:=h
 exact ⟨A,H₀,B,S,λv H' e d=>k v H' [] e (λ_ z=>nomatch z) ⟨rfl,v,rfl,d.mono (ay (ag.refl _) λ_ z=>z.elim id λz=>nomatch z)⟩⟩
theorem cU {ds:List D} {Q:List V->Hp->Prop} (S:Sta K A H₀ τ B σ H) (k:∀ vs H',ag H H'->aw K (hd H' (vw C A B)) vs ds->Q vs H'):dA K C τ ds σ H Q:=⟨A,H₀,B,S,k⟩
theorem i4 {M:Addr->Prop} {p:Addr} {o:HO} (hM:∀ b,M b->∃ o,H b=some o) (hp:H p=none):hd (upd H p o) M p=some o:=
 ao.mpr ⟨λz=>(by obtain ⟨o,q⟩:=hM p z; rw [hp] at q; cases q),aF⟩
mutual
noncomputable def ndD:Nd->D
 | .d x=>x
 | .l xs=>.lst (iL xs)
 | .t xs=>.tup (iL xs)
noncomputable def iL:List Nd->List D
 | []=>[]
 | x :: xs=>ndD x :: iL xs
end
noncomputable def fzD:Sl->Option D
 | .un=>none
 | .d x=>some x
 | .o xs=>some (.lst xs)
 | .n t=>some (ndD t)
 | .x _=>none
mutual
theorem a5.den {G G':Hp} (g:ag G G'):∀ {u:V} {bs:List Addr} {t:Nd},(∀ b ∈ bs,∀ o,H b=some o->G' b=some o)->a5 K G H u bs t->Den K G' u (ndD t)
 | _,_,_,_,.d h=>h.mono g
 | _,_,_,e,.l h r=>.lst (SqL.of (e _ (List.mem_cons_self ..) _ h)) (aC.den g (λb hb=>e b (List.mem_cons_of_mem _ hb)) r)
 | _,_,_,e,.t h r=>.tup (SqT.of (e _ (List.mem_cons_self ..) _ h)) (aC.den g (λb hb=>e b (List.mem_cons_of_mem _ hb)) r)
theorem aC.den {G G':Hp} (g:ag G G'):∀ {vs:List V} {bs:List Addr} {xs:List Nd},(∀ b ∈ bs,∀ o,H b=some o->G' b=some o)->aC K G H vs bs xs->aw K G' vs (iL xs)
 | _,_,_,_,.nil=>.nil
 | _,_,_,e,.cons h r=>.cons (a5.den g (λb hb=>e b (List.mem_append_left _ hb)) h) (aC.den g (λb hb=>e b (List.mem_append_right _ hb)) r)
end
theorem bB.den {G G':Hp} {v:Option V} {bs:List Addr} {s:Sl} (h:bB K G H v bs s) (g:ag G G') (hv:∀ b ∈ bs,∀ o,H b=some o->G' b=some o) (e:fzD s=some x):∃ u,v=some u/\Den K G' u x:=by
 cases s with
 | un=>cases e
 | d y=>cases e; obtain ⟨_,u,e,q⟩:=h; exact ⟨u,e,q.mono g⟩
 | o xs=>
   cases e
   obtain ⟨a,vs,rfl,h2,h3,h4⟩:=h
   exact ⟨_,h2,.lst (SqL.of (hv a (List.mem_cons_self ..) _ h3)) (h4.mono g)⟩
 | n t=>
   cases e
   obtain ⟨_,u,e,q⟩:=h
   exact ⟨u,e,q.den g hv⟩
 | x E=>cases e
theorem slot_of {i:Nat} {u:V} (h:(σ[i]?).join=some u):σ[i]?=some (some u):=by
 cases e:σ[i]? with
 | none=>rw [e] at h; cases h
 | some o=>rw [e] at h; exact congrArg some h
end
section
variable {X:Cx} {C:Bool} {τ:List Sl} {x y z:D} {a b e:Expr} {es:List Expr} {pos:Pos}
theorem ae (i:Nat) {n:Str} {x:D} (h:τ[i]?=some (.d x):=by rfl) (hN:X.N[i]?=some n:=by rfl) (hv:Vis X.env.scope n:=by first | exact Or.inl rfl | exact Or.inr (Or.inl rfl) | exact Or.inr (Or.inr rfl))
   (hd:(n == ("__debug__" : Str))=false:=by decide) (hcd:(n == ("__classdict__" : Str))=false:=by decide):PE X (.Name n pos) (dE X.K C τ (.d x)):=peW (b9 hN hv hd hcd) λσ H Q q=>by
 obtain ⟨A,H₀,B,S,k⟩:=cD q
 obtain ⟨_,u,e,d⟩:=S.sl i _ h
 exact ⟨u,slot_of e,k u H (ag.refl _) (d.mono (ay (ag.refl _) λ_ z=>iM z))⟩
theorem k7 (i:Nat) {n:Str} {s:Sl} {x:D} (h:τ[i]?=some s:=by rfl) (hx:fzD s=some x:=by rfl) (hN:X.N[i]?=some n:=by rfl) (hv:Vis X.env.scope n:=by first | exact Or.inl rfl | exact Or.inr (Or.inl rfl) | exact Or.inr (Or.inr rfl))
   (hd:(n == ("__debug__" : Str))=false:=by decide) (hcd:(n == ("__classdict__" : Str))=false:=by decide):PE X (.Name n pos) (dE X.K false τ (.d x)):=peW (b9 hN hv hd hcd) λσ H Q q=>by
 obtain ⟨A,H₀,B,S,k⟩:=cD q
 obtain ⟨u,e,d⟩:=(S.sl i _ h).den (G':=Hy.hd H A) (ay (ag.refl _) λ_ z=>.inl z) (λb hb o ho=>ao.mpr ⟨λz=>(by obtain ⟨_,q⟩:=S.ad b z; rw [S.fr i b hb] at q; cases q),ho⟩) hx
 exact ⟨u,slot_of e,k u H (ag.refl _) d⟩
theorem iF {v:V} (h:PE X e (tC v)) (d:∀ H,Den X.K H v x):PE X e (dE X.K C τ (.d x)):=peW h λσ H Q q=>by
 obtain ⟨A,H₀,B,S,k⟩:=cD q
 exact k v H (ag.refl _) (d _)
theorem af {i j}:PE X (.Constant (.int i) j pos) (dE X.K C τ (.d (.int i))):=iF qi λ_=>.int
theorem cx {b j}:PE X (.Constant (.bool b) j pos) (dE X.K C τ (.d (.bl b))):=iF rJ λ_=>.bl
theorem rS {j}:PE X (.Constant .none j pos) (dE X.K C τ (.d .non)):=iF oP λ_=>.non
theorem aN {s j}:PE X (.Constant (.str s) j pos) (dE X.K C τ (.d (.str s))):=iF oX λ_=>.str
theorem lG {n:Str} {i:Int} (hm:∃ t,X.mg n=some (.int i t)) (hg:Gl X n:=by rfl) (hd:(n == ("__debug__" : Str))=false:=by decide):PE X (.Name n pos) (dE X.K C τ (.d (.int i))):=by
 obtain ⟨t,hm⟩:=hm
 exact iF (jj (v:=.int i) hg hm ⟨t,rfl⟩ hd) λ_=>.int
theorem br {s:Sl} (h:PE X e (dE X.K C τ s)) (hx:fzD s=some x:=by rfl):PE X e (dE X.K C τ (.d x)):=peW h λσ H Q q=>by
 obtain ⟨A,H₀,B,S,k⟩:=cD q
 refine ⟨A,H₀,B,S,λv H' bs e hf q=>?_⟩
 have vd:=S.vd (C:=C)
 obtain ⟨u,e1,d⟩:=q.den (G':=Hy.hd H' (vw C A B)) (ay (ag.refl _) λ_ z=>.inl z) (λb hb o ho=>ao.mpr ⟨λz=>(by obtain ⟨_,q⟩:=vd b z; rw [(hf b hb).1] at q; cases q),ho⟩) hx
 cases e1
 exact k v H' e d
noncomputable def flat:D->Bool
 | .tup _=>false
 | .lst _=>false
 | .box _=>false
 | _=>true
theorem eV {K:PySem.W.Frag} {G G':Hp} {v:V} (h:Den K G v x) (f:flat x=true):Den K G' v x:=by
 cases h with
 | non=>exact .non
 | bl=>exact .bl
 | int=>exact .int
 | str=>exact .str
 | tup _ _=>cases f
 | lst _ _=>cases f
 | box _=>cases f
noncomputable def bO (X:Cx) (f:Value->Value->Sem Value) (x y z:D):Prop:=∃ r:R2,OpR X f r /\
 ∀ (M:Addr->Prop) (v w:V) (H:Hp) (Q:VK),(∀ b,M b->∃ o,H b=some o)->Den X.K (hd H M) v x->Den X.K (hd H M) w y->(∀ u H',ag H H'->Den X.K (hd H' M) u z->Q u H')->r v w H Q
theorem two {r:R2} (hr:∀ (M:Addr->Prop) (v w:V) (H:Hp) (Q:VK),(∀ b,M b->∃ o,H b=some o)->Den X.K (hd H M) v x->Den X.K (hd H M) w y->(∀ u H',ag H H'->Den X.K (hd H' M) u z->Q u H')->r v w H Q) :
   ∀ σ H Q,dE X.K C τ (.d z) σ H Q->tOp r (dE X.K C τ (.d x)) (dE X.K C τ (.d y)) σ H Q:=by
 intro σ H Q h
 obtain ⟨A,H₀,B,S,k⟩:=cD h
 refine aR S λv H1 e1 d1=>aR (S.mono e1) λw H2 e2 d2=>hr (vw C A B) v w H2 Q ((S.mono e1).mono e2).vd (d1.mono (ay e2 λ_ z=>z)) d2 λu H' e3 d3=>k u H' (e1.trans (e2.trans e3)) d3
theorem aD {op:Operator} (ha:PE X a (dE X.K C τ (.d x))) (hb:PE X b (dE X.K C τ (.d y))) (ho:bO X (binaryOp op) x y z):PE X (.BinOp a op b pos) (dE X.K C τ (.d z)):=by
 obtain ⟨r,h1,h2⟩:=ho
 exact peW (ma h1 ha hb) (two h2)
theorem iz {op:CmpOp} (ha:PE X a (dE X.K C τ (.d x))) (hb:PE X b (dE X.K C τ (.d y))) (ho:bO X (compareOp op) x y z) (hm:behindInMarks op b=false:=by first | exact mq _ | rfl):PE X (.Compare a [op] [b] pos) (dE X.K C τ (.d z)):=by
 obtain ⟨r,h1,h2⟩:=ho
 exact peW (mI h1 ha hb hm) (two h2)
theorem kH {t:TE} {c:Bool} (h:∀ σ H Q,dE X.K false τ (.d (.bl c)) σ H Q->t σ H Q):∀ σ H Q,dT X.K τ c σ H Q->t σ H λx H'=>∃ k,x=.bl k/\Q k H':=λσ H Q ⟨A,H₀,B,S,k⟩=>
 h σ H _ (aR S λv H' e d=>by cases d; exact ⟨c,rfl,k H' e⟩)
theorem aY {op:CmpOp} {c:Bool} (ha:PE X a (dE X.K false τ (.d x))) (hb:PE X b (dE X.K false τ (.d y))) (ho:bO X (compareOp op) x y (.bl c)) (hm:behindInMarks op b=false:=by first | exact mq _ | rfl):PT X (.Compare a [op] [b] pos) (dT X.K τ c):=by
 obtain ⟨r,h1,h2⟩:=ho
 exact ptW (mM h1 ha hb hm) (kH (two h2))
theorem a7 {c:Bool} (h:PE X e (dE X.K false τ (.d (.bl c)))) (he:∀ whole,isTrue e X.env whole=(do let v <- whole; standAt e.pos; holding [v] (truthy v)):=by intro _; rfl):PT X e (dT X.K τ c):=
 ptW (oG h he) (kH λ_ _ _ q=>q)
theorem jd {g:Int->Int->V} {P:Int->Int->Prop} {i j:Int} (hc:P i j) (hz:∀ K H,Den K H (g i j) z):∀ (M:Addr->Prop) (v w:V) (H:Hp) (Q:VK),(∀ b,M b->∃ o,H b=some o)->Den X.K (hd H M) v (.int i)->Den X.K (hd H M) w (.int j) ->
   (∀ u H',ag H H'->Den X.K (hd H' M) u z->Q u H')->rI P g v w H Q:=λ_ v w H Q _ d1 d2 k=>by
 cases d1
 cases d2
 exact ⟨i,j,rfl,rfl,hc,k _ H (ag.refl _) (hz _ _)⟩
theorem gu {g:Int->Int->V} {i j:Int} (hz:∀ K H,Den K H (g i j) z):∀ (M:Addr->Prop) (v w:V) (H:Hp) (Q:VK),(∀ b,M b->∃ o,H b=some o)->Den X.K (hd H M) v (.int i)->Den X.K (hd H M) w (.int j) ->
   (∀ u H',ag H H'->Den X.K (hd H' M) u z->Q u H')->rI0 g v w H Q:=λ_ v w H Q _ d1 d2 k=>by
 cases d1
 cases d2
 exact ⟨i,j,rfl,rfl,k _ H (ag.refl _) (hz _ _)⟩
variable {i j:Int}
theorem a8:bO X (binaryOp .Add) (.int i) (.int j) (.int (i + j)):=⟨_,qz,gu λ_ _=>.int⟩
theorem fZ:bO X (binaryOp .Sub) (.int i) (.int j) (.int (i - j)):=⟨_,pH,gu λ_ _=>.int⟩
theorem aU.ok' {i j:Int} (h:aU i j):IntMulOk i j:=by
 have b:∀ {k:Int} {n:Nat},k.natAbs.log2 < n->Builtin.Int.intBits k<=n:=λ{k n} q=>by
   unfold Builtin.Int.intBits
   split
   · exact Nat.zero_le _
   · exact q
 rcases h with h | h | ⟨h1,h2⟩
 · exact .of_left (b h)
 · exact .of_right (b h)
 · exact .of_bits (Nat.le_trans (b h1) (by decide)) (Nat.le_trans (b h2) (by decide))
theorem bY (h:aU i j):bO X (binaryOp .Mult) (.int i) (.int j) (.int (i * j)):=⟨rI aU λi j=>.int (i * j),opI λ_ _ _ _ _ _ _ hc q=>mul_int q (aU.ok' hc),jd h λ_ _=>.int⟩
theorem cC (h:aK j):bO X (binaryOp .FloorDiv) (.int i) (.int j) (.int (i.fdiv j)):=⟨rI (λ_ j=>aK j) λi j=>.int (i.fdiv j),opI λ_ _ _ _ _ _ _ hc q=>floordiv_int hc.1 q (.inl (PyProof.noPylong_of_log2 hc.2)),jd h λ_ _=>.int⟩
theorem bj (h:j ≠ 0):bO X (binaryOp .Mod) (.int i) (.int j) (.int (i.fmod j)):=⟨_,my,jd h λ_ _=>.int⟩
theorem jh (h:rg i j):bO X (binaryOp .Pow) (.int i) (.int j) (.int (i ^ j.toNat)):=⟨_,pX,jd h λ_ _=>.int⟩
theorem sS:bO X (compareOp .Lt) (.int i) (.int j) (.bl (decide (i < j))):=⟨_,rV,gu λ_ _=>.bl⟩
theorem rH:bO X (compareOp .LtE) (.int i) (.int j) (.bl (decide (i<=j))):=⟨_,sA,gu λ_ _=>.bl⟩
theorem qv:bO X (compareOp .Gt) (.int i) (.int j) (.bl (decide (j < i))):=⟨_,qW,gu λ_ _=>.bl⟩
theorem p7:bO X (compareOp .GtE) (.int i) (.int j) (.bl (decide (j<=i))):=⟨_,rd,gu λ_ _=>.bl⟩
theorem g9:bO X (compareOp .Eq) (.int i) (.int j) (.bl (decide (i=j))):=⟨_,q0,λ_ v w H Q _ d1 d2 k=>by
 cases d1
 cases d2
 exact ⟨rfl,by rw [show decide (V.int i=V.int j)=decide (i=j) by simp]; exact k _ H (ag.refl _) .bl⟩⟩
theorem jb:bO X (compareOp .NotEq) (.int i) (.int j) (.bl (!decide (i=j))):=⟨_,nO,λ_ v w H Q _ d1 d2 k=>by
 cases d1
 cases d2
 exact ⟨rfl,by rw [show decide (V.int i=V.int j)=decide (i=j) by simp]; exact k _ H (ag.refl _) .bl⟩⟩
theorem lb (h:PE X a (dE X.K C τ (.d (.int i)))):PE X (.UnaryOp .USub a pos) (dE X.K C τ (.d (.int (-i)))):=peW (qP pP h) λσ H Q q=>by
 obtain ⟨A,H₀,B,S,k⟩:=cD q
 refine aR S λv H1 e1 d1=>?_
 cases d1
 exact ⟨i,rfl,k _ H1 e1 .int⟩
theorem nV {e:Expr}:PE X e λ_ _ _=>False:=λ_ _ _ _ _ _ h=>h.elim
theorem pw_no {e:Expr}:PW X e λ_ _ _=>False:=λ_ _ _ _ _ _ _ h=>h.elim
variable {p q:Bool} {c:Expr} {rest:List Expr}
theorem fF {op} {s:Sl} (h:PE X a (dE X.K C τ s)):PE X (.BoolOp op [a] pos) (dE X.K C τ s):=pd h
theorem d8 (ha:PE X a (dE X.K C τ (.d (.bl p)))) (hb:p=true->PE X (.BoolOp .And (b :: rest) pos) (dE X.K C τ (.d (.bl q)))):PE X (.BoolOp .And (a :: b :: rest) pos) (dE X.K C τ (.d (.bl (p && q)))):=by
 cases p with
 | false=>
   refine peW (k6 ha nV) λσ H Q z=>?_
   obtain ⟨A,H₀,B,S,k⟩:=cD z
   exact aR S λv H' e d=>by cases d; exact ⟨_,rfl,k _ H' e .bl⟩
 | true=>
   refine peW (k6 ha (hb rfl)) λσ H Q z=>?_
   obtain ⟨A,H₀,B,S,k⟩:=cD z
   exact aR S λv H' e d=>by cases d; exact ⟨_,rfl,aR (S.mono e) λv H2 e2 d2=>k v H2 (e.trans e2) d2⟩
theorem sj (ha:PE X a (dE X.K C τ (.d (.bl p)))) (hb:p=false->PE X (.BoolOp .Or (b :: rest) pos) (dE X.K C τ (.d (.bl q)))):PE X (.BoolOp .Or (a :: b :: rest) pos) (dE X.K C τ (.d (.bl (p || q)))):=by
 cases p with
 | true=>
   refine peW (oj ha nV) λσ H Q z=>?_
   obtain ⟨A,H₀,B,S,k⟩:=cD z
   exact aR S λv H' e d=>by cases d; exact ⟨_,rfl,k _ H' e .bl⟩
 | false=>
   refine peW (oj ha (hb rfl)) λσ H Q z=>?_
   obtain ⟨A,H₀,B,S,k⟩:=cD z
   exact aR S λv H' e d=>by cases d; exact ⟨_,rfl,aR (S.mono e) λv H2 e2 d2=>k v H2 (e.trans e2) d2⟩
theorem rl (ha:PE X a (dE X.K C τ (.d (.bl p)))):PE X (.UnaryOp .Not a pos) (dE X.K C τ (.d (.bl (!p)))):=peW (qB ha) λσ H Q z=>by
 obtain ⟨A,H₀,B,S,k⟩:=cD z
 exact aR S λv H' e d=>by cases d; exact ⟨_,rfl,k _ H' e .bl⟩
theorem oF (ha:PT X a (dT X.K τ p)):PW X (.BoolOp .And [a] pos) (dT X.K τ p):=pw_and1 ha
theorem dh (ha:PT X a (dT X.K τ p)):PW X (.BoolOp .Or [a] pos) (dT X.K τ p):=pw_or1 ha
theorem rM (ha:PT X a (dT X.K τ p)) (hb:p=true->PW X (.BoolOp .And (b :: rest) pos) (dT X.K τ q)):PW X (.BoolOp .And (a :: b :: rest) pos) (dT X.K τ (p && q)):=by
 cases p with
 | false=>exact pwW (pw_and ha pw_no) λσ H Q ⟨A,H₀,B,S,k⟩=>⟨A,H₀,B,S,λH' e=>lj (k H' e)⟩
 | true=>exact pwW (pw_and ha (hb rfl)) λσ H Q ⟨A,H₀,B,S,k⟩=>⟨A,H₀,B,S,λH' e=>kY (⟨A,H₀,B,S.mono e,λH2 e2=>k H2 (e.trans e2)⟩)⟩
theorem b8 (ha:PT X a (dT X.K τ p)) (hb:p=false->PW X (.BoolOp .Or (b :: rest) pos) (dT X.K τ q)):PW X (.BoolOp .Or (a :: b :: rest) pos) (dT X.K τ (p || q)):=by
 cases p with
 | true=>exact pwW (pw_or ha pw_no) λσ H Q ⟨A,H₀,B,S,k⟩=>⟨A,H₀,B,S,λH' e=>kY (k H' e)⟩
 | false=>exact pwW (pw_or ha (hb rfl)) λσ H Q ⟨A,H₀,B,S,k⟩=>⟨A,H₀,B,S,λH' e=>lj (⟨A,H₀,B,S.mono e,λH2 e2=>k H2 (e.trans e2)⟩)⟩
theorem bc (ha:PT X a (dT X.K τ p)):PT X (.UnaryOp .Not a pos) (dT X.K τ (!p)):=ptW (oE ha) λσ H Q ⟨A,H₀,B,S,k⟩=>⟨A,H₀,B,S,λH' e=>k H' e⟩
theorem mT {op op':CmpOp} (ha:PE X a (dE X.K C τ (.d x))) (hb:PE X b (dE X.K C τ (.d y))) (hc:PE X c (dE X.K C τ (.d z))) (h1:bO X (compareOp op) x y (.bl p)) (h2:bO X (compareOp op') y z (.bl q))
   (hm:lastMarks [op,op'] [b,c]=false:=by with_unfolding_all rfl):PE X (.Compare a [op,op'] [b,c] pos) (dE X.K C τ (.d (.bl (p && q))))/\(C=false->PT X (.Compare a [op,op'] [b,c] pos) (dT X.K τ (p && q))):=by
 obtain ⟨r,o1,k1⟩:=h1
 obtain ⟨r',o2,k2⟩:=h2
 have key:∀ σ H Q,dE X.K C τ (.d (.bl (p && q))) σ H Q->iY r r' (dE X.K C τ (.d x)) (dE X.K C τ (.d y)) (dE X.K C τ (.d z)) σ H Q:=λσ H Q h=>by
   obtain ⟨A,H₀,B,S,k⟩:=cD h
   refine aR S λv H1 e1 d1=>aR (S.mono e1) λw H2 e2 d2=>k1 (vw C A B) v w H2 _ ((S.mono e1).mono e2).vd (d1.mono (ay e2 λ_ z=>z)) d2 λu H3 e3 d3=>?_
   cases d3
   refine ⟨p,rfl,?_⟩
   cases p with
   | false=>exact lj (k _ H3 (e1.trans (e2.trans e3)) .bl)
   | true=>exact kY (aR (((S.mono e1).mono e2).mono e3) λw' H4 e4 d4=>k2 (vw C A B) w w' H4 Q ((((S.mono e1).mono e2).mono e3).mono e4).vd (d2.mono (ay (e3.trans e4) λ_ z=>z)) d4 λu H5 e5 d5=>k u H5 (e1.trans (e2.trans (e3.trans (e4.trans e5)))) d5)
 exact ⟨peW (lF o1 o2 ha hb hc hm) key,λhC=>by subst hC; exact ptW (lp o1 o2 ha hb hc hm) (kH key)⟩
theorem ah:PA X [] (dA X.K C τ []):=paW cI λσ H Q ⟨A,H₀,B,S,k⟩=>k [] H (ag.refl _) .nil
theorem aa {ds:List D} (ha:PE X e (dE X.K C τ (.d x))) (hr:PA X es (dA X.K C τ ds)) (hs:starEach (e :: es) X.env=(false,eval e X.env) :: starEach es X.env:=by rfl):PA X (e :: es) (dA X.K C τ (x :: ds)):=paW (bf ha hr hs) λσ H Q ⟨A,H₀,B,S,k⟩=>
 aR S λv H1 e1 d1=>cU (S.mono e1) λvs H2 e2 d2=>k _ H2 (e1.trans e2) (.cons (d1.mono (ay e2 λ_ z=>z)) d2)
theorem cG {ds:List D} {m} (h:PA X es (dA X.K C τ ds)) (hl:Nat.ble ds.length 1000=true:=by rfl):PE X (.Tuple es m pos) (dE X.K C τ (.d (.tup ds))):=peW (lV h) λσ H Q q=>by
 obtain ⟨A,H₀,B,S,k⟩:=cD q
 refine cU S λvs H1 e1 d1=>⟨by rw [d1.length]; exact Nat.le_of_lt (dR (Nat.le_of_ble_eq_true hl)),λp hp=>k _ _ (e1.trans (au hp _)) ?_⟩
 exact .tup (SqT.of (i4 (S.mono e1).vd hp)) (d1.mono (ay (au hp _) λ_ z=>z))
theorem a6 {ds:List D} (h:PA X es (dA X.K C τ ds)) (hl:Nat.ble ds.length 1000=true:=by rfl):PE X (.List es pos) (dE X.K C τ (.o ds)):=peW (o3 h) λσ H Q ⟨A,H₀,B,S,k⟩=>
 cU S λvs H1 e1 d1=>⟨by rw [d1.length]; exact Nat.le_of_lt (dR (Nat.le_of_ble_eq_true hl)),λp hp=>k _ _ [p] (e1.trans (au hp _)) (λb hb=>by
   obtain rfl:=List.mem_singleton.mp hb
   exact ⟨e1.free hp,_,aF⟩) ⟨p,vs,rfl,rfl,aF,d1.mono λb o z=>by
     obtain ⟨z1,z2⟩:=ao.mp z
     refine ao.mpr ⟨λy=>?_,au hp _ _ _ z2⟩
     rcases y with y | y
     · exact z1 y
     · rw [List.mem_singleton.mp y] at z2; rw [hp] at z2; cases z2⟩⟩
end
noncomputable def spD (K:PySem.W.Frag) (Φ:List D->Sl->Prop):Sp:=λvs H Q _=>∃ A ds s,(∀ b,A b->∃ o,H b=some o)/\aw K (hd H A) vs ds/\Φ ds s /\
 ∀ v H' bs,ag H H'->Fr H H' bs->bB K (hd H' λb=>A b\/b ∈ bs) H' (some v) bs s->Q v H'
noncomputable def Cal (P:Program) (w:World) (K:PySem.W.Frag) (mg:Str->Option Value) (base:Heap) (k:Nat) (n:Str) (Φ:List D->Sl->Prop):Prop:=
 ∃ f fd ps,aO P w K mg base CX0 k f fd ps (spD K Φ)/\mg n=some (.ref f)/\PySem.W.keepIn K (.ref f)=true/\Binds K fd ps []
theorem Cal.mono {P:Program} {w:World} {K:PySem.W.Frag} {mg:Str->Option Value} {base:Heap} {j k:Nat} {n:Str} {Φ:List D->Sl->Prop} (c:Cal P w K mg base j n Φ) (h:j<=k):Cal P w K mg base k n Φ:=
 let ⟨f,fd,ps,F,r⟩:=c; ⟨f,fd,ps,F.mono h,r⟩
noncomputable def ak:List Str:=["len","abs","max","min","int","bool","list","tuple","str","isinstance","range","enumerate","all","zip","sorted","sum","any","reversed"]
structure Bk (X:Cx) (k:Nat):Prop where
 room:b5 k X.A
 calm:X.calm=true
 blt:∀ x ∈ ak,X.mg x=none
 po:PassesOwn (model X.prog X.w) X.A X.env X.xe
section
variable {X:Cx} {C:Bool} {τ:List Sl} {x y z:D} {a b e:Expr} {es:List Expr} {pos p:Pos} {k:Nat} {s:Sl} {ds:List D} {i j:Int}
theorem x_call {n:Str} {Φ:List D->Sl->Prop} (B:Bk X k) (c:Cal X.prog X.w X.K X.mg X.base k n Φ) (ha:PA X (e :: es) (dA X.K C τ ds)) (h:Φ ds s) (hg:Gl X n:=by rfl) (hdb:(n == ("__debug__" : Str))=false:=by decide)
   (he:starEach (e :: es) X.env=(false,eval e X.env) :: starEach es X.env:=by rfl) (hpl:(backTo pos (starEach es X.env)).any (·.1)=false:=by rfl):PE X (.Call (.Name n p) (e :: es) [] pos) (dE X.K C τ s):=by
 obtain ⟨f,fd,ps,F,hm,hk,hb⟩:=c
 refine peW (jn F B.room hg hm hk hb .nil qU ha hdb he hpl) λσ H Q ⟨A,H₀,B,S,q⟩=>cU S λvs H1 e1 d1=>?_
 rw [List.append_nil]
 exact ⟨vw C A B,ds,s,(S.mono e1).vd,d1,h,λv H' bs e2 hf h2=>q v H' bs (e1.trans e2) (λb hb=>⟨e1.free (hf b hb).1,(hf b hb).2⟩) h2⟩
noncomputable def gW (X:Cx) (f:Value) (ds:List D) (s:Sl):Prop:=∃ r:List V->Hp->VK->Prop,cN X f r /\
 ∀ (M:Addr->Prop) (vs:List V) (H:Hp) (Q:VK),(∀ b,M b->∃ o,H b=some o)->aw X.K (hd H M) vs ds->(∀ u H' bs,ag H H'->Fr H H' bs->bB X.K (hd H' λb=>M b\/b ∈ bs) H' (some u) bs s->Q u H')->r vs H Q
theorem i8 {r:List V->Hp->VK->Prop} (hr:∀ (M:Addr->Prop) (vs:List V) (H:Hp) (Q:VK),(∀ b,M b->∃ o,H b=some o)->aw X.K (hd H M) vs ds->(∀ u H' bs,ag H H'->Fr H H' bs->bB X.K (hd H' λb=>M b\/b ∈ bs) H' (some u) bs s->Q u H')->r vs H Q) :
   ∀ σ H Q,dE X.K C τ s σ H Q->tCB r (dA X.K C τ ds) σ H Q:=λσ H Q ⟨A,H₀,B,S,q⟩=>
 cU S λvs H1 e1 d1=>hr (vw C A B) vs H1 Q (S.mono e1).vd d1 λv H' bs e2 hf h2=>q v H' bs (e1.trans e2) (λb hb=>⟨e1.free (hf b hb).1,(hf b hb).2⟩) h2
theorem cY {n:Str} {id:String} (B:Bk X k) (ha:PA X (e :: es) (dA X.K C τ ds)) (c:gW X (.builtin id) ds s) (hn:n ∈ ak:=by decide) (hg:Gl X n:=by rfl) (hv:bootBuiltins n=some (.builtin id):=by decide +kernel) (h1:n ≠ "__name__":=by decide) (hdb:(n == ("__debug__" : Str))=false:=by decide)
   (he:starEach (e :: es) X.env=(false,eval e X.env) :: starEach es X.env:=by rfl) (hpl:(backTo pos (starEach es X.env)).any (·.1)=false:=by rfl):PE X (.Call (.Name n p) (e :: es) [] pos) (dE X.K C τ s):=by
 obtain ⟨r,h1,h2⟩:=c
 exact peW (cO h1 hg (B.blt _ hn) hv ha (by assumption) hdb he hpl) (i8 h2)
theorem pW {n:Str} {T:String} (B:Bk X k) (ha:PA X (e :: es) (dA X.K C τ ds)) (c:gW X (.type T) ds s) (hn:n ∈ ak:=by decide) (hg:Gl X n:=by rfl) (hv:bootBuiltins n=some (.type T):=by decide +kernel) (h1:n ≠ "__name__":=by decide) (hdb:(n == ("__debug__" : Str))=false:=by decide)
   (he:starEach (e :: es) X.env=(false,eval e X.env) :: starEach es X.env:=by rfl) (hpl:(backTo pos (starEach es X.env)).any (·.1)=false:=by rfl):PE X (.Call (.Name n p) (e :: es) [] pos) (dE X.K C τ s):=by
 obtain ⟨r,h1,h2⟩:=c
 exact peW (ka h1 hg (B.blt _ hn) hv ha (by assumption) hdb he hpl) (i8 h2)
theorem ek {K:PySem.W.Frag} {H:Hp} {M:Addr->Prop} {v:V} (h:Den K (hd H M) v x):bB K (hd H λb=>M b\/b ∈ ([]:List Addr)) H (some v) [] (.d x):=⟨rfl,v,rfl,h.mono (ay (ag.refl _) λ_ z=>z.elim id λz=>nomatch z)⟩
theorem cg {H H':Hp}:Fr H H' []:=λ_ z=>nomatch z
theorem jM {xs:List D}:gW X (.builtin "len") [.lst xs] (.d (.int xs.length)):=⟨_,dD,λM vs H Q _ d q=>by
 cases d with
 | cons d r=>
   cases r
   cases d with
   | lst h r=>
     refine ⟨_,_,rfl,.inl (aI aM h),?_⟩
     rw [r.length]
     exact q _ H [] (ag.refl _) cg (ek .int)⟩
theorem eI {xs:List D}:gW X (.builtin "len") [.tup xs] (.d (.int xs.length)):=⟨_,dD,λM vs H Q _ d q=>by
 cases d with
 | cons d r=>
   cases r
   cases d with
   | tup h r=>
     refine ⟨_,_,rfl,.inr (aV aM h),?_⟩
     rw [r.length]
     exact q _ H [] (ag.refl _) cg (ek .int)⟩
noncomputable def mr (i:Int):Int:=if i < 0 then -i else i
theorem ib:gW X (.builtin "abs") [.int i] (.d (.int (mr i))):=⟨_,kU,λM vs H Q _ d q=>by
 cases d with
 | cons d r=>
   cases r
   cases d
   exact ⟨_,rfl,q _ H [] (ag.refl _) cg (ek .int)⟩⟩
theorem rj (hc:X.calm=true):gW X (.builtin "max") [.int i,.int j] (.d (.int (if j > i then j else i))):=⟨_,j2 hc,λM vs H Q _ d q=>by
 cases d with
 | cons d r=>
   cases r with
   | cons d' r=>
     cases r
     cases d
     cases d'
     exact ⟨_,_,rfl,q _ H [] (ag.refl _) cg (ek .int)⟩⟩
theorem gK {K:PySem.W.Frag} {H:Hp} {M:Addr->Prop} {p:Addr} {vs:List V} {xs:List D} (hp:H p=none) (d:aw K (hd H M) vs xs) :
   ag H (upd H p (.lst vs))/\Fr H (upd H p (.lst vs)) [p]/\bB K (hd (upd H p (.lst vs)) λb=>M b\/b ∈ [p]) (upd H p (.lst vs)) (some (.ref p)) [p] (.o xs):=
 ⟨au hp _,λb hb=>by
   obtain rfl:=List.mem_singleton.mp hb
   exact ⟨hp,_,aF⟩,p,vs,rfl,rfl,aF,d.mono λb o z=>by
     obtain ⟨z1,z2⟩:=ao.mp z
     refine ao.mpr ⟨λy=>?_,au hp _ _ _ z2⟩
     rcases y with y | y
     · exact z1 y
     · rw [List.mem_singleton.mp y] at z2; rw [hp] at z2; cases z2⟩
theorem lI {xs:List D}:gW X (.type "list") [.lst xs] (.o xs):=⟨_,gB,λM vs H Q _ d q=>by
 cases d with
 | cons d r=>
   cases r
   cases d with
   | lst h r=>
     refine ⟨_,_,rfl,.inl (aI aM h),λp hp=>?_⟩
     obtain ⟨z1,z2,z3⟩:=gK (K:=X.K) (M:=M) hp r
     exact q _ _ [p] z1 z2 z3⟩
theorem kK {K:PySem.W.Frag} {H:Hp} {vs:List V} {ds:List D} {i:Int} {d:D} (r:aw K H vs ds) (h:atI ds i=some d):∃ v,atI vs i=some v/\Den K H v d:=by
 unfold atI at h ⊢
 rw [r.length]
 cases e:ixN ds.length i with
 | none=>rw [e] at h; cases h
 | some j=>rw [e] at h; exact r.get h
noncomputable def qI (X:Cx) (x y z:D):Prop:=∃ r:R2,IxR X r /\
 ∀ (M:Addr->Prop) (v w:V) (H:Hp) (Q:VK),(∀ b,M b->∃ o,H b=some o)->Den X.K (hd H M) v x->Den X.K (hd H M) w y->(∀ u H',ag H H'->Den X.K (hd H' M) u z->Q u H')->r v w H Q
theorem aJ (ha:PE X a (dE X.K C τ (.d x))) (hb:PE X b (dE X.K C τ (.d y))) (ho:qI X x y z) (hs:eA b:=by exact λ_ _=>rfl):PE X (.Subscript a b pos) (dE X.K C τ (.d z)):=by
 obtain ⟨r,h1,h2⟩:=ho
 exact peW (kF h1 ha hb hs) (two h2)
theorem ba {xs:List D} (h:atI xs i=some z):qI X (.lst xs) (.int i) z:=⟨_,ju,λM v w H Q _ d1 d2 q=>by
 cases d2
 cases d1 with
 | lst hs r=>
   obtain ⟨v,e,d⟩:=kK r h
   exact ⟨_,_,_,_,rfl,rfl,aI aM hs,e,q _ H (ag.refl _) d⟩⟩
theorem aL {xs:List D} (h:atI xs i=some z):qI X (.tup xs) (.int i) z:=⟨_,kx,λM v w H Q _ d1 d2 q=>by
 cases d2
 cases d1 with
 | tup hs r=>
   obtain ⟨v,e,d⟩:=kK r h
   exact ⟨_,_,_,_,rfl,rfl,aV aM hs,e,q _ H (ag.refl _) d⟩⟩
noncomputable def dO (K:PySem.W.Frag) (τ:List Sl) (c:Option Int):TO:=λσ H Q=>∃ A H₀ B,Sta K A H₀ τ B σ H/\∀ H',ag H H'->Q c H'
theorem sU {e:Option Expr} {t t':TO} (h:PO X e t) (f:∀ σ H Q,t' σ H Q->t σ H Q):PO X e t':=λpins s σ H Q I q=>h pins s σ H Q I (f σ H Q q)
theorem mn (h:PE X e (dE X.K false τ (.d (.int i)))):PO X (some e) (dO X.K τ (some i)):=sU (mK h) λσ H Q ⟨A,H₀,B,S,k⟩=>aR S λv H1 e1 d1=>by
 cases d1
 exact ⟨_,rfl,k H1 e1⟩
noncomputable def cutD (xs:List D) (lo hi:Option Int):List D:=(xs.drop (HT.sIx xs.length 0 lo)).take (HT.sIx xs.length xs.length hi - HT.sIx xs.length 0 lo)
theorem tj {lo hi:Option Expr} {l u:Option Int} {xs:List D} {p2:Pos} (ha:PE X a (dE X.K C τ (.d (.lst xs)))) (hl:PO X lo (dO X.K τ l)) (hu:PO X hi (dO X.K τ u)):PE X (.Subscript a (.Slice lo hi none p2) pos) (dE X.K C τ (.o (cutD xs l u))):=
 peW (lP mX ha hl hu) λσ H Q ⟨A,H₀,B,S,k⟩=>aR S λv H1 e1 d1=>⟨A,H₀,B,S.mono e1,λH2 e2=>⟨A,H₀,B,(S.mono e1).mono e2,λH3 e3=>by
   cases d1 with
   | @lst _ ws _ h r=>
     have h:=aI (e2.trans e3) (aI aM h)
     refine ⟨_,_,rfl,h,λp hp=>?_⟩
     have r:=r.mono (ay (e2.trans e3) λ_ z=>z)
     have r':aw X.K (hd H3 (vw C A B)) (kj ws l u) (cutD xs l u):=by
       unfold kj cutD
       rw [r.length]
       exact (r.drop _).take _
     obtain ⟨z1,z2,z3⟩:=gK (K:=X.K) hp r'
     exact k _ _ [p] (e1.trans (e2.trans (e3.trans z1))) (λb hb=>⟨(e1.trans (e2.trans e3)).free (z2 b hb).1,(z2 b hb).2⟩) z3⟩⟩
inductive Ty where
 | int | bool | str | list | tuple
noncomputable def tyN:Ty->String
 | .int=>"int" | .bool=>"bool" | .str=>"str" | .list=>"list" | .tuple=>"tuple"
noncomputable def qZ:D->String
 | .non=>"NoneType" | .bl _=>"bool" | .int _=>"int" | .str _=>"str" | .tup _=>"tuple" | .lst _=>"list" | .box _=>"dict"
noncomputable def du:Ty->D->Bool
 | .int,.int _=>true
 | .int,.bl _=>true
 | .bool,.bl _=>true
 | .str,.str _=>true
 | .list,.lst _=>true
 | .tuple,.tup _=>true
 | _,_=>false
theorem oB (K:PySem.W.Frag) (d:D) (t:Ty):PySem.W.kitOne K (.type (qZ d)) (.type (tyN t))=some (du t d):=by
 cases d <;> cases t <;> (show PySem.W.kitOne K (.type _) (.type _)=some _) <;> with_unfolding_all rfl
theorem pq (t:Ty):cN X (.builtin "isinstance") (λxs H Q=>∃ G x d,ag G H/\xs=[x,.ty (tyN t)]/\Den X.K G x d/\Q (.bl (du t d)) H):=by
 intro pins s σ H xs us Q I r q
 obtain ⟨G,x,d,sg,rfl,dx,q⟩:=q
 obtain ⟨u,w,rfl,rx,rt⟩:∃ u w,us=[u,w]/\RelV x u/\RelV (.ty (tyN t)) w:=by
   cases r with
   | cons r1 r=>cases r with
     | cons r2 r=>cases r; exact ⟨_,_,rfl,r1,r2⟩
 cases (show w=Value.type (tyN t) from rt)
 have kt:=oB X.K d t
 have fin:∀ tk,EP X pins σ Q (.bool (du t d)) { s with toks:=tk }:=λtk=>⟨.bl _,H,I.tok _,rfl,q⟩
 cases dx with
 | non=>cases (show u=Value.none from rx); exact PySem.W.kia_one PySem.W.kitx_none I.kIn True.intro kt (λz=>nomatch z) fin
 | bl=>cases (show u=Value.bool _ from rx); exact PySem.W.kia_one PySem.W.kitx_bool I.kIn True.intro kt (λz=>nomatch z) fin
 | int=>obtain ⟨t',z⟩:=(show ∃ t,u=Value.int _ t from rx); cases z; exact PySem.W.kia_one PySem.W.kitx_int I.kIn True.intro kt (λz=>nomatch z) fin
 | str=>obtain ⟨t',z⟩:=(show ∃ t,u=Value.str _ t from rx); cases z; exact PySem.W.kia_one PySem.W.kitx_str I.kIn True.intro kt (λz=>nomatch z) fin
 | tup h r1=>
   cases (show u=Value.ref _ from rx)
   obtain ⟨its,_,⟨o,h1,h2,_⟩,_⟩:=I.tuple (aV sg h)
   exact PySem.W.kia_one PySem.W.kitx_tuple I.kIn ⟨o,h1,h2⟩ kt (λz=>nomatch z) fin
 | lst h r1=>
   cases (show u=Value.ref _ from rx)
   obtain ⟨its,_,⟨o,n,h1,h2,_⟩,_⟩:=I.list (aI sg h)
   exact PySem.W.kia_one PySem.W.kitx_list I.kIn ⟨o,h1,h2⟩ kt (λz=>nomatch z) fin
 | @box a x h=>
   cases (show u=Value.ref _ from rx)
   obtain ⟨o',h1,h2⟩:=x.isd h
   obtain ⟨o,h3,h4⟩:=h2 _ _ _ _ (I.hok a _ (sg _ _ h1))
   exact PySem.W.kia_one PySem.W.kitx_dict I.kIn ⟨o,h3,h4⟩ kt (λz=>nomatch z) fin
theorem bW {n:Str} {q:Pos} (t:Ty) (B:Bk X k) (ha:PE X a (dE X.K false τ (.d x))) (hn:n ∈ ak:=by decide) (ht:bootBuiltins n=some (.type (tyN t)):=by decide +kernel) (hg:Gl X "isinstance":=by rfl) (hg':Gl X n:=by rfl) (h1:n ≠ "__name__":=by decide) (hdb:(n == ("__debug__" : Str))=false:=by decide)
   (he:starEach [a,.Name n q] X.env=(false,eval a X.env) :: starEach [.Name n q] X.env:=by rfl) (hpl:(backTo pos (starEach [.Name n q] X.env)).any (·.1)=false:=by rfl):PE X (.Call (.Name "isinstance" p) [a,.Name n q] [] pos) (dE X.K C τ (.d (.bl (du t x)))):=by
 refine peW (cO (pq t) hg (B.blt _ (by decide)) (by decide +kernel) (bf ha (bf (jw (v:=.ty (tyN t)) hg' (B.blt _ hn) ht rfl h1 hdb) cI) he) (by decide) (by decide) he hpl) λσ H Q q=>?_
 obtain ⟨A,H₀,B,S,k⟩:=cD q
 exact aR S λv H1 e1 d1=>⟨_,v,x,aM,rfl,d1,k _ H1 e1 .bl⟩
end
section
variable {K:PySem.W.Frag} {A:Addr->Prop} {H₀ H H':Hp} {τ:List Sl} {B:Nat->List Addr} {σ:L2.St}
theorem Sta.put (S:Sta K A H₀ τ B σ H) {i:Nat} {a:Addr} {xs ys:List D} {vs:List V} (hi:τ[i]?=some (.o xs)) (hB:B i=[a]) (d:aw K (hd H (own A B)) vs ys):Sta K A H₀ (τ.set i (.o ys)) B σ (upd H a (.lst vs)):=by
 have ha:own A B a:=.inr ⟨i,by rw [hB]; exact List.mem_singleton.mpr rfl⟩
 have ne:∀ b,b ≠ a->upd H a (.lst vs) b=H b:=λb h=>aq h
 have sm:ag (hd H (own A B)) (hd (upd H a (.lst vs)) (own A B)):=λb o z=>by
   obtain ⟨z1,z2⟩:=ao.mp z
   exact ao.mpr ⟨z1,by rw [ne b (λe=>z1 (e ▸ ha))]; exact z2⟩
 have f0:H₀ a=none:=S.fr i a (by rw [hB]; exact List.mem_singleton.mpr rfl)
 have hs:ag H₀ (upd H a (.lst vs)):=λb o z=>by rw [ne b (λe=>by rw [e,f0] at z; cases z)]; exact S.same b o z
 refine ⟨hs,by rw [List.length_set,S.len],λj t hj=>?_,S.fr,S.uq,S.ad,λj b hb=>?_⟩
 · by_cases ej:j=i
   · subst ej
     have hl:=(List.getElem?_eq_some_iff.mp hi).1
     rw [List.getElem?_set_self hl] at hj
     cases hj
     obtain ⟨a',vs',e1,e2,_,_⟩:=S.sl j _ hi
     rw [hB] at e1
     cases e1
     exact ⟨a,vs,hB,e2,aF,d.mono sm⟩
   · rw [List.getElem?_set_ne (λz=>ej z.symm)] at hj
     have q:=S.sl j t hj
     have off:∀ b ∈ B j,b ≠ a:=λb hb e=>ej (S.uq j i a (e ▸ hb) (by rw [hB]; exact List.mem_singleton.mpr rfl))
     cases t with
     | un=>exact q
     | d x=>obtain ⟨z,u,e,d⟩:=q; exact ⟨z,u,e,d.mono sm⟩
     | o zs=>
       obtain ⟨c,ws,z1,z2,z3,z4⟩:=q
       exact ⟨c,ws,z1,z2,by rw [ne c (off c (by rw [z1]; exact List.mem_singleton.mpr rfl))]; exact z3,z4.mono sm⟩
     | n t=>
       obtain ⟨z0,u,z1,z2⟩:=q
       exact ⟨z0,u,z1,z2.frame sm λb hb=>ne b (off b hb)⟩
     | x E=>
       obtain ⟨c,o,z1,z2,z3,z4⟩:=q
       exact ⟨c,o,z1,z2,by rw [ne c (off c (by rw [z1]; exact List.mem_singleton.mpr rfl))]; exact z3,E.mono sm z4⟩
 · by_cases e:b=a
   · subst e; exact ⟨_,aF⟩
   · rw [ne b e]; exact S.bd j b hb
theorem Sta.fz (S:Sta K A H₀ τ B σ H) {i:Nat} {s:Sl} {x:D} (hi:τ[i]?=some s) (hx:fzD s=some x):Sta K A H₀ (τ.set i (.d x)) (upB B i []) σ H:=
 S.less (λ_ z=>nomatch z) λG g hv=>by
   obtain ⟨u,e,d⟩:=(S.sl i s hi).den (G':=G) g (λb hb o ho=>hv b o hb (λz=>nomatch z) ho) hx
   exact ⟨rfl,u,e,d⟩
theorem Sta.un (S:Sta K A H₀ τ B σ H) (i:Nat):Sta K A H₀ (τ.set i .un) (upB B i []) σ H:=S.less (λ_ z=>nomatch z) λG g hv=>rfl
end
section
variable {X:Cx} {C:Bool} {τ:List Sl} {x y z:D} {a b e c:Expr} {es:List Expr} {pos p:Pos} {k:Nat} {s:Sl} {ds:List D} {N:Po} {st:Stmt} {rest body els:List Stmt}
theorem bD (h:N.nx τ):PSs X [] (dS X.K τ N):=lU mL λD σ H ⟨A,H₀,B,S,M⟩=>M.nx τ B σ H h S
theorem bg {M:List Sl->Prop} (h1:PS X st (dS X.K τ { N with nx:=M })) (h2:∀ τ',M τ'->PSs X rest (dS X.K τ' N)):PSs X (st :: rest) (dS X.K τ N):=by
 have h:PSs X rest λD σ H=>∃ τ',M τ'/\dS X.K τ' N D σ H:=λpins s σ H D I ⟨τ',m,q⟩=>h2 τ' m pins s σ H D I q
 exact lU (lK h1 h) λD σ H ⟨A,H₀,B,S,Me⟩=>⟨A,H₀,B,S,λτ' B' σ' H' m S'=>⟨τ',m,A,H₀,B',S',Me⟩,Me.bk,Me.ct,Me.rt,Me.xc⟩
theorem eO (i:Nat) {s:Sl} {x:D} (h:PSs X rest (dS X.K (τ.set i (.d x)) N)) (hi:τ[i]?=some s:=by rfl) (hx:fzD s=some x:=by rfl):PSs X rest (dS X.K τ N):=lU h λD σ H ⟨A,H₀,B,S,Me⟩=>⟨A,H₀,_,S.fz hi hx,Me⟩
theorem aE (i:Nat) {n:Str} {p:Pos} (hN:X.N.Nodup) (he:PE X e (dE X.K true τ s)) (hr:PSs X rest (dS X.K (τ.set i s) N)) (hi:X.N[i]?=some n:=by rfl) (hx:Loc X.env.scope n:=by first | exact .inl rfl | exact .inr rfl) (hs:swapsWith e (some (.Name n p)) pos.line X.env=pure false:=by rfl)
   (hf:X.fn n=true\/X.env.scope.names.lookup n=some .local:=by first | exact .inl rfl | exact .inr rfl | assumption):PSs X (.Assign [.Name n p] e pos :: rest) (dS X.K τ N):=
 bg (M:=(·=τ.set i s)) (psW (qt hN hi hx he hs hf) λD σ H ⟨A,H₀,B,S,Me⟩=>⟨A,H₀,B,S,λv H' bs e hf h=>Me.nx _ _ _ _ rfl (S.set e hf h)⟩) λ_ e=>e ▸ hr
theorem aH (he:PE X e (dE X.K false τ s)) (h:N.rt s):PSs X (.Return (some e) pos :: rest) (dS X.K τ N):=
 bg (M:=λ_=>False) (psW (gy he) λD σ H ⟨A,H₀,B,S,Me⟩=>⟨A,H₀,B,S,λv H' bs e hf q=>Me.rt v H' bs s h (S.same.trans e) (λb hb=>⟨S.same.free (hf b hb).1,(hf b hb).2⟩) q⟩) λ_ e=>e.elim
theorem me (i:Nat) {n:Str} (h:N.rt s) (hi:τ[i]?=some s:=by rfl) (h0:s ≠ .un:=by exact nofun) (hN:X.N[i]?=some n:=by rfl) (hv:Vis X.env.scope n:=by first | exact Or.inl rfl | exact Or.inr (Or.inl rfl) | exact Or.inr (Or.inr rfl))
   (hd:(n == ("__debug__" : Str))=false:=by decide) (hcd:(n == ("__classdict__" : Str))=false:=by decide):PSs X (.Return (some (.Name n p)) pos :: rest) (dS X.K τ N):=
 bg (M:=λ_=>False) (psW (gy (b9 hN hv hd hcd)) λD σ H ⟨A,H₀,B,S,Me⟩=>by
   have q:=S.sl i s hi
   obtain ⟨u,e⟩:∃ u,(σ[i]?).join=some u:=by
     cases s with
     | un=>exact absurd rfl h0
     | d x=>obtain ⟨_,u,e,_⟩:=q; exact ⟨u,e⟩
     | o xs=>obtain ⟨_,_,_,e,_⟩:=q; exact ⟨_,e⟩
     | n t=>obtain ⟨_,u,e,_⟩:=q; exact ⟨u,e⟩
     | x E=>obtain ⟨_,_,_,e,_⟩:=q; exact ⟨_,e⟩
   rw [e] at q
   exact ⟨u,slot_of e,Me.rt u H (B i) s h S.same (λb hb=>⟨S.fr i b hb,S.bd i b hb⟩) (q.mono (ay (ag.refl _) λb z=>z.elim .inl λz=>.inr ⟨i,z⟩) (ag.refl _))⟩) λ_ e=>e.elim
theorem n8 {H H':Hp} {σ:L2.St} {D:Ends} {A:Addr->Prop} {H₀:Hp} {B:Nat->List Addr} (S:Sta X.K A H₀ τ B σ H) (Me:Meets X.K A H₀ N D) (e:ag H H'):dS X.K τ N D σ H':=⟨A,H₀,B,S.mono e,Me⟩
theorem tq {t:Bool} (hc:PT X c (dT X.K τ t)) (ha:t=true->PSs X body (dS X.K τ N)) (hb:t=false->PSs X els (dS X.K τ N)):PS X (.If c body els pos) (dS X.K τ N):=by
 cases t with
 | true=>exact psW (n9 hc (ha rfl) fY) λD σ H ⟨A,H₀,B,S,Me⟩=>⟨A,H₀,B,S,λH' e=>kY (n8 S Me e)⟩
 | false=>exact psW (n9 hc fY (hb rfl)) λD σ H ⟨A,H₀,B,S,Me⟩=>⟨A,H₀,B,S,λH' e=>lj (n8 S Me e)⟩
theorem gX {t:Bool} {M:List Sl->Prop} (hc:PT X c (dT X.K τ t)) (ha:t=true->PSs X body (dS X.K τ { N with nx:=M })) (hb:t=false->PSs X els (dS X.K τ { N with nx:=M })) (hr:∀ τ',M τ'->PSs X rest (dS X.K τ' N)):PSs X (.If c body els pos :: rest) (dS X.K τ N):=
 bg (tq hc ha hb) hr
theorem bo {t:Bool} (hc:PT X c (dT X.K τ t)) (ha:t=true->PSs X body (dS X.K τ { N with nx:=λ_=>False })) (hr:t=false->PSs X rest (dS X.K τ N)):PSs X (.If c body [] pos :: rest) (dS X.K τ N):=by
 cases t with
 | true=>exact gX (M:=λ_=>False) hc ha (λz=>nomatch z) λ_ z=>z.elim
 | false=>exact gX (M:=(·=τ)) hc (λz=>nomatch z) (λ_=>bD rfl) λ_ e=>e ▸ hr rfl
theorem jk {t:Bool} (hc:PT X c (dT X.K τ t)) (ht:t=false) (hr:PSs X rest (dS X.K τ N)):PSs X (.If c body [] pos :: rest) (dS X.K τ N):=bo hc (λz=>by rw [ht] at z; cases z) λ_=>hr
theorem ir (i:Nat) {n:Str} {xs:List D} {ap cp:Pos} (he:PE X e (dE X.K true τ (.d x))) (hl:xs.length < 1000000) (hr:PSs X rest (dS X.K (τ.set i (.o (xs++[x]))) N)) (hi:τ[i]?=some (.o xs):=by rfl) (hN:X.N[i]?=some n:=by rfl)
   (hv:Vis X.env.scope n:=by first | exact Or.inl rfl | exact Or.inr (Or.inl rfl) | exact Or.inr (Or.inr rfl)) (hd:(n == ("__debug__" : Str))=false:=by decide) (hcd:(n == ("__classdict__" : Str))=false:=by decide)
   (hfew:((backTo cp (starEach [e] X.env)).all (λx=>!x.1) && (backToKw cp (keywordEach [] X.env)).all (λx=>x.1.isSome) && decide (([e]:List Expr).length + ([]:List Keyword).length + (if ([]:List Keyword).isEmpty then 0 else 1) < 30))=true:=by rfl)
   (hline:(ap.endLine == cp.line)=true:=by rfl) (hst:starEach [e] X.env=(false,eval e X.env) :: starEach [] X.env:=by rfl) (hpl:(backTo cp (starEach [] X.env)).any (·.1)=false:=by rfl)
   (hs:swapsWith (.Call (.Attribute (.Name n p) "append" ap) [e] [] cp) none pos.line X.env=pure false:=by rfl) (hbase:attributeBase (.Name n p) "append" X.env (eval (.Name n p) X.env)=eval (.Name n p) X.env:=by rfl) :
   PSs X (.Expr (.Call (.Attribute (.Name n p) "append" ap) [e] [] cp) pos :: rest) (dS X.K τ N):=
 bg (M:=(·=τ.set i (.o (xs++[x])))) (psW (gQ (nR PySem.F.plainAttrs_list PySem.F.slot_list_append PySem.F.type_list_append dJ (b9 hN hv hd hcd) (bf he cI hst) hbase hfew hline hst hpl) hs) λD σ H ⟨A,H₀,B,S,Me⟩=>by
   obtain ⟨l,vs,hb,e1,e2,d⟩:=S.sl i _ hi
   refine ⟨_,slot_of e1,.inl ⟨rfl,_,SqL.of e2⟩,aR S λv H1 e3 d1=>⟨l,vs,v,rfl,rfl,e3 _ _ e2,by rw [d.length]; exact Nat.lt_trans hl (by decide),?_⟩⟩
   exact Me.nx _ _ _ _ rfl ((S.mono e3).put hi hb ((d.mono (ay e3 λ_ z=>z)).append (.cons d1 .nil)))) λ_ e=>e ▸ hr
end
end Hy
namespace Hy
open PySem PySem.Spec PyProof.Rows L2
open Ev (D Den aw au aV aI Ite Itz Itv sa qF ot jG mf ll az dW cE PTs cn cS)
noncomputable def Yl (K:PySem.W.Frag) (J:L2.It) (xs:List D) (G:Hp):Prop:=∀ H,ag G H->(∀ i,xs.length<=i->J.stop i H)/\∀ (i:Nat) (h:i < xs.length),J.go i H /\
 ∀ x H',J.yld i H x H'->ag H H'/\∀ M:Addr->Prop,(∀ b,M b->∃ o,H b=some o)->ag G (hd H M)->Den K (hd H' M) x xs[i]
noncomputable def dI (K:PySem.W.Frag) (τ:List Sl) (xs:List D):TI:=λσ H R=>∃ A H₀ B,Sta K A H₀ τ B σ H/\∀ J H',ag H H'->Yl K J xs (hd H' (own A B))->R J H'
noncomputable def dG (K:PySem.W.Frag) (τ:List Sl) (x:D) (τ':List Sl):TG:=λv σ H Q=>∃ A H₀ B,Sta K A H₀ τ B σ H/\Den K (hd H (own A B)) v x/\∀ σ' B',Sta K A H₀ τ' B' σ' H->Q σ' H
theorem piW {X:Cx} {tg e:Expr} {t t':TI} (h:PI X tg e t) (f:∀ σ H Q,t' σ H Q->t σ H Q):PI X tg e t':=λpins s σ H Q I q=>h pins s σ H Q I (f σ H Q q)
theorem pgW {X:Cx} {e:Expr} {t t':TG} (h:PG X e t) (f:∀ v σ H Q,t' v σ H Q->t v σ H Q):PG X e t':=λpins s σ H v u Q I r q=>h pins s σ H v u Q I r (f v σ H Q q)
section
variable {K:PySem.W.Frag} {G:Hp} {a:Addr} {vs:List V} {xs:List D}
theorem mC (h:SqL K G a vs) (r:aw K G vs xs):Yl K (Itl K a) xs G:=by
 intro H sg
 have hl:=r.length
 refine ⟨λi hi=>⟨vs,aI sg h,by omega⟩,λi hi=>?_⟩
 obtain ⟨v,hv,dv⟩:=r.get (List.getElem?_eq_getElem hi)
 refine ⟨⟨vs,v,aI sg h,hv⟩,λx H' ⟨e1,e2⟩=>?_⟩
 subst e1
 have ex:x=v:=by have:=e2 vs (aI sg h); rw [hv] at this; exact (Option.some.inj this).symm
 subst ex
 exact ⟨ag.refl _,λM _ sv=>dv.mono sv⟩
noncomputable def fN (lo:Int) (n:Nat):List D:=(List.range n).map λk=>D.int (lo + (k:Nat))
theorem a9 (lo:Int) (n:Nat):(fN lo n).length=n:=by simp [fN]
theorem jK (lo:Int) (n i:Nat) (h:i < (fN lo n).length):(fN lo n)[i]=.int (lo + (i:Nat)):=by simp [fN]
theorem kT (lo:Int) (n:Nat):Yl K (Itr lo n) (fN lo n) G:=by
 intro H sg
 refine ⟨λi hi=>by rw [a9] at hi; exact hi,λi hi=>?_⟩
 have hi':i < n:=by rw [a9] at hi; exact hi
 refine ⟨hi',λx H' ⟨e1,e2⟩=>?_⟩
 subst e1 e2
 refine ⟨ag.refl _,λM _ sv=>?_⟩
 rw [jK]
 exact .int
noncomputable def gD (xs:List D):List D:=(List.range xs.length).map λi=>D.tup [.int (i:Nat),xs.getD i .non]
theorem dC (xs:List D):(gD xs).length=xs.length:=by simp [gD]
theorem js (xs:List D) (i:Nat) (h:i < (gD xs).length):(gD xs)[i]=.tup [.int (i:Nat),xs.getD i .non]:=by simp [gD]
theorem qk (h:SqL K G a vs) (r:aw K G vs xs):Yl K (Ite K a) (gD xs) G:=by
 intro H sg
 have hl:=r.length
 have el:=dC xs
 refine ⟨λi hi=>⟨vs,aI sg h,by omega⟩,λi hi=>?_⟩
 have hi':i < xs.length:=by omega
 obtain ⟨v,hv,dv⟩:=r.get (List.getElem?_eq_getElem hi')
 refine ⟨⟨vs,v,aI sg h,hv⟩,λy H' ⟨p,x,hp,e0,e1,e2⟩=>?_⟩
 subst e0 e1
 have ex:x=v:=by have:=e2 vs (aI sg h); rw [hv] at this; exact (Option.some.inj this).symm
 subst ex
 refine ⟨au hp _,λM hM sv=>?_⟩
 rw [js,show xs.getD i .non=xs[i] by simp [List.getD,hi']]
 exact .tup (SqT.of (i4 hM hp)) (.cons .int (.cons (dv.mono (sv.trans (ay (au hp _) λ_ z=>z))) .nil))
end
section
variable {X:Cx} {C:Bool} {τ:List Sl} {x y z:D} {a b e c tg it:Expr} {es:List Expr} {pos p q:Pos} {k:Nat} {s:Sl} {xs:List D} {N:Po} {st:Stmt} {rest body els:List Stmt}
theorem jc (h:PE X it (dE X.K true τ (.d (.lst xs)))) (hc:X.calm=true:=by first | rfl | assumption):PI X tg it (dI X.K τ xs):=piW (mP hc h) λσ H R ⟨A,H₀,B,S,k⟩=>aR S λv H1 e1 d1=>by
 cases d1 with
 | lst h r=>exact ⟨_,rfl,⟨_,aI aM h⟩,k _ H1 e1 (mC h r)⟩
theorem mm {n:Int} (B:Bk X k) (h:PE X a (dE X.K false τ (.d (.int n)))) (h1:-(2 ^ 62)<=n) (h2:n < 2 ^ 62) (hg:Gl X "range":=by rfl) (hs:starEach [a] X.env=[(false,eval a X.env)]:=by rfl):PI X tg (.Call (.Name "range" p) [a] [] pos) (dI X.K τ (fN 0 n.toNat)):=
 piW (gb (.inl B.calm) hg (B.blt _ (by decide)) (aa h ah hs) hs) λσ H R ⟨A,H₀,B,S,k⟩=>cU S λvs H1 e1 d1=>by
   cases d1 with
   | cons d r=>
     cases r
     cases d
     exact ⟨n,rfl,h1,h2,k _ H1 e1 (kT 0 _)⟩
theorem qR {ts:List Expr} {m:Nat} {tp:Pos} (B:Bk X k) (h:PE X a (dE X.K true τ (.d (.lst xs)))) (hg:Gl X "enumerate":=by rfl) (hs:starEach [a] X.env=[(false,eval a X.env)]:=by rfl):PI X (.Tuple ts m tp) (.Call (.Name "enumerate" p) [a] [] pos) (dI X.K τ (gD xs)):=
 piW (jG B.calm hg (B.blt _ (by decide)) (aa h ah hs) hs) λσ H R ⟨A,H₀,B,S,k⟩=>cU S λvs H1 e1 d1=>by
   cases d1 with
   | cons d r=>
     cases r
     cases d with
     | lst h r=>exact ⟨_,rfl,⟨_,aI aM h⟩,k _ H1 e1 (qk h r)⟩
theorem qH (i:Nat) {n:Str} (hN:X.N.Nodup) (hi:X.N[i]?=some n:=by rfl) (hx:Loc X.env.scope n:=by first | exact .inl rfl | exact .inr rfl) (hf:X.fn n=true\/X.env.scope.names.lookup n=some .local:=by first | exact .inl rfl | exact .inr rfl | assumption):PG X (.Name n p) (dG X.K τ x (τ.set i (.d x))):=
 pgW (de (i:=i) hN hi hx hf) λv σ H Q ⟨A,H₀,B,S,d,k⟩=>k _ _ (S.set (ag.refl _) (bs:=[]) (λ_ z=>nomatch z) (ek d))
theorem rA (i j:Nat) {n m:Str} {p2 pt:Pos} {md:Nat} (hc:X.calm=true) (hN:X.N.Nodup) (hi:X.N[i]?=some n:=by rfl) (hj:X.N[j]?=some m:=by rfl) (hx:Loc X.env.scope n:=by first | exact .inl rfl | exact .inr rfl) (hy:Loc X.env.scope m:=by first | exact .inl rfl | exact .inr rfl)
   (hf:X.fn n=true\/X.env.scope.names.lookup n=some .local:=by first | exact .inl rfl | exact .inr rfl | assumption) (hf':X.fn m=true\/X.env.scope.names.lookup m=some .local:=by first | exact .inl rfl | exact .inr rfl | assumption) :
   PG X (.Tuple [.Name n p,.Name m p2] md pt) (dG X.K τ (.tup [x,y]) ((τ.set i (.d x)).set j (.d y))):=by
 refine pgW (kX hc (eY (de (i:=i) hN hi hx hf) (eY (de (i:=j) hN hj hy hf') jz))) λv σ H Q ⟨A,H₀,B,S,d,k⟩=>?_
 cases d with
 | tup h r=>
   cases r with
   | cons d1 r=>
     cases r with
     | cons d2 r=>
       cases r
       have S1:=S.set (i:=i) (ag.refl _) (bs:=[]) (λ_ z=>nomatch z) (ek d1)
       have sub:∀ b,own A (upB B i []) b->own A B b:=λb z=>z.elim .inl λ⟨j,z⟩=>(aP z).elim (λz=>nomatch z.2) λz=>.inr ⟨j,z.2⟩
       exact ⟨_,_,rfl,aV aM h,rfl,_,_,rfl,_,_,rfl,rfl,k _ _ (S1.set (i:=j) (ag.refl _) (bs:=[]) (λ_ z=>nomatch z) (ek (d2.mono (ay (ag.refl _) sub))))⟩
theorem Sta.base {K:PySem.W.Frag} {A:Addr->Prop} {H₀ H:Hp} {τ:List Sl} {B:Nat->List Addr} {σ:L2.St} (S:Sta K A H₀ τ B σ H):ag H₀ (hd H λb=>∃ i,b ∈ B i)/\Sta K A (hd H λb=>∃ i,b ∈ B i) τ B σ H:=by
 have s0:ag H₀ (hd H λb=>∃ i,b ∈ B i):=λb o h=>ao.mpr ⟨λ⟨i,z⟩=>(by rw [S.fr i b z] at h; cases h),S.same _ _ h⟩
 exact ⟨s0,aM,S.len,S.sl,λi b hb=>by
   cases e:hd H (λb=>∃ i,b ∈ B i) b with
   | none=>rfl
   | some o=>exact absurd ⟨i,hb⟩ (ao.mp e).1,S.uq,λb hb=>let ⟨o,q⟩:=S.ad b hb; ⟨o,s0 _ _ q⟩,S.bd⟩
theorem Sta.back {K:PySem.W.Frag} {A:Addr->Prop} {H₀ G H:Hp} {τ:List Sl} {B:Nat->List Addr} {σ:L2.St} (S:Sta K A G τ B σ H) (s:ag H₀ G) (ad:∀ b,A b->∃ o,H₀ b=some o):Sta K A H₀ τ B σ H:=
 ⟨s.trans S.same,S.len,S.sl,λi b hb=>s.free (S.fr i b hb),S.uq,ad,S.bd⟩
theorem nU {M:Nat->List Sl->Prop} {T:Nat->List Sl->List Sl} (B:Bk X k) (hi:PI X tg it (dI X.K τ xs)) (h0:M 0 τ) (hg:∀ i (h:i < xs.length) τ',M i τ'->PG X tg (dG X.K τ' xs[i] (T i τ')))
   (hb:∀ i,i < xs.length->∀ τ',M i τ'->PSs X body (dS X.K (T i τ') { N with nx:=M (i + 1),ct:=M (i + 1),bk:=N.nx })) (hn:∀ τ',M xs.length τ'->N.nx τ')
   (hs:∀ x,foldedSetIterable it X.env x=pure x:=by intro _; rfl):PS X (.For tg it body [] pos) (dS X.K τ N):=by
 have hg':PG X tg λv σ H Q=>∃ (i:Nat) (h:i < xs.length) (τ':List Sl),M i τ'/\dG X.K τ' xs[i] (T i τ') v σ H Q:=λpins s σ H v u Q I r ⟨i,h,τ',m,q⟩=>hg i h τ' m pins s σ H v u Q I r q
 have hb':PSs X body λD σ H=>∃ i τ',i < xs.length/\M i τ'/\dS X.K (T i τ') { N with nx:=M (i + 1),ct:=M (i + 1),bk:=N.nx } D σ H:=λpins s σ H D I ⟨i,τ',h,m,q⟩=>hb i h τ' m pins s σ H D I q
 refine psW (oA B.po hi hg' hb' hs) λD σ H ⟨A,H₀,B,S,Me⟩=>⟨A,H₀,B,S,λJ H1 e1 yl=>?_⟩
 obtain ⟨s0,S1⟩:=(S.mono e1).base
 have sub:∀ {H'},ag (hd H1 λb=>∃ i,b ∈ B i) H'->ag (hd H1 (own A B)) H':=λe=>(ay (ag.refl _) λ_ z=>.inr z).trans e
 refine ⟨λi m σ' H'=>m=xs.length - i/\i<=xs.length/\∃ τ' B',M i τ'/\Sta X.K A (hd H1 λb=>∃ i,b ∈ B i) τ' B' σ' H',⟨xs.length,rfl,Nat.zero_le _,τ,B,h0,S1⟩,?_⟩
 rintro i m σ' H' ⟨rfl,hi,τ',B',hM,S'⟩
 obtain ⟨y1,y2⟩:=yl H' (sub S'.same)
 by_cases hlt:i < xs.length
 · obtain ⟨g,y⟩:=y2 i hlt
   refine .inr ⟨g,λσ2 H2=>∃ τ2 B2,M (i + 1) τ2/\Sta X.K A (hd H1 λb=>∃ i,b ∈ B i) τ2 B2 σ2 H2,λσ2 H2 q=>⟨xs.length - (i + 1),by omega,rfl,hlt,q⟩,λx H2 hy=>?_⟩
   obtain ⟨e2,dx⟩:=y x H2 hy
   have S2:=S'.mono e2
   refine ⟨i,hlt,τ',hM,A,_,B',S2,dx (own A B') S'.dm ?_,λσ3 B3 S3=>⟨i,τ',hlt,hM,A,_,B3,S3,?_⟩⟩
   · intro b o z
     obtain ⟨z1,z2⟩:=ao.mp z
     have z3:hd H1 (λb=>∃ i,b ∈ B i) b=some o:=ao.mpr ⟨λy=>z1 (.inr y),z2⟩
     refine ao.mpr ⟨λy=>?_,S'.same _ _ z3⟩
     rcases y with y | ⟨l,y⟩
     · exact z1 (.inl y)
     · rw [S'.fr l b y] at z3; cases z3
   · exact ⟨λτ3 B3 σ3 H3 m S3=>⟨τ3,B3,m,S3⟩,λτ3 B3 σ3 H3 m S3=>Me.nx τ3 B3 σ3 H3 m (S3.back s0 S.ad),λτ3 B3 σ3 H3 m S3=>⟨τ3,B3,m,S3⟩,
       λv H3 bs s3 hr e3 hf q=>Me.rt v H3 bs s3 hr (s0.trans e3) (λb hb=>⟨s0.free (hf b hb).1,(hf b hb).2⟩) q,λH3 e3=>Me.xc H3 (s0.trans e3)⟩
 · have e:i=xs.length:=by omega
   subst e
   exact .inl ⟨y1 _ (Nat.le_refl _),Me.nx τ' B' σ' H' (hn τ' hM) (S'.back s0 S.ad)⟩
theorem je (j:Nat) {n:Str} (M:Nat->List Sl->Prop) {g:Nat->D} (B:Bk X k) (hN:X.N.Nodup) (hi:PI X (.Name n p) it (dI X.K τ xs)) (hx:∀ i (h:i < xs.length),xs[i]=g i) (h0:M 0 τ)
   (hb:∀ i,i < xs.length->∀ τ',M i τ'->PSs X body (dS X.K (τ'.set j (.d (g i))) { N with nx:=M (i + 1),ct:=M (i + 1),bk:=λ_=>False }))
   (hr:∀ τ',M xs.length τ'->PSs X rest (dS X.K τ' N)) (hs:∀ x,foldedSetIterable it X.env x=pure x:=by intro _; rfl) (hi':X.N[j]?=some n:=by rfl) (hl:Loc X.env.scope n:=by first | exact .inl rfl | exact .inr rfl)
   (hf:X.fn n=true\/X.env.scope.names.lookup n=some .local:=by first | exact .inl rfl | exact .inr rfl | assumption):PSs X (.For (.Name n p) it body [] pos :: rest) (dS X.K τ N):=
 bg (M:=M xs.length) (nU (M:=M) (T:=λi τ'=>τ'.set j (.d (g i))) B hi h0 (λi h τ' m=>by rw [hx i h]; exact qH j hN hi' hl hf)
   (λi h τ' m=>lU (hb i h τ' m) λD σ H ⟨A,H₀,B,S,Me⟩=>⟨A,H₀,B,S,Me.nx,λ_ _ _ _ z=>z.elim,Me.ct,Me.rt,Me.xc⟩) (λ_ m=>m) hs) hr
theorem qj (j l:Nat) {n m:Str} {p2 pt:Pos} {md:Nat} (M:Nat->List Sl->Prop) {g g':Nat->D} (B:Bk X k) (hN:X.N.Nodup) (hi:PI X (.Tuple [.Name n p,.Name m p2] md pt) it (dI X.K τ xs)) (hx:∀ i (h:i < xs.length),xs[i]=.tup [g i,g' i]) (h0:M 0 τ)
   (hb:∀ i,i < xs.length->∀ τ',M i τ'->PSs X body (dS X.K ((τ'.set j (.d (g i))).set l (.d (g' i))) { N with nx:=M (i + 1),ct:=M (i + 1),bk:=λ_=>False }))
   (hr:∀ τ',M xs.length τ'->PSs X rest (dS X.K τ' N)) (hs:∀ x,foldedSetIterable it X.env x=pure x:=by intro _; rfl) (hi':X.N[j]?=some n:=by rfl) (hj':X.N[l]?=some m:=by rfl) (hl:Loc X.env.scope n:=by first | exact .inl rfl | exact .inr rfl) (hl':Loc X.env.scope m:=by first | exact .inl rfl | exact .inr rfl)
   (hf:X.fn n=true\/X.env.scope.names.lookup n=some .local:=by first | exact .inl rfl | exact .inr rfl | assumption) (hf':X.fn m=true\/X.env.scope.names.lookup m=some .local:=by first | exact .inl rfl | exact .inr rfl | assumption):PSs X (.For (.Tuple [.Name n p,.Name m p2] md pt) it body [] pos :: rest) (dS X.K τ N):=
 bg (M:=M xs.length) (nU (M:=M) (T:=λi τ'=>(τ'.set j (.d (g i))).set l (.d (g' i))) B hi h0 (λi h τ' m=>by rw [hx i h]; exact rA j l B.calm hN hi' hj' hl hl' hf hf')
   (λi h τ' m=>lU (hb i h τ' m) λD σ H ⟨A,H₀,B,S,Me⟩=>⟨A,H₀,B,S,Me.nx,λ_ _ _ _ z=>z.elim,Me.ct,Me.rt,Me.xc⟩) (λ_ m=>m) hs) hr
theorem jP {n:Nat} (i:Nat) (h:i < (fN 0 n).length):(fN 0 n)[i]=.int (i:Nat):=by rw [jK,Int.zero_add]
theorem rE {bs:List Int} (i:Nat) (h:i < (bs.map D.int).length):(bs.map D.int)[i]=.int (bs.getD i 0):=by
 have:i < bs.length:=by simpa using h
 simp [this]
theorem rY {xs:List D} (i:Nat) (h:i < xs.length):xs[i]=xs.getD i .non:=by simp [h]
theorem qY {bs:List Int} (i:Nat) (h:i < (gD (bs.map D.int)).length):(gD (bs.map D.int))[i]=.tup [.int (i:Nat),.int (bs.getD i 0)]:=by
 have:i < bs.length:=by rw [dC] at h; simpa using h
 rw [js]
 simp [this]
end
end Hy
namespace Hy
open PySem PySem.Spec PyProof.Rows L2
open Ev (D Den aw au aV aI az dW cE PTs cn cS hU)
noncomputable def slot:List Str->Str->Option Nat
 | [],_=>none
 | y :: r,x=>if x=y then some 0 else (slot r x).map (· + 1)
theorem slot_get:∀ {N:List Str} {x:Str} {i:Nat},slot N x=some i->N[i]?=some x
 | [],_,_,h=>by cases h
 | y :: r,x,i,h=>by
   unfold slot at h
   split at h
   · cases h; rename_i e; rw [e]; rfl
   · cases e:slot r x with
     | none=>rw [e] at h; cases h
     | some j=>rw [e] at h; cases h; simpa using slot_get e
noncomputable def lQ (scope sc:Scope):Scope:={ scope with names:=scope.names.map λ(n,k)=>if (k == .free && sc.kind == .function && sc.names.lookup n == some .cell) then (n,.cell) else (n,k) }
noncomputable def bNm (scope:Scope):List Str:=(scope.names.filter λp=>(p.2 == .local || p.2 == .cell || p.2 == .free) && p.1 != (".0" : Str)).map (·.1)
noncomputable def bCp (No:List Str) (scope:Scope):List (Option Nat):=(bNm scope).map λx=>if (x,NameKind.free) ∈ scope.names then slot No x else none
noncomputable def bOk (sc scope:Scope):Bool:=
 scope.kind == .function && scope.names.all (λp=>p.2 != .local || scope.names.lookup p.1 == some .local) && scope.names.all (λp=>p.2 != .free || sc.names.lookup p.1 == some .cell)
   && scope.names.all (λp=>p.2 != .free || (!decide ((p.1,NameKind.cell) ∈ scope.names) && !decide ((p.1,NameKind.local) ∈ scope.names))) && decide (bNm scope++[("#" : Str)]).Nodup
   && (lQ scope sc).names.all (λp=>p.1 != ("#" : Str))
theorem k8 {a b:Bool} (h:(a && b)=true):a=true/\b=true:=by rw [Bool.and_eq_true] at h; exact h
theorem mj {x:Str} {q:NameKind}:∀ {names:List (Str × NameKind)},names.lookup x=some q->(x,q) ∈ names
 | (y,k) :: r,h=>by
   rw [List.lookup_cons] at h
   split at h
   · rename_i e; cases h; rw [eq_of_beq e]; exact List.mem_cons_self ..
   · exact List.mem_cons_of_mem _ (mj h)
theorem gH {X:Cx} {scope:Scope} (h:bOk X.env.scope scope=true):cE X scope (bNm scope++[("#" : Str)]) (bCp X.N scope)/\(bNm scope++[("#" : Str)]).Nodup:=by
 unfold bOk at h
 obtain ⟨h,h6⟩:=k8 h
 obtain ⟨h,h5⟩:=k8 h
 obtain ⟨h,h4⟩:=k8 h
 obtain ⟨h,h3⟩:=k8 h
 obtain ⟨h1,h2⟩:=k8 h
 rw [List.all_eq_true] at h2 h3 h4 h6
 refine ⟨⟨eq_of_beq h1,λx hx hk=>?_,λx hx hk=>?_,λx hx hm=>?_,λx hx hm=>?_,?_,λj i hj=>?_,?_⟩,of_decide_eq_true h5⟩
 · have:=h2 x hx; rw [hk] at this; simpa using this
 · have:=h3 x hx; rw [hk] at this; show X.env.scope.names.lookup x.1=_; simpa using this
 · have:=h4 _ hx; simp [hm] at this
 · have:=h4 _ hx; simp [hm] at this
 · unfold bCp; rw [List.length_append,List.length_map]; rfl
 · unfold bCp at hj
   rw [List.getElem?_map] at hj
   cases e:(bNm scope)[j]? with
   | none=>rw [e] at hj; cases hj
   | some x=>
     rw [e] at hj
     simp only [Option.map_some,Option.some.injEq] at hj
     split at hj
     · exact ⟨x,by rw [List.getElem?_append_left (List.getElem?_eq_some_iff.mp e).1]; exact e,slot_get hj,by assumption⟩
     · cases hj
 · refine ⟨("#" : Str),?_,λhv=>?_⟩
   · unfold bCp; rw [List.length_map,List.getElem?_append_right (Nat.le_refl _),Nat.sub_self]; rfl
   · have key:∀ q,(lQ scope X.env.scope).names.lookup ("#" : Str) ≠ some q:=λq hq=>by
       have:=h6 _ (mj hq)
       simp at this
     rcases hv with hv | hv | hv <;> exact key _ hv
noncomputable abbrev cpX (X:Cx) (s:Shared) (H:Hp) (scope:Scope) (fp:List Addr):Cx:=az X s H scope (bNm scope++[("#" : Str)]) fp
theorem Bk.comp {X:Cx} {k:Nat} (B:Bk X k) (s:Shared) (H:Hp) (scope:Scope) (fp:List Addr):Bk (cpX X s H scope fp) k:=⟨B.room,B.calm,B.blt,PassesOwn.never⟩
noncomputable def b7 (τ:List Sl) (caps:List (Option Nat)):List Sl:=caps.map λo=>match o with
 | some i=>match τ[i]? with
   | some (.d x)=>.d x
   | _=>.un
 | none=>.un
theorem mY {X:Cx}:PTs X [] λ_ H Q=>Q true H:=λpins s σ H Q I q=>by
 show wpAny _ _ (pure true) _ _ _
 exact wpAny_pure ⟨H,I,q⟩
section
variable {X:Cx} {C:Bool} {τ:List Sl} {x y z:D} {a b e c tg it elt:Expr} {es ifs:List Expr} {pos p q:Pos} {k:Nat} {xs:List D} {scope:Scope}
structure Cmp (X:Cx) (elt tg it:Expr) (ifs:List Expr) (scope:Scope) (τ:List Sl) (ys:List D):Prop where
 ex:∃ (In:TG->TT->TE->Prop) (caps:List (Option Nat)) (N:List Str) (wi:TI),cE X scope N caps/\PI X tg it wi/\(∀ g tt te,In g tt te->∀ s H fp,PG (az X s H scope N fp) tg g/\PTs (az X s H scope N fp) ifs tt/\PE (az X s H scope N fp) elt te) /\
   ∀ C σ H Q,dE X.K C τ (.o ys) σ H Q->cS In caps wi σ H Q
 hs:∀ x,foldedSetIterable it X.env x=pure x
theorem r6 {ys:List D} (h:Cmp X elt tg it ifs scope τ ys):PE X (.ListComp elt [⟨tg,it,ifs,0⟩] scope pos) (dE X.K C τ (.o ys)):=by
 obtain ⟨In,caps,N,wi,h1,h2,h3,h4⟩:=h.ex
 exact peW (cn h1 h2 h.hs h3) (h4 C)
theorem qb (i:Nat) {n:Str} {p spos:Pos} {rest:List Stmt} {N:Po} {ys:List D} {s:Sl} (hN:X.N.Nodup) (h:Cmp X elt tg it ifs scope τ ys) (hz:s=.o ys\/s=.d (.lst ys)) (hr:PSs X rest (dS X.K (τ.set i s) N)) (hi:X.N[i]?=some n:=by rfl) (hx:Loc X.env.scope n:=by first | exact .inl rfl | exact .inr rfl)
   (hsw:swapsWith (.ListComp elt [⟨tg,it,ifs,0⟩] scope pos) (some (.Name n p)) spos.line X.env=pure true:=by rfl) (hf:X.fn n=true\/X.env.scope.names.lookup n=some .local:=by first | exact .inl rfl | exact .inr rfl | assumption) :
   PSs X (.Assign [.Name n p] (.ListComp elt [⟨tg,it,ifs,0⟩] scope pos) spos :: rest) (dS X.K τ N):=by
 obtain ⟨In,caps,N',wi,h1,h2,h3,h4⟩:=h.ex
 have h5:∀ σ H Q,dE X.K true τ s σ H Q->cS In caps wi σ H Q:=by
   rcases hz with rfl | rfl
   · exact h4 true
   · intro σ H Q q
     obtain ⟨A,H₀,B,S,k⟩:=cD q
     refine h4 true σ H Q ⟨A,H₀,B,S,λv H' bs e hf q=>?_⟩
     obtain ⟨u,e1,d⟩:=q.den (G':=Hy.hd H' (vw true A B)) (ay (ag.refl _) λ_ z=>.inl z) (λb hb o ho=>ao.mpr ⟨λz=>(by obtain ⟨_,q⟩:=S.vd (C:=true) b z; rw [(hf b hb).1] at q; cases q),ho⟩) rfl
     cases e1
     exact k v H' e d
 exact bg (M:=(·=τ.set i s)) (psW (hU (de (i:=i) hN hi hx hf) h1 h2 h.hs h3 hsw) λD σ H ⟨A,H₀,B,S,Me⟩=>h5 _ _ _ ⟨A,H₀,B,S,λv H' bs e hf h=>Me.nx _ _ _ _ rfl (S.set e hf h)⟩) λ_ e=>e ▸ hr
theorem kq {T:Nat->List Sl} {t:Nat->Bool} {f:Nat->D} (hc:bOk X.env.scope scope=true) (hi:PI X tg it (dI X.K τ xs)) (hT:∀ i,(T i).length=(b7 τ (bCp X.N scope)++[Sl.un]).length/\∀ (l:Nat) (x:D),(b7 τ (bCp X.N scope)++[Sl.un])[l]?=some (.d x)->(T i)[l]?=some (.d x))
   (hg:∀ i (h:i < xs.length) s H fp,PG (cpX X s H scope fp) tg (dG X.K (b7 τ (bCp X.N scope)++[Sl.un]) xs[i] (T i)))
   (ht:∀ i,i < xs.length->∀ s H fp,PTs (cpX X s H scope fp) ifs (dT X.K (T i) (t i)))
   (he:∀ i,i < xs.length->t i=true->∀ s H fp,PE (cpX X s H scope fp) elt (dE X.K true (T i) (.d (f i)))) (hl:xs.length < 1000000) (hs:∀ x,foldedSetIterable it X.env x=pure x:=by intro _; rfl) :
   Cmp X elt tg it ifs scope τ (((List.range xs.length).filter t).map f):=by
 obtain ⟨cap,_⟩:=gH hc
 generalize hτ:b7 τ (bCp X.N scope)++[Sl.un]=τb at *
 refine ⟨⟨λg tt te=>g=(λv σ H Q=>∃ (i:Nat) (h:i < xs.length),dG X.K τb xs[i] (T i) v σ H Q)/\tt=(λσ H Q=>∃ i,i < xs.length/\dT X.K (T i) (t i) σ H Q)/\te=(λσ H Q=>∃ i,i < xs.length/\t i=true/\dE X.K true (T i) (.d (f i)) σ H Q),_,_,_,cap,hi,?_,?_⟩,hs⟩
 · rintro g tt te ⟨rfl,rfl,rfl⟩ s H fp
   exact ⟨λpins s' σ H' v u Q I r ⟨i,h,q⟩=>hg i h s H fp pins s' σ H' v u Q I r q,λpins s' σ H' Q I ⟨i,h,q⟩=>ht i h s H fp pins s' σ H' Q I q,λpins s' σ H' Q I ⟨i,h,h',q⟩=>he i h h' s H fp pins s' σ H' Q I q⟩
 rintro C σ H Q ⟨A,H₀,B,S,kk⟩
 refine ⟨A,H₀,B,S,λJ H1 e1 yl=>⟨_,_,_,⟨rfl,rfl,rfl⟩,λD hD=>?_⟩⟩
 have S1:=S.mono e1
 have nD:¬ own A B D:=λz=>by obtain ⟨o,q⟩:=S1.dm D z; rw [hD] at q; cases q
 have noN:∀ (l:Nat) (t:Nd),τb[l]?=some (.n t)->0 ≠ 0:=λl t h=>by
   exfalso
   rw [<- hτ] at h
   have:=List.mem_of_getElem? h
   rcases List.mem_append.mp this with z | z
   · unfold b7 at z
     obtain ⟨o,_,ho⟩:=List.mem_map.mp z
     split at ho
     · split at ho <;> cases ho
     · cases ho
   · cases List.mem_singleton.mp z
 have slots:∀ {σ':L2.St} {H':Hp},ag H1 H'->(∃ o,H' D=some o)->σ'.length=τb.length->(∀ (l:Nat) (s:Sl),τb[l]?=some s->bB X.K (hd H' λb=>own A B b\/b=D) H' (σ'[l]?).join [] s)->Sta X.K (λb=>own A B b\/b=D) H' τb (λ_=>[]) σ' H':=λ{σ' H'} e1 e2 e3 e4=>
   ⟨ag.refl _,e3,λl s h=>(e4 l s h).mono (ay (ag.refl _) λ_ z=>z.elim id λ⟨_,z⟩=>(nomatch z)) (ag.refl _),λ_ _ z=>(nomatch z),λ_ _ _ z=>(nomatch z),λb z=>z.elim (λz=>let ⟨o,q⟩:=S1.dm b z; ⟨o,e1 _ _ q⟩) λz=>z ▸ e2,λ_ _ z=>(nomatch z)⟩
 refine ⟨λi m σ' H'=>m=xs.length - i/\i<=xs.length/\ag H1 H'/\(∃ vs,H' D=some (.lst vs)/\vs.length<=i/\aw X.K (hd H' λb=>own A B b\/b=D) vs (((List.range i).filter t).map f)) /\
   σ'.length=τb.length/\∀ (l:Nat) (s:Sl),τb[l]?=some s->bB X.K (hd H' λb=>own A B b\/b=D) H' (σ'[l]?).join [] s,⟨xs.length,rfl,Nat.zero_le _,au hD _,⟨[],aF,Nat.le_refl _,.nil⟩,?_,λl s h=>?_⟩,?_⟩
 · rw [<- hτ]; unfold dW b7; rw [List.length_append,List.length_append,List.length_map,List.length_map]; rfl
 · have hv:ag (hd H (own A B)) (hd (upd H1 D (.lst [])) λb=>own A B b\/b=D):=λb o z=>by
     obtain ⟨z1,z2⟩:=ao.mp z
     have z2:=e1 _ _ z2
     have ne:b ≠ D:=λz=>by rw [z,hD] at z2; cases z2
     exact ao.mpr ⟨λy=>y.elim z1 ne,by rw [aq ne]; exact z2⟩
   cases s with
   | un=>rfl
   | d x=>
     rw [<- hτ] at h
     have hlt:l < (bCp X.N scope).length:=by
       rcases Nat.lt_or_ge l (bCp X.N scope).length with h' | h'
       · exact h'
       · exfalso
         rw [List.getElem?_append_right (by unfold b7; rw [List.length_map]; exact h')] at h
         cases e:l - (b7 τ (bCp X.N scope)).length with
         | zero=>rw [e] at h; cases h
         | succ n=>rw [e] at h; cases h
     rw [List.getElem?_append_left (by unfold b7; rw [List.length_map]; exact hlt)] at h
     rw [List.getElem?_append_left (by unfold dW; rw [List.length_map]; exact hlt)]
     unfold b7 at h
     unfold dW
     rw [List.getElem?_map] at h ⊢
     cases e:(bCp X.N scope)[l]? with
     | none=>rw [e] at h; cases h
     | some o=>
       rw [e] at h
       cases o with
       | none=>cases h
       | some i=>
         simp only [Option.map_some,Option.some.injEq] at h
         split at h
         · rename_i x' hx'
           cases h
           obtain ⟨_,u,eu,d⟩:=S.sl i _ hx'
           exact ⟨rfl,u,by simpa using eu,d.mono hv⟩
         · cases h
   | o xs'=>
     exfalso
     rw [<- hτ] at h
     have:=List.mem_of_getElem? h
     rcases List.mem_append.mp this with z | z
     · unfold b7 at z
       obtain ⟨o,_,ho⟩:=List.mem_map.mp z
       split at ho
       · split at ho <;> cases ho
       · cases ho
     · cases List.mem_singleton.mp z
   | n t'=>
     exfalso
     rw [<- hτ] at h
     have:=List.mem_of_getElem? h
     rcases List.mem_append.mp this with z | z
     · unfold b7 at z
       obtain ⟨o,_,ho⟩:=List.mem_map.mp z
       split at ho
       · split at ho <;> cases ho
       · cases ho
     · cases List.mem_singleton.mp z
   | x E'=>
     exfalso
     rw [<- hτ] at h
     have:=List.mem_of_getElem? h
     rcases List.mem_append.mp this with z | z
     · unfold b7 at z
       obtain ⟨o,_,ho⟩:=List.mem_map.mp z
       split at ho
       · split at ho <;> cases ho
       · cases ho
     · cases List.mem_singleton.mp z
 rintro i m σ' H' ⟨rfl,hi,e2,⟨vs,hv1,hv2,hv3⟩,hlen,hsl⟩
 obtain ⟨y1,y2⟩:=yl H' (aM.trans e2)
 by_cases hlt:i < xs.length
 · obtain ⟨g,y⟩:=y2 i hlt
   refine .inr ⟨g,λx H2 hy=>?_⟩
   obtain ⟨e3,dx⟩:=y x H2 hy
   have S2:Sta X.K (λb=>own A B b\/b=D) H' τb (λ_=>[]) σ' H':=slots e2 ⟨_,hv1⟩ hlen hsl
   have o0:∀ b,own (λb=>own A B b\/b=D) (λ_=>([]:List Addr)) b->own A B b\/b=D:=λb z=>z.elim id λ⟨_,z⟩=>(nomatch z)
   have dx':=dx _ S2.dm (λb o z=>by
     obtain ⟨z1,z2⟩:=ao.mp z
     exact ao.mpr ⟨λy=>(o0 b y).elim z1 λy=>(by rw [y,hD] at z2; cases z2),e2 _ _ z2⟩)
   refine ⟨i,hlt,_,_,_,S2.mono e3,dx',λσ2 B2 S3=>?_⟩
   have hB2:∀ j b,b ∈ B2 j->b ≠ D:=λj b hb z=>by
     have:=S3.fr j b hb
     rw [z,hv1] at this
     cases this
   have back:∀ {H5:Hp},ag H2 H5->σ2.length=τb.length/\∀ (l:Nat) (s:Sl),τb[l]?=some s->bB X.K (hd H5 λb=>own A B b\/b=D) H5 (σ2[l]?).join [] s:=λ{H5} e5=>by
     refine ⟨S3.len.trans (hT i).1,λl s h=>?_⟩
     cases s with
     | un=>rfl
     | d x=>
       obtain ⟨_,u,eu,d⟩:=S3.sl l _ ((hT i).2 l x h)
       exact ⟨rfl,u,eu,d.mono (ay e5 λ_ z=>.inl z)⟩
     | o xs'=>exact absurd (hsl l _ h) (λ⟨_,_,z,_⟩=>(nomatch z))
     | n t'=>exact absurd rfl (noN l t' h)
     | x E'=>exact absurd (hsl l _ h) (λ⟨_,_,z,_⟩=>(nomatch z))
   refine ⟨i,hlt,_,_,_,S3,λH4 e4=>?_⟩
   cases ht:t i with
   | false=>
     rw [if_neg Bool.false_ne_true]
     obtain ⟨b1,b2⟩:=back e4
     refine ⟨xs.length - (i + 1),by omega,rfl,hlt,e2.trans (e3.trans e4),⟨vs,e4 _ _ (e3 _ _ hv1),by omega,?_⟩,b1,b2⟩
     rw [List.range_succ,List.filter_append,List.map_append,List.filter_cons,ht]
     simpa using hv3.mono (ay (e3.trans e4) λ_ z=>z)
   | true=>
     rw [if_pos rfl]
     refine ⟨i,hlt,ht,aR (S3.mono e4) λv H5 e5 d5=>?_⟩
     have e6:=e3.trans (e4.trans e5)
     have hv5:=e6 _ _ hv1
     refine ⟨vs,xs.length - (i + 1),hv5,Nat.lt_trans (Nat.lt_of_le_of_lt hv2 (Nat.lt_trans hlt hl)) (by decide),by omega,rfl,hlt,?_,?_⟩
     · intro b o z
       have ne:b ≠ D:=λy=>by rw [y,hD] at z; cases z
       rw [aq ne]
       exact e6 _ _ (e2 _ _ z)
     have sm:ag (hd H5 λb=>own A B b\/b=D) (hd (upd H5 D (.lst (vs++[v]))) λb=>own A B b\/b=D):=λb o z=>by
       obtain ⟨z1,z2⟩:=ao.mp z
       exact ao.mpr ⟨z1,by rw [aq λy=>z1 (.inr y)]; exact z2⟩
     obtain ⟨b1,b2⟩:=back (e4.trans e5)
     refine ⟨⟨vs++[v],aF,by rw [List.length_append]; exact Nat.succ_le_succ hv2,?_⟩,b1,λl s h=>?_⟩
     · rw [List.range_succ,List.filter_append,List.map_append,List.filter_cons,ht,if_pos rfl]
       refine aw.append (hv3.mono ((ay e6 λ_ z=>z).trans sm)) (.cons (d5.mono ((ay (ag.refl _) λ_ z=>.inl z).trans sm)) .nil)
     · cases s with
       | un=>rfl
       | d x=>obtain ⟨z1,u,eu,d⟩:=b2 l _ h; exact ⟨z1,u,eu,d.mono sm⟩
       | o xs'=>exact absurd (hsl l _ h) (λ⟨_,_,z,_⟩=>(nomatch z))
       | n t'=>exact absurd rfl (noN l t' h)
       | x E'=>exact absurd (hsl l _ h) (λ⟨_,_,z,_⟩=>(nomatch z))
 · have e:i=xs.length:=by omega
   subst e
   refine .inl ⟨y1 _ (Nat.le_refl _),kk _ _ [D] (e1.trans e2) (λb hb=>?_) ⟨D,vs,rfl,rfl,hv1,hv3.mono (ay (ag.refl _) λb z=>z.elim (λz=>.inl (iM z)) λz=>.inr (List.mem_singleton.mp z))⟩⟩
   obtain rfl:=List.mem_singleton.mp hb
   exact ⟨e1.free hD,_,hv1⟩
theorem cmp (j:Nat) {n:Str} {g f:Nat->D} (B:Bk X k) (hi:PI X (.Name n p) it (dI X.K τ xs)) (hx:∀ i (h:i < xs.length),xs[i]=g i) (hl:xs.length < 1000000)
   (he:∀ i,i < xs.length->∀ s H fp,PE (cpX X s H scope fp) elt (dE X.K true ((b7 τ (bCp X.N scope)++[Sl.un]).set j (.d (g i))) (.d (f i))))
   (hc:bOk X.env.scope scope=true:=by kernel_rfl) (hu:(b7 τ (bCp X.N scope)++[Sl.un])[j]?=some .un:=by rfl) (hN:(bNm scope++[("#" : Str)])[j]?=some n:=by rfl) (hv:∀ s H fp,Loc (cpX X s H scope fp).env.scope n:=by intro _ _ _; first | exact .inl rfl | exact .inr rfl)
   (hf:∀ s H fp,(cpX X s H scope fp).fn n=true\/(cpX X s H scope fp).env.scope.names.lookup n=some .local:=by intro _ _ _; first | exact .inr rfl | exact .inl rfl) (hs:∀ x,foldedSetIterable it X.env x=pure x:=by intro _; rfl) :
   Cmp X elt (.Name n p) it [] scope τ ((List.range xs.length).map f):=by
 have h:=kq (T:=λi=>(b7 τ (bCp X.N scope)++[Sl.un]).set j (.d (g i))) (t:=λ_=>true) (f:=f) (elt:=elt) (ifs:=[]) hc hi (λi=>⟨List.length_set,λl x h=>?_⟩) (λi h s H fp=>?_) (λi h s H fp=>?_) (λi h _ s H fp=>he i h s H fp) hl hs
 · rwa [List.filter_eq_self.mpr λ_ _=>rfl] at h
 · rw [List.getElem?_set_ne (λz=>by rw [<- z,hu] at h; cases h)]
   exact h
 · rw [hx i h]
   exact qH j (gH hc).2 hN (hv s H fp) (hf s H fp)
 · exact λpins s' σ H' Q I ⟨A,H₀,B,S,q⟩=>mY pins s' σ H' Q I (q H' (ag.refl _))
end
section
variable {P:Program} {w:World} {K:PySem.W.Frag} {mg:Str->Option Value} {base:Heap}
noncomputable def iw (N:List Str) (ds:List D):List Sl:=ds.map .d++List.replicate (N.length - ds.length) .un
noncomputable abbrev Xc (P:Program) (w:World) (K:PySem.W.Frag) (mg:Str->Option Value) (base:Heap) (N:List Str) (qual:Str) (st:Stmt) (f:Addr) (cdv:Value) (A:Around) (outer:List Env) (s:Shared) (H:Hp) (E:XK):Cx:=(fE CX0 P w K mg base N qual (ai st) f cdv A outer s H E).nox
theorem fnD {x qual:Str} {st:Stmt} {f:Addr} {fd:FuncData} {N ps:List Str} {k:Nat} {Φ:List D->Sl->Prop} (F:Fun K x qual st f fd) (S:ax N ps (ai st)) (hb:∀ x ∈ ak,mg x=none) (len:∀ ds r,Φ ds r->ds.length=ps.length)
   (body:∀ ds r,Φ ds r->∀ cdv A outer s H E,Bk (Xc P w K mg base N qual st f cdv A outer s H E) k->PSs (Xc P w K mg base N qual st f cdv A outer s H E) (a4 st) (dS K (iw N ds) { nx:=λ_=>r=.d .non,rt:=λr'=>r'=r })) :
   aO P w K mg base CX0 (k + 1) f fd ps (spD K Φ):=by
 refine F.ok S (λvs H Q E ⟨A,ds,r,_,d,h,_⟩=>d.length.trans (len ds r h)) λcdv A outer s H vs Q E hr ⟨A',ds,r,ha,d,h,q⟩=>⟨_,body ds r h cdv A outer s H E ⟨hr,rfl,hb,PassesOwn.never⟩,A',H,λ_=>[],⟨ag.refl _,?_,λi s hi=>?_,λ_ _ z=>(nomatch z),λ_ _ _ z=>(nomatch z),ha,λ_ _ z=>(nomatch z)⟩,λτ B σ H' h S=>?_,λ_ _ _ _ h=>h.elim,λ_ _ _ _ h=>h.elim,λv H' bs s h e hf z=>?_,λ_ _=>trivial⟩
 · unfold L2.start iw
   simp [d.length]
 · have hl:=d.length
   unfold iw at hi
   unfold L2.start
   by_cases hlt:i < ds.length
   · rw [List.getElem?_append_left (by simpa using hlt),List.getElem?_map,List.getElem?_eq_getElem hlt] at hi
     cases hi
     obtain ⟨v,e,dv⟩:=d.get (List.getElem?_eq_getElem hlt)
     refine ⟨rfl,v,?_,dv.mono (ay (ag.refl _) λ_ z=>z.elim id λ⟨_,z⟩=>(nomatch z))⟩
     rw [List.getElem?_append_left (by simpa [hl] using hlt),List.getElem?_map,e]
     rfl
   · rw [List.getElem?_append_right (by simpa using hlt),List.getElem?_replicate] at hi
     split at hi
     · cases hi; rfl
     · cases hi
 · obtain rfl:=(h:r=_)
   exact q .non H' [] S.same cg (ek .non)
 · obtain rfl:=(h:s=r)
   exact q v H' bs e hf z
theorem nB {K:PySem.W.Frag} {Φ:List D->Sl->Prop} (hΦ:∀ ns:List Int,ns.length<=63->Φ [.lst (ns.map .int)] (.d (.bl true))) (H:Hp) (a:Addr) (ns:List Int) (hl:ns.length<=63) (hS:SqL K H a (ns.map V.int)):spD K Φ [.ref a] H (λv _=>v=.bl true) λ_ _ _=>False:=by
 have hh:hd H (λ_=>False)=H:=by funext b; unfold hd; rw [if_neg id]
 refine ⟨λ_=>False,_,_,λ_ z=>z.elim,.cons (.lst (vs:=ns.map V.int) (by rw [hh]; exact hS) ?_) .nil,hΦ ns hl,λv H' bs _ _ h=>?_⟩
 · clear hl hS
   induction ns with
   | nil=>exact .nil
   | cons n ns ih=>exact .cons .int ih
 · obtain ⟨_,u,e,d⟩:=h
   cases e
   cases d
   rfl
end
end Hy
namespace Hy
open PySem PySem.Spec PyProof.Rows L2
open Ev (D Den aw aU aK au aV aI)
section
variable {X:Cx} {C:Bool} {τ:List Sl} {x y z:D} {a b e:Expr} {es:List Expr} {pos p:Pos} {k:Nat} {s:Sl} {ds:List D} {i j:Int}
theorem nC:OpR X (binaryOp .Add) (λx y H Q=>∃ l b xs zs,x=.ref l/\y=.ref b/\SqL X.K H l xs/\SqL X.K H b zs/\xs.length + zs.length<=sizeLine/\∀ p,H p=none->Q (.ref p) (upd H p (.lst (xs++zs)))):=by
 intro pins s σ H x y v u Q I rx ry h
 obtain ⟨l,b,xs,zs,rfl,rfl,hH,hB,hz,q⟩:=h
 cases rx
 cases ry
 obtain ⟨its,r,pl,_⟩:=I.list hH
 obtain ⟨its2,r2,pl2,_⟩:=I.list hB
 have hl:=r.length
 have hl2:=r2.length
 obtain ⟨⟨cls,dd,data,sl⟩,ho,hc,n,hd⟩:=pl.isList
 obtain ⟨⟨cls2,dd2,data2,sl2⟩,ho2,hc2,n2,hd2⟩:=pl2.isList
 simp only at hc hd hc2 hd2
 subst hc hd hc2 hd2
 have e:its.toArray++its2.toArray=(its++its2).toArray:=by simp
 refine concat_meets ⟨_,ho,rfl⟩ ⟨_,ho2,rfl⟩ noFill_list_add seq_list_add PySem.F.slot_list_add PySem.F.entry_list_add (PySem.F.args_list_add_2 _ _) (list_addW l b its.toArray its2.toArray n n2 dd dd2 sl sl2 (by rw [List.size_toArray,List.size_toArray]; omega)) ⟨ho,ho2,?_⟩
 rw [e]
 exact ⟨.ref _,_,I.rL (t':=s.toks) (r.append r2) (by rw [List.length_append]; omega),rfl,q _ I.fresh⟩
theorem fo {xs ys:List D} (ha:PE X a (dE X.K C τ (.d (.lst xs)))) (hb:PE X b (dE X.K C τ (.d (.lst ys)))) (hl:xs.length + ys.length < 1000000):PE X (.BinOp a .Add b pos) (dE X.K C τ (.o (xs++ys))):=peW (ma nC ha hb) λσ H Q ⟨A,H₀,B,S,k⟩=>
 aR S λv H1 e1 d1=>aR (S.mono e1) λw H2 e2 d2=>by
   cases d1 with
   | lst h1 r1=>cases d2 with
     | lst h2 r2=>
       refine ⟨_,_,_,_,rfl,rfl,aI (aM.trans e2) h1,aI aM h2,by rw [r1.length,r2.length]; exact Nat.le_of_lt (Nat.lt_trans hl (by decide)),λp hp=>?_⟩
       obtain ⟨z1,z2,z3⟩:=gK (K:=X.K) hp ((r1.mono (ay e2 λ_ z=>z)).append r2)
       exact k _ _ [p] (e1.trans (e2.trans z1)) (λb hb=>⟨(e1.trans e2).free (z2 b hb).1,(z2 b hb).2⟩) z3
theorem mkL (h:i.natAbs < 2 ^ 60):aU i j:=.inl (by
 rcases Nat.eq_zero_or_pos i.natAbs with z | z
 · rw [z]; decide
 · exact Nat.lt_trans ((Nat.log2_lt (by omega)).mpr h) (by decide))
theorem mkR (h:j.natAbs < 2 ^ 60):aU i j:=.inr (.inl (by
 rcases Nat.eq_zero_or_pos j.natAbs with z | z
 · rw [z]; decide
 · exact Nat.lt_trans ((Nat.log2_lt (by omega)).mpr h) (by decide)))
theorem mkD (h0:j ≠ 0) (h:j.natAbs < 2 ^ 62):aK j:=⟨h0,Nat.lt_trans ((Nat.log2_lt (by omega)).mpr h) (by decide)⟩
end
theorem aA {α:Type} {xs:List α} {i:Nat} {x:α} (h:xs[i]?=some x):atI xs (i:Int)=some x:=by
 unfold atI ixN
 have:=(List.getElem?_eq_some_iff.mp h).1
 rw [if_pos (by omega),if_pos (by omega)]
 simpa using h
theorem bu {ns:List Int} {i:Int} (h0:0<=i) (h:i.toNat < ns.length):atI (ns.map D.int) i=some (.int (ns.getD i.toNat 0)):=by
 obtain ⟨n,rfl⟩:=Int.eq_ofNat_of_zero_le h0
 exact aA (by
   have h:n < ns.length:=h
   simp [h])
theorem nc {xs:List D} (m n:Nat):cutD xs (some (m:Int)) (some (n:Int))=(xs.take n).drop m:=by
 unfold cutD
 rw [HT.jf,HT.jf]
 rw [<- List.drop_take]
 rcases Nat.le_total n xs.length with h | h
 · rw [Nat.min_eq_left h]
   rcases Nat.le_total m xs.length with h' | h'
   · rw [Nat.min_eq_left h']
   · rw [Nat.min_eq_right h',List.drop_eq_nil_of_le (by simp; omega),List.drop_eq_nil_of_le (by simp; omega)]
 · rw [Nat.min_eq_right h,List.take_of_length_le (Nat.le_refl _),List.take_of_length_le h]
   rcases Nat.le_total m xs.length with h' | h'
   · rw [Nat.min_eq_left h']
   · rw [Nat.min_eq_right h',List.drop_eq_nil_of_le (Nat.le_refl _),List.drop_eq_nil_of_le h']
theorem getD_none {α:Type} {xs:List α} {i:Nat} {d:α} (h:xs.length<=i):xs.getD i d=d:=by simp [List.getD,h]
theorem ex1 {α:Type} {p:α->Prop} {a:α} (h:p a):∃ a,p a:=⟨a,h⟩
theorem ex3 {α:Type} {p:α->α->α->Prop} {a b c:α} (h:p a b c):∃ a b c,p a b c:=⟨a,b,c,h⟩
end Hy
namespace Hy
open PySem PySem.Spec PyProof.Rows L2
open Ev (D Den aw)
noncomputable def Dfn (K:PySem.W.Frag) (x:Str) (st:Stmt) (f:Addr):Prop:=PySem.W.nsIn K mainGlobals x=some (some (.ref f))/\(∃ oc od kV dc pm an cd ct sl,K.lookup f=some ⟨oc,od,.func (PySem.W.fnOf x x (bI st) (a4 st) (ai st) .none kV dc pm an cd ct),sl⟩/\PySem.W.codeIn K cd x=true)/\PySem.W.keepIn K (.ref f)=true
noncomputable def BdA (x:Str) (st:Stmt) (ps:List Str):Prop:=∀ (kV dc pm:Value) (an:Option Addr) (cd ct:Value) (us:List Value),us.length=ps.length->bindArgs (PySem.W.fnOf x x (bI st) (a4 st) (ai st) .none kV dc pm an cd ct) ⟨us,[]⟩=pure (ps.zip us)
noncomputable def nsL (K:PySem.W.Frag):List Str->Prop
 | []=>True
 | x :: r=>PySem.W.nsIn K mainGlobals x=some none/\nsL K r
section
variable {P:Program} {w:World} {K:PySem.W.Frag} {h:Heap} {mg:Str->Option Value} {base:Heap} {x:Str} {st:Stmt} {f:Addr} {ps:List Str} {k:Nat} {Φ:List D->Sl->Prop}
theorem Dfn.of {oc:Value} {od an:Option Addr} {kV dc pm cd ct:Value} {sl:Array (Option Value)} (a:PySem.W.nsIn K mainGlobals x=some (some (.ref f))) (l:K.lookup f=some ⟨oc,od,.func (PySem.W.fnOf x x (bI st) (a4 st) (ai st) .none kV dc pm an cd ct),sl⟩) (c:PySem.W.codeIn K cd x=true) (k:PySem.W.keepIn K (.ref f)=true):Dfn K x st f:=⟨a,⟨_,_,_,_,_,_,_,_,_,l,c⟩,k⟩
theorem nsL.none (X:K.In h) (G:h.Ns mainGlobals mg):∀ {l:List Str},nsL K l->∀ x ∈ l,mg x=none
 | _ :: _,z,x,m=>by
   rcases List.mem_cons.mp m with rfl | m
   · exact PySem.W.mg_none_of X G z.1
   · exact nsL.none X G z.2 x m
theorem Dfn.fn (d:Dfn K x st f) (X:K.In h) (G:h.Ns mainGlobals mg) (b:BdA x st ps):∃ fd,Fun K x x st f fd/\mg x=some (.ref f)/\PySem.W.keepIn K (.ref f)=true/\Binds K fd ps []:=by
 obtain ⟨a,⟨oc,od,kV,dc,pm,an,cd,ct,sl,l,c'⟩,q⟩:=d
 have F:=lq l c' q
 exact ⟨_,F,PySem.W.mg_of X G a,q,F.binds (b kV dc pm an cd ct)⟩
theorem Dfn.cal (d:Dfn K x st f) (X:K.In h) (G:h.Ns mainGlobals mg) (b:BdA x st ps) (o:∀ fd,Fun K x x st f fd->aO P w K mg base CX0 k f fd ps (spD K Φ)):Cal P w K mg base k x Φ:=by
 obtain ⟨fd,F,h1,h2,h3⟩:=d.fn X G b
 exact ⟨f,fd,ps,o fd F,h1,h2,h3⟩
end
theorem bd1 {Q:List Value->Prop} (h:∀ a,Q [a]):∀ us:List Value,us.length=1->Q us:=λus e=>match us,e with | [a],_=>h a
theorem bd2 {Q:List Value->Prop} (h:∀ a b,Q [a,b]):∀ us:List Value,us.length=2->Q us:=λus e=>match us,e with | [a,b],_=>h a b
theorem bd3 {Q:List Value->Prop} (h:∀ a b c,Q [a,b,c]):∀ us:List Value,us.length=3->Q us:=λus e=>match us,e with | [a,b,c],_=>h a b c
theorem bd4 {Q:List Value->Prop} (h:∀ a b c d,Q [a,b,c,d]):∀ us:List Value,us.length=4->Q us:=λus e=>match us,e with | [a,b,c,d],_=>h a b c d
theorem bd6 {Q:List Value->Prop} (h:∀ a b c d e f,Q [a,b,c,d,e,f]):∀ us:List Value,us.length=6->Q us:=λus e=>match us,e with | [a,b,c,d,f,g],_=>h a b c d f g
end Hy
namespace Hy
open PySem PySem.Spec PyProof.Rows L2
open Ev (D Den aw au aV aI)
noncomputable def fV:List Nat->Nd->Option Nd
 | [],t=>some t
 | i :: p,.l xs=>(xs[i]?).bind (fV p)
 | i :: p,.t xs=>(xs[i]?).bind (fV p)
 | _ :: _,.d _=>none
noncomputable def dj:List Nat->Nd->Nd->Nd
 | [],_,n=>n
 | i :: p,.l xs,n=>.l (xs.set i (dj p (xs.getD i (.d .non)) n))
 | i :: p,.t xs,n=>.t (xs.set i (dj p (xs.getD i (.d .non)) n))
 | _ :: _,.d x,_=>.d x
noncomputable def bQ (H:Hp):List Nat->V->V->Prop
 | [],u,v=>v=u
 | i :: p,u,v=>∃ a vs w,u=.ref a/\(H a=some (.lst vs)\/H a=some (.tup vs))/\vs[i]?=some w/\bQ H p w v
theorem bQ.mono {H H':Hp} (e:ag H H'):∀ {p:List Nat} {u v:V},bQ H p u v->bQ H' p u v
 | [],_,_,h=>h
 | _ :: _,_,_,⟨a,vs,w,h1,h2,h3,h4⟩=>⟨a,vs,w,h1,h2.elim (λz=>.inl (e _ _ z)) (λz=>.inr (e _ _ z)),h3,h4.mono e⟩
theorem bQ.snoc {H:Hp} {i:Nat} {a:Addr} {vs:List V} {w:V}:∀ {p:List Nat} {u:V},bQ H p u (.ref a)->(H a=some (.lst vs)\/H a=some (.tup vs))->vs[i]?=some w->bQ H (p++[i]) u w
 | [],_,h,h1,h2=>⟨a,vs,w,h.symm,h1,h2,rfl⟩
 | _ :: _,_,⟨b,us,x,z1,z2,z3,z4⟩,h1,h2=>⟨b,us,x,z1,z2,z3,z4.snoc h1 h2⟩
section
variable {K:PySem.W.Frag} {G H:Hp}
theorem aC.length:∀ {vs:List V} {bs:List Addr} {xs:List Nd},aC K G H vs bs xs->vs.length=xs.length
 | _,_,_,.nil=>rfl
 | _,_,_,.cons _ r=>congrArg (· + 1) r.length
theorem aC.part:∀ {vs:List V} {bs:List Addr} {xs:List Nd} {i:Nat} {c:Nd},aC K G H vs bs xs->xs[i]?=some c->∃ v l m r,vs[i]?=some v/\bs=l++(m++r)/\a5 K G H v m c /\
   ∀ {G' H':Hp} {m':List Addr} {c':Nd},ag G G'->(∀ b,b ∈ l\/b ∈ r->H' b=H b)->a5 K G' H' v m' c'->aC K G' H' vs (l++(m'++r)) (xs.set i c')
 | _,_,_,_,_,.nil,e=>by cases e
 | _,_,_,0,_,.cons (b1:=b1) (b2:=b2) h r,e=>by
   cases e
   exact ⟨_,[],b1,b2,rfl,rfl,h,λg e h'=>by rw [List.nil_append]; exact .cons h' (r.frame g λb hb=>e b (.inr hb))⟩
 | _,_,_,i + 1,c,.cons (b1:=b1) h r,e=>by
   obtain ⟨v,l,m,q,h1,h2,h3,h4⟩:=aC.part (i:=i) (c:=c) r (by simpa using e)
   refine ⟨v,b1++l,m,q,by simpa using h1,by rw [h2,List.append_assoc],h3,λ{G' H' m' c'} g e h'=>?_⟩
   rw [List.append_assoc]
   exact .cons (h.frame g λb hb=>e b (.inl (List.mem_append_left _ hb))) (h4 g (λb hb=>e b (hb.elim (λz=>.inl (List.mem_append_right _ z)) .inr)) h')
theorem a5.focus:∀ (p:List Nat) {u:V} {bs:List Addr} {t c:Nd},a5 K G H u bs t->fV p t=some c->∃ v l m r,bQ H p u v/\bs=l++(m++r)/\a5 K G H v m c /\
   ∀ {G' H':Hp} {m':List Addr} {c':Nd},ag G G'->(∀ b,b ∈ l\/b ∈ r->H' b=H b)->a5 K G' H' v m' c'->a5 K G' H' u (l++(m'++r)) (dj p t c')
 | [],u,bs,tr,c,h,e=>by
   cases e
   exact ⟨u,[],bs,[],rfl,by simp,h,λg _ h'=>by simpa [dj] using h'⟩
 | i :: p,_,_,.l xs,c,.l (a:=a) (bs:=bs) hH r,e=>by
   rw [fV] at e
   cases ei:xs[i]? with
   | none=>rw [ei] at e; cases e
   | some x=>
     rw [ei] at e
     obtain ⟨v,l,m,q,h1,h2,h3,h4⟩:=r.part ei
     obtain ⟨w,l',m',q',g1,g2,g3,g4⟩:=a5.focus p h3 e
     refine ⟨w,a :: (l++l'),m',q'++q,⟨a,_,v,rfl,.inl hH,h1,g1⟩,by rw [h2,g2]; simp,g3,λ{G' H' m2 c2} g e2 h'=>?_⟩
     have k1:=g4 g (λb hb=>e2 b (hb.elim (λz=>.inl (List.mem_cons_of_mem _ (List.mem_append_right _ z))) λz=>.inr (List.mem_append_left _ z))) h'
     have k2:=h4 g (λb hb=>e2 b (hb.elim (λz=>.inl (List.mem_cons_of_mem _ (List.mem_append_left _ z))) λz=>.inr (List.mem_append_right _ z))) k1
     rw [dj,show xs.getD i (.d .non)=x by simp [List.getD,ei]]
     have k3:=a5.l (G:=G') (K:=K) (a:=a) (by rw [e2 a (.inl (List.mem_cons_self ..))]; exact hH) k2
     simpa using k3
 | i :: p,_,_,.t xs,c,.t (a:=a) (bs:=bs) hH r,e=>by
   rw [fV] at e
   cases ei:xs[i]? with
   | none=>rw [ei] at e; cases e
   | some x=>
     rw [ei] at e
     obtain ⟨v,l,m,q,h1,h2,h3,h4⟩:=r.part ei
     obtain ⟨w,l',m',q',g1,g2,g3,g4⟩:=a5.focus p h3 e
     refine ⟨w,a :: (l++l'),m',q'++q,⟨a,_,v,rfl,.inr hH,h1,g1⟩,by rw [h2,g2]; simp,g3,λ{G' H' m2 c2} g e2 h'=>?_⟩
     have k1:=g4 g (λb hb=>e2 b (hb.elim (λz=>.inl (List.mem_cons_of_mem _ (List.mem_append_right _ z))) λz=>.inr (List.mem_append_left _ z))) h'
     have k2:=h4 g (λb hb=>e2 b (hb.elim (λz=>.inl (List.mem_cons_of_mem _ (List.mem_append_left _ z))) λz=>.inr (List.mem_append_right _ z))) k1
     rw [dj,show xs.getD i (.d .non)=x by simp [List.getD,ei]]
     have k3:=a5.t (G:=G') (K:=K) (a:=a) (by rw [e2 a (.inl (List.mem_cons_self ..))]; exact hH) k2
     simpa using k3
theorem bQ.det:∀ {p:List Nat} {u v w:V},bQ H p u v->bQ H p u w->v=w
 | [],_,_,_,h,h'=>h.trans h'.symm
 | _ :: _,_,_,_,⟨a,vs,x,h1,h2,h3,h4⟩,⟨b,us,y,g1,g2,g3,g4⟩=>by
   rw [h1] at g1
   cases g1
   have e:vs=us:=by
     rcases h2 with h2 | h2 <;> rcases g2 with g2 | g2 <;> rw [h2] at g2 <;> cases g2 <;> rfl
   subst e
   rw [h3] at g3
   cases g3
   exact h4.det g4
theorem bB.frame {G' H':Hp} (g:ag G G') {v:Option V} {bs:List Addr}:∀ {s:Sl},(∀ b ∈ bs,H' b=H b)->bB K G H v bs s->bB K G' H' v bs s
 | .un,_,h=>h
 | .d _,_,⟨h,u,e1,h2⟩=>⟨h,u,e1,h2.mono g⟩
 | .o _,e,⟨a,vs,h1,h2,h3,h4⟩=>⟨a,vs,h1,h2,by rw [e a (by rw [h1]; exact List.mem_cons_self ..)]; exact h3,h4.mono g⟩
 | .n _,e,⟨h0,u,h1,h2⟩=>⟨h0,u,h1,h2.frame g e⟩
 | .x E,e,⟨a,o,h1,h2,h3,h4⟩=>⟨a,o,h1,h2,by rw [e a (by rw [h1]; exact List.mem_cons_self ..)]; exact h3,E.mono g h4⟩
theorem iZ {l r b0 b1:List Addr} {a:Addr} (h:(l++((a :: b0)++r)).Nodup) (h1:b1.Nodup) (hb:∀ b ∈ b1,b ∈ b0\/(b ∉ l/\b ≠ a/\b ∉ r)):(l++((a :: b1)++r)).Nodup:=by
 obtain ⟨z1,z2,z3⟩:=List.nodup_append.mp h
 rw [List.cons_append] at z2
 obtain ⟨z4,z5⟩:=List.nodup_cons.mp z2
 obtain ⟨z6,z7,z8⟩:=List.nodup_append.mp z5
 refine List.nodup_append.mpr ⟨z1,?_,λx hx y hy=>?_⟩
 · rw [List.cons_append]
   refine List.nodup_cons.mpr ⟨λz=>?_,List.nodup_append.mpr ⟨h1,z7,λx hx y hy=>?_⟩⟩
   · rcases List.mem_append.mp z with z | z
     · rcases hb a z with q | q
       · exact z4 (List.mem_append_left _ q)
       · exact q.2.1 rfl
     · exact z4 (List.mem_append_right _ z)
   · rcases hb x hx with q | q
     · exact z8 x q y hy
     · exact λe=>q.2.2 (e ▸ hy)
 · rw [List.cons_append] at hy
   rcases List.mem_cons.mp hy with q | q
   · exact z3 x hx y (by rw [q]; exact List.mem_append_left _ (List.mem_cons_self ..))
   · rcases List.mem_append.mp q with q | q
     · rcases hb y q with q | q
       · exact z3 x hx y (List.mem_append_left _ (List.mem_cons_of_mem _ q))
       · exact λe=>q.1 (e ▸ hx)
     · exact z3 x hx y (List.mem_append_right _ q)
theorem Sta.putN {A:Addr->Prop} {H₀:Hp} {τ:List Sl} {B:Nat->List Addr} {σ:L2.St} {i:Nat} {t:Nd} {p:List Nat} {xs:List Nd} (S:Sta K A H₀ τ B σ H) (hi:τ[i]?=some (.n t)) (hp:fV p t=some (.l xs)) :
   ∃ u a vs bs0,(σ[i]?).join=some u/\bQ H p u (.ref a)/\H a=some (.lst vs)/\aC K (hd H (own A B)) H vs bs0 xs/\bs0.Nodup/\own A B a/\(∀ b ∈ bs0,own A B b/\b ≠ a) /\
     ∀ {H1:Hp} {vs':List V} {bs1:List Addr} {xs':List Nd},ag H H1->bs1.Nodup->(∀ b ∈ bs1,b ∈ bs0\/(H b=none/\∃ o,H1 b=some o))->aC K (hd (upd H1 a (.lst vs')) λb=>own A B b\/b ∈ bs1) (upd H1 a (.lst vs')) vs' bs1 xs' ->
       ∃ B',Sta K A H₀ (τ.set i (.n (dj p t (.l xs')))) B' σ (upd H1 a (.lst vs')):=by
 obtain ⟨nd,u,eu,ok⟩:=S.sl i _ hi
 obtain ⟨v,l,m,r,pv,hbs,okc,back⟩:=ok.focus p hp
 cases okc with
 | @l a vs bs0 _ hH r0=>
   have mem:∀ b,b ∈ l\/b=a\/b ∈ bs0\/b ∈ r->b ∈ B i:=λb hb=>by
     rw [hbs]
     rcases hb with z | z | z | z
     · exact List.mem_append_left _ z
     · exact List.mem_append_right _ (by rw [z]; exact List.mem_append_left _ (List.mem_cons_self ..))
     · exact List.mem_append_right _ (List.mem_append_left _ (List.mem_cons_of_mem _ z))
     · exact List.mem_append_right _ (List.mem_append_right _ z)
   have nd':=nd
   rw [hbs] at nd'
   obtain ⟨n1,n2,n3⟩:=List.nodup_append.mp nd'
   rw [List.cons_append] at n2
   obtain ⟨n4,n5⟩:=List.nodup_cons.mp n2
   obtain ⟨n6,_,_⟩:=List.nodup_append.mp n5
   have ha:own A B a:=.inr ⟨i,mem a (.inr (.inl rfl))⟩
   refine ⟨u,a,vs,bs0,eu,pv,hH,r0,n6,ha,λb hb=>⟨.inr ⟨i,mem b (.inr (.inr (.inl hb)))⟩,λz=>n4 (z ▸ List.mem_append_left _ hb)⟩,λ{H1 vs' bs1 xs'} e h1 hb hx=>?_⟩
   have keep:∀ b o,b ≠ a->H b=some o->upd H1 a (.lst vs') b=H b:=λb o ne h=>by rw [aq ne,e _ _ h,h]
   have la:∀ b,b ∈ l\/b ∈ r->b ≠ a:=λb hb z=>by
     rcases hb with q | q
     · exact n3 b q a (List.mem_append_left _ (List.mem_cons_self ..)) z
     · exact n4 (z ▸ List.mem_append_right _ q)
   have fresh:∀ b ∈ bs1,b ∈ bs0\/(b ∉ l/\b ≠ a/\b ∉ r):=λb hb1=>by
     rcases hb b hb1 with q | ⟨q,_⟩
     · exact .inl q
     · have no:∀ c,c ∈ B i->b ≠ c:=λc hc z=>by obtain ⟨o,hc⟩:=S.bd i c hc; rw [<- z,q] at hc; cases hc
       exact .inr ⟨λz=>no b (mem b (.inl z)) rfl,no a (mem a (.inr (.inl rfl))),λz=>no b (mem b (.inr (.inr (.inr z)))) rfl⟩
   have sub:∀ b,own A (upB B i (l++((a :: bs1)++r))) b->own A B b\/b ∈ bs1:=λb z=>by
     rcases z with z | ⟨j,z⟩
     · exact .inl (.inl z)
     · rcases aP z with ⟨_,z⟩ | ⟨_,z⟩
       · rcases List.mem_append.mp z with z | z
         · exact .inl (.inr ⟨i,mem b (.inl z)⟩)
         · rw [List.cons_append] at z
           rcases List.mem_cons.mp z with z | z
           · exact .inl (z ▸ ha)
           · rcases List.mem_append.mp z with z | z
             · exact .inr z
             · exact .inl (.inr ⟨i,mem b (.inr (.inr (.inr z)))⟩)
       · exact .inl (.inr ⟨j,z⟩)
   have sm:ag (hd H (own A B)) (hd (upd H1 a (.lst vs')) (own A (upB B i (l++((a :: bs1)++r))))):=λb o z=>by
     obtain ⟨z1,z2⟩:=ao.mp z
     refine ao.mpr ⟨λy=>?_,by rw [keep b o (λq=>z1 (q ▸ ha)) z2]; exact z2⟩
     rcases sub b y with y | y
     · exact z1 y
     · rcases hb b y with q | ⟨q,_⟩
       · exact z1 (.inr ⟨i,mem b (.inr (.inr (.inl q)))⟩)
       · rw [q] at z2; cases z2
   have hs:ag H₀ (upd H1 a (.lst vs')):=λb o z=>by
     have f0:=S.fr i a (mem a (.inr (.inl rfl)))
     rw [aq (λq=>by rw [q,f0] at z; cases z)]
     exact e _ _ (S.same _ _ z)
   refine ⟨upB B i (l++((a :: bs1)++r)),hs,by rw [List.length_set,S.len],λj s hj=>?_,λj b z=>?_,λj k b z1 z2=>?_,S.ad,λj b z=>?_⟩
   · by_cases ej:j=i
     · subst ej
       have hl:=(List.getElem?_eq_some_iff.mp hi).1
       rw [List.getElem?_set_self hl] at hj
       cases hj
       unfold upB
       rw [if_pos rfl]
       refine ⟨iZ nd' h1 fresh,u,eu,back sm (λb hb=>?_) (.l aF (hx.frame (ay (ag.refl _) sub) λ_ _=>rfl))⟩
       obtain ⟨o,q⟩:=S.bd j b (mem b (hb.elim .inl λz=>.inr (.inr (.inr z))))
       exact keep b o (la b hb) q
     · rw [List.getElem?_set_ne (λz=>ej z.symm)] at hj
       unfold upB
       rw [if_neg ej]
       refine (S.sl j s hj).frame sm λb hb=>?_
       obtain ⟨o,q⟩:=S.bd j b hb
       exact keep b o (λz=>ej (S.uq j i a (z ▸ hb) (mem a (.inr (.inl rfl))))) q
   · rcases aP z with ⟨_,z⟩ | ⟨_,z⟩
     · rcases sub b (.inr ⟨i,by unfold upB; rw [if_pos rfl]; exact z⟩) with y | y
       · rcases List.mem_append.mp z with z | z
         · exact S.fr i b (mem b (.inl z))
         · rw [List.cons_append] at z
           rcases List.mem_cons.mp z with z | z
           · exact S.fr i b (mem b (.inr (.inl z)))
           · rcases List.mem_append.mp z with z | z
             · rcases hb b z with q | ⟨q,_⟩
               · exact S.fr i b (mem b (.inr (.inr (.inl q))))
               · exact S.same.free q
             · exact S.fr i b (mem b (.inr (.inr (.inr z))))
       · rcases hb b y with q | ⟨q,_⟩
         · exact S.fr i b (mem b (.inr (.inr (.inl q))))
         · exact S.same.free q
     · exact S.fr j b z
   · have inB:∀ {c},c ∈ l++((a :: bs1)++r)->c ∈ B i\/H c=none:=λ{c} z=>by
       rcases List.mem_append.mp z with z | z
       · exact .inl (mem c (.inl z))
       · rw [List.cons_append] at z
         rcases List.mem_cons.mp z with z | z
         · exact .inl (mem c (.inr (.inl z)))
         · rcases List.mem_append.mp z with z | z
           · rcases hb c z with q | ⟨q,_⟩
             · exact .inl (mem c (.inr (.inr (.inl q))))
             · exact .inr q
           · exact .inl (mem c (.inr (.inr (.inr z))))
     have cross:∀ {j},j ≠ i->b ∈ B j->b ∈ l++((a :: bs1)++r)->False:=λ{j} nj y1 y2=>by
       rcases inB y2 with q | q
       · exact nj (S.uq j i b y1 q)
       · obtain ⟨o,w⟩:=S.bd j b y1; rw [q] at w; cases w
     rcases aP z1 with ⟨e1,y1⟩ | ⟨e1,y1⟩ <;> rcases aP z2 with ⟨e2,y2⟩ | ⟨e2,y2⟩
     · exact e1.trans e2.symm
     · exact (cross e2 y2 y1).elim
     · exact (cross e1 y1 y2).elim
     · exact S.uq j k b y1 y2
   · rcases aP z with ⟨_,z⟩ | ⟨_,z⟩
     · by_cases e':b=a
       · exact ⟨_,by rw [e']; exact aF⟩
       · rw [aq e']
         have old:b ∈ B i->∃ o,H1 b=some o:=λq=>let ⟨o,w⟩:=S.bd i b q; ⟨o,e _ _ w⟩
         rcases List.mem_append.mp z with z | z
         · exact old (mem b (.inl z))
         · rw [List.cons_append] at z
           rcases List.mem_cons.mp z with z | z
           · exact absurd z e'
           · rcases List.mem_append.mp z with z | z
             · rcases hb b z with q | ⟨_,q⟩
               · exact old (mem b (.inr (.inr (.inl q))))
               · exact q
             · exact old (mem b (.inr (.inr (.inr z))))
     · by_cases e':b=a
       · exact ⟨_,by rw [e']; exact aF⟩
       · rw [aq e']
         obtain ⟨o,w⟩:=S.bd j b z
         exact ⟨o,e _ _ w⟩
end
noncomputable def dP (K:PySem.W.Frag) (τ:List Sl) (i:Nat) (p:List Nat):TE:=λσ H Q=>∃ A H₀ B,Sta K A H₀ τ B σ H/\∀ u v H',(σ[i]?).join=some u->ag H H'->bQ H' p u v->Q v H'
noncomputable def pJ:Sl->Option Nd
 | .un=>none
 | .d x=>some (.d x)
 | .o xs=>some (.l (xs.map .d))
 | .n t=>some t
 | .x _=>none
section
variable {K:PySem.W.Frag} {G H:Hp}
theorem kP:∀ {vs:List V} {xs:List D},aw K G vs xs->aC K G H vs [] (xs.map .d)
 | _,_,.nil=>.nil
 | _,_,.cons h r=>.cons (b1:=[]) (b2:=[]) (.d h) (kP r)
theorem bB.nd {v:V} {bs:List Addr} {s:Sl} {c:Nd} (h:bB K G H (some v) bs s) (e:pJ s=some c):a5 K G H v bs c/\bs.Nodup:=by
 cases s with
 | un=>cases e
 | d x=>cases e; obtain ⟨rfl,u,eu,d⟩:=h; cases eu; exact ⟨.d d,List.nodup_nil⟩
 | o xs=>cases e; obtain ⟨a,vs,rfl,e2,h3,h4⟩:=h; cases e2; exact ⟨.l h3 (kP h4),by simp⟩
 | n t=>cases e; obtain ⟨h0,u,eu,h2⟩:=h; cases eu; exact ⟨h2,h0⟩
 | x E=>cases e
theorem aC.put {v:V} {c:Nd} {b2:List Addr} (h:a5 K G H v b2 c):∀ {vs:List V} {bs:List Addr} {xs:List Nd} (j:Nat),j < xs.length->aC K G H vs bs xs->∃ l r,(∀ b,b ∈ l\/b ∈ r->b ∈ bs)/\(bs.Nodup->(l++r).Nodup)/\aC K G H (vs.set j v) (l++(b2++r)) (xs.set j c)
 | _,_,_,_,hj,.nil=>absurd hj (Nat.not_lt_zero _)
 | _,_,_,0,_,.cons (b1:=b1) (b2:=b3) h1 r=>⟨[],b3,λb hb=>List.mem_append_right _ (hb.elim (λz=>nomatch z) id),λn=>(List.nodup_append.mp n).2.1,by rw [List.nil_append]; exact .cons h r⟩
 | _,_,_,j + 1,hj,.cons (b1:=b1) (b2:=b3) h1 r=>by
   obtain ⟨l,q,z1,z2,z3⟩:=aC.put h j (by simpa using hj) r
   refine ⟨b1++l,q,λb hb=>?_,λn=>?_,by rw [List.append_assoc]; exact .cons h1 z3⟩
   · rcases hb with hb | hb
     · exact (List.mem_append.mp hb).elim (List.mem_append_left _) λz=>List.mem_append_right _ (z1 b (.inl z))
     · exact List.mem_append_right _ (z1 b (.inr hb))
   · obtain ⟨n1,n2,n3⟩:=List.nodup_append.mp n
     rw [List.append_assoc]
     refine List.nodup_append.mpr ⟨n1,z2 n2,λx hx y hy=>n3 x hx y (z1 y ?_)⟩
     exact (List.mem_append.mp hy)
theorem Sta.nd {A:Addr->Prop} {H₀:Hp} {τ:List Sl} {B:Nat->List Addr} {σ:L2.St} (S:Sta K A H₀ τ B σ H) {i:Nat} {s:Sl} {c:Nd} (hi:τ[i]?=some s) (hc:pJ s=some c):Sta K A H₀ (τ.set i (.n c)) (upB B i (B i)) σ H:=
 S.less (λ_ z=>z) λG' g _=>by
   have q:=S.sl i s hi
   obtain ⟨u,e⟩:∃ u,(σ[i]?).join=some u:=by
     cases s with
     | un=>cases hc
     | d x=>obtain ⟨_,u,e,_⟩:=q; exact ⟨u,e⟩
     | o xs=>obtain ⟨_,_,_,e,_⟩:=q; exact ⟨_,e⟩
     | n t=>obtain ⟨_,u,e,_⟩:=q; exact ⟨u,e⟩
     | x E=>cases hc
   rw [e] at q ⊢
   obtain ⟨q1,q2⟩:=q.nd hc
   exact ⟨q2,u,rfl,q1.frame g λ_ _=>rfl⟩
end
section
variable {X:Cx} {C:Bool} {τ:List Sl} {x y z:D} {a b e o ix:Expr} {es:List Expr} {pos p q:Pos} {k:Nat} {s:Sl} {N:Po} {rest:List Stmt} {i:Nat} {t c:Nd} {pt:List Nat} {xs:List Nd} {j:Int} {m:Nat}
theorem qK (i:Nat) {n:Str} {t:Nd} (h:τ[i]?=some (.n t):=by rfl) (hN:X.N[i]?=some n:=by rfl) (hv:Vis X.env.scope n:=by first | exact Or.inl rfl | exact Or.inr (Or.inl rfl) | exact Or.inr (Or.inr rfl))
   (hd:(n == ("__debug__" : Str))=false:=by decide) (hcd:(n == ("__classdict__" : Str))=false:=by decide):PE X (.Name n pos) (dP X.K τ i []):=peW (b9 hN hv hd hcd) λσ H Q ⟨A,H₀,B,S,k⟩=>by
 obtain ⟨_,u,e,_⟩:=S.sl i _ h
 exact ⟨u,slot_of e,k u u H e (ag.refl _) rfl⟩
theorem Sta.at {K:PySem.W.Frag} {A:Addr->Prop} {H₀ H:Hp} {τ:List Sl} {B:Nat->List Addr} {σ:L2.St} (S:Sta K A H₀ τ B σ H) (hi:τ[i]?=some (.n t)) (hp:fV pt t=some c):∃ u v m,(σ[i]?).join=some u/\bQ H pt u v/\a5 K (hd H (own A B)) H v m c/\∀ b ∈ m,b ∈ B i:=by
 obtain ⟨_,u,e,ok⟩:=S.sl i _ hi
 obtain ⟨v,l,m,r,h1,h2,h3,_⟩:=ok.focus pt hp
 exact ⟨u,v,m,e,h1,h3,λb hb=>by rw [h2]; exact List.mem_append_right _ (List.mem_append_left _ hb)⟩
theorem jW {K:PySem.W.Frag} {G H:Hp} {vs:List V} {bs:List Addr} {m:Nat} (r:aC K G H vs bs xs) (hm:m < xs.length):∃ v,vs[m]?=some v:=⟨vs[m]'(by rw [r.length]; exact hm),List.getElem?_eq_getElem _⟩
theorem lB {n m:Nat} {j:Int} (h:ixN n j=some m):m < n:=by
 unfold ixN at h
 split at h
 · split at h
   · cases h; omega
   · cases h
 · split at h
   · cases h; omega
   · cases h
theorem tH (ha:PE X a (dP X.K τ i pt)) (hb:PE X b (dE X.K false τ (.d (.int j)))) (hi:τ[i]?=some (.n t)) (hp:fV pt t=some (.l xs)) (hj:ixN xs.length j=some m) (hs:eA b:=by exact λ_ _=>rfl):PE X (.Subscript a b pos) (dP X.K τ i (pt++[m])):=
 peW (kF ju ha hb hs) λσ H Q ⟨A,H₀,B,S,k⟩=>⟨A,H₀,B,S,λu v H1 eu e1 pv=>aR (S.mono e1) λw H2 e2 d2=>by
   cases d2
   obtain ⟨u',v',m',eu',pv',ok,_⟩:=((S.mono e1).mono e2).at hi hp
   rw [eu] at eu'
   cases eu'
   obtain rfl:=(pv.mono e2).det pv'
   cases ok with
   | @l ad vs _ _ hH r=>
     obtain ⟨x,hx⟩:=jW r (lB hj)
     exact ⟨ad,vs,j,x,rfl,rfl,SqL.of hH,by unfold atI; rw [r.length,hj]; exact hx,k u x H2 eu (e1.trans e2) (pv'.snoc (.inl hH) hx)⟩⟩
theorem pS (ha:PE X a (dP X.K τ i pt)) (hb:PE X b (dE X.K false τ (.d (.int j)))) (hi:τ[i]?=some (.n t)) (hp:fV pt t=some (.t xs)) (hj:ixN xs.length j=some m) (hs:eA b:=by exact λ_ _=>rfl):PE X (.Subscript a b pos) (dP X.K τ i (pt++[m])):=
 peW (kF kx ha hb hs) λσ H Q ⟨A,H₀,B,S,k⟩=>⟨A,H₀,B,S,λu v H1 eu e1 pv=>aR (S.mono e1) λw H2 e2 d2=>by
   cases d2
   obtain ⟨u',v',m',eu',pv',ok,_⟩:=((S.mono e1).mono e2).at hi hp
   rw [eu] at eu'
   cases eu'
   obtain rfl:=(pv.mono e2).det pv'
   cases ok with
   | @t ad vs _ _ hH r=>
     obtain ⟨x,hx⟩:=jW r (lB hj)
     exact ⟨ad,vs,j,x,rfl,rfl,SqT.of hH,by unfold atI; rw [r.length,hj]; exact hx,k u x H2 eu (e1.trans e2) (pv'.snoc (.inr hH) hx)⟩⟩
end
end Hy
namespace Ev
open PySem PySem.Spec PyProof.Rows L2
noncomputable def bad:Str:=⟨#[0x110000]⟩
mutual
noncomputable def eqD:D->D->Bool
 | .non,.non=>true
 | .bl a,.bl b=>a == b
 | .bl a,.int j=>(if a then 1 else 0) == j
 | .int i,.bl b=>i == (if b then 1 else 0)
 | .int a,.int b=>a == b
 | .str a,.str b=>a == b
 | .tup xs,.tup ys=>eE xs ys
 | .lst xs,.lst ys=>eE xs ys
 | .box _,.box _=>true
 | .box _,.str b=>bad == b
 | .str a,.box _=>a == bad
 | .box _,.non | .box _,.bl _ | .box _,.int _ | .box _,.tup _ | .box _,.lst _=>false
 | .non,.box _ | .bl _,.box _ | .int _,.box _ | .tup _,.box _ | .lst _,.box _=>false
 | .non,.bl _ | .non,.int _ | .non,.str _ | .non,.tup _ | .non,.lst _=>false
 | .bl _,.non | .bl _,.str _ | .bl _,.tup _ | .bl _,.lst _=>false
 | .int _,.non | .int _,.str _ | .int _,.tup _ | .int _,.lst _=>false
 | .str _,.non | .str _,.bl _ | .str _,.int _ | .str _,.tup _ | .str _,.lst _=>false
 | .tup _,.non | .tup _,.bl _ | .tup _,.int _ | .tup _,.str _ | .tup _,.lst _=>false
 | .lst _,.non | .lst _,.bl _ | .lst _,.int _ | .lst _,.str _ | .lst _,.tup _=>false
noncomputable def eE:List D->List D->Bool
 | [],[]=>true
 | x :: xs,y :: ys=>eqD x y && eE xs ys
 | [],_ :: _=>false
 | _ :: _,[]=>false
end
mutual
noncomputable def toP:D->PyData
 | .non=>.none
 | .bl b=>.bool b
 | .int i=>.int i
 | .str x=>.str x
 | .tup xs=>.tuple (cQ xs)
 | .lst xs=>.list (cQ xs)
 | .box _=>.str bad
noncomputable def cQ:List D->List PyData
 | []=>[]
 | x :: xs=>toP x :: cQ xs
end
mutual
noncomputable def cln:D->Bool
 | .str x=>PyData.strOk x
 | .tup xs=>dN xs
 | .lst xs=>dN xs
 | .box _=>false
 | .non | .bl _ | .int _=>true
noncomputable def dN:List D->Bool
 | []=>true
 | x :: xs=>cln x && dN xs
end
mutual
noncomputable def dep:D->Nat
 | .tup xs=>eJ xs + 1
 | .lst xs=>eJ xs + 1
 | .non | .bl _ | .int _ | .str _ | .box _=>0
noncomputable def eJ:List D->Nat
 | []=>0
 | x :: xs=>max (dep x) (eJ xs)
end
noncomputable def cB (x:D):Prop:=cln x=true/\dep x<=64
noncomputable instance (x:D):Decidable (cB x):=inferInstanceAs (Decidable (_/\_))
mutual
theorem ez:∀ x y:D,PyData.eqv (toP x) (toP y)=eqD x y
 | .non,y=>by cases y <;> simp [toP,PyData.eqv,eqD]
 | .bl a,y=>by cases y <;> simp [toP,PyData.eqv,eqD]
 | .int a,y=>by cases y <;> simp [toP,PyData.eqv,eqD]
 | .str a,y=>by cases y <;> simp [toP,PyData.eqv,eqD]
 | .tup xs,.tup ys=>by simp only [toP,PyData.eqv,eqD]; exact eG xs ys
 | .lst xs,.lst ys=>by simp only [toP,PyData.eqv,eqD]; exact eG xs ys
 | .tup xs,.non=>by simp [toP,PyData.eqv,eqD]
 | .tup xs,.bl _=>by simp [toP,PyData.eqv,eqD]
 | .tup xs,.int _=>by simp [toP,PyData.eqv,eqD]
 | .tup xs,.str _=>by simp [toP,PyData.eqv,eqD]
 | .tup xs,.lst _=>by simp [toP,PyData.eqv,eqD]
 | .lst xs,.non=>by simp [toP,PyData.eqv,eqD]
 | .lst xs,.bl _=>by simp [toP,PyData.eqv,eqD]
 | .lst xs,.int _=>by simp [toP,PyData.eqv,eqD]
 | .lst xs,.str _=>by simp [toP,PyData.eqv,eqD]
 | .lst xs,.tup _=>by simp [toP,PyData.eqv,eqD]
 | .tup xs,.box _=>by simp [toP,PyData.eqv,eqD]
 | .lst xs,.box _=>by simp [toP,PyData.eqv,eqD]
 | .box _,y=>by cases y <;> simp [toP,PyData.eqv,eqD]
theorem eG:∀ xs ys:List D,PyData.eqvAll (cQ xs) (cQ ys)=eE xs ys
 | [],[]=>by simp [cQ,PyData.eqvAll,eE]
 | [],_ :: _=>by simp [cQ,PyData.eqvAll,eE]
 | _ :: _,[]=>by simp [cQ,PyData.eqvAll,eE]
 | x :: xs,y :: ys=>by simp only [cQ,PyData.eqvAll,eE]; rw [ez x y,eG xs ys]
end
mutual
theorem jI:∀ x:D,(toP x).canLay0=cln x
 | .non=>by simp [toP,PyData.canLay0,cln]
 | .bl _=>by simp [toP,PyData.canLay0,cln]
 | .int _=>by simp [toP,PyData.canLay0,cln]
 | .str _=>by simp [toP,PyData.canLay0,cln]
 | .tup xs=>by simp only [toP,PyData.canLay0,cln]; exact fg xs
 | .lst xs=>by simp only [toP,PyData.canLay0,cln]; exact fg xs
 | .box _=>by simp only [toP,PyData.canLay0,cln]; decide +kernel
theorem fg:∀ xs:List D,PyData.canLayAll0 (cQ xs)=dN xs
 | []=>by simp [cQ,PyData.canLayAll0,dN]
 | x :: xs=>by simp only [cQ,PyData.canLayAll0,dN]; rw [jI x,fg xs]
end
mutual
theorem jq:∀ x:D,(toP x).depth=dep x
 | .non=>by simp [toP,PyData.depth,dep]
 | .bl _=>by simp [toP,PyData.depth,dep]
 | .int _=>by simp [toP,PyData.depth,dep]
 | .str _=>by simp [toP,PyData.depth,dep]
 | .tup xs=>by simp only [toP,PyData.depth,dep]; rw [fI xs]
 | .lst xs=>by simp only [toP,PyData.depth,dep]; rw [fI xs]
 | .box _=>by simp [toP,PyData.depth,dep]
theorem fI:∀ xs:List D,PyData.depthAll (cQ xs)=eJ xs
 | []=>by simp [cQ,PyData.depthAll,eJ]
 | x :: xs=>by simp only [cQ,PyData.depthAll,eJ]; rw [jq x,fI xs]
end
theorem bJ {x:D} (h:cB x):SeqAt.shaped (toP x)=true:=by
 unfold SeqAt.shaped
 rw [jI,jq,h.1,Bool.true_and]
 exact decide_eq_true h.2
section
variable {X:Cx} {pins:List (Addr × Obj)} {σ:L2.St} {H G:Hp} {s:Shared}
mutual
theorem bX (I:Inv X pins σ H s) (e:ag G H):∀ {v:V} {d:D} {u:Value},Den X.K G v d->RelV v u->cln d=true->∃ as,Reads s.heap u (toP d) as
 | _,_,_,.non,r,_=>by cases r; exact ⟨_,.none⟩
 | _,_,_,.bl,r,_=>by cases r; exact ⟨_,.bool _⟩
 | _,_,_,.int,r,_=>by obtain ⟨t,rfl⟩:=r; exact ⟨_,.int _ _⟩
 | _,_,_,.str,r,_=>by obtain ⟨t,rfl⟩:=r; exact ⟨_,.str _ _⟩
 | _,_,_,.tup h q,r,c=>by
   cases r
   obtain ⟨its,rv,⟨o,h1,h2,n,h3⟩,_⟩:=I.tuple (aV e h)
   obtain ⟨as,z⟩:=dQ I e q rv (by rw [cln] at c; exact c)
   exact ⟨_,.tuple h1 h2 h3 (by simpa using z)⟩
 | _,_,_,.lst h q,r,c=>by
   cases r
   obtain ⟨its,rv,⟨o,n,h1,h2,_,h3⟩,_⟩:=I.list (aI e h)
   obtain ⟨as,z⟩:=dQ I e q rv (by rw [cln] at c; exact c)
   exact ⟨_,.list h1 h2 h3 (by simpa using z)⟩
 | _,_,_,.box _,_,c=>by rw [cln] at c; cases c
theorem dQ (I:Inv X pins σ H s) (e:ag G H):∀ {vs:List V} {ds:List D} {us:List Value},aw X.K G vs ds->Vals vs us->dN ds=true->∃ as,ReadsAll s.heap us (cQ ds) as
 | _,_,_,.nil,.nil,_=>⟨_,.nil⟩
 | _,_,_,.cons h q,.cons r rs,c=>by
   rw [dN,Bool.and_eq_true] at c
   obtain ⟨as,z⟩:=bX I e h r c.1
   obtain ⟨bs,z'⟩:=dQ I e q rs c.2
   exact ⟨_,.cons z z'⟩
end
end
end Ev
namespace Hy
open PySem PySem.Spec PyProof.Rows L2
open Ev (D Den aw au aV aI Itz Itv qF ot mf ll eqD cB bX bJ ez)
section
variable {X:Cx} {C:Bool} {τ:List Sl} {x y z:D} {a b e c tg it elt:Expr} {es ifs:List Expr} {pos p q:Pos} {k:Nat} {s:Sl} {N:Po} {rest body:List Stmt} {ds xs ys:List D} {i j:Int} {scope:Scope}
theorem jQ (M:Nat->Bool->List Sl->Prop) (B:Bk X k) (h0:∃ n t,M n t τ) (hc:∀ n t τ',M n t τ'->PT X c (dT X.K τ' t)) (hb:∀ n τ',M n true τ'->PSs X body (dS X.K τ' { N with nx:=λτ2=>∃ m t,m < n/\M m t τ2,ct:=λτ2=>∃ m t,m < n/\M m t τ2,bk:=λ_=>False }))
   (hr:∀ n τ',M n false τ'->PSs X rest (dS X.K τ' N)):PSs X (.While c body [] pos :: rest) (dS X.K τ N):=by
 have hc':PT X c λσ H Q=>∃ n t τ',M n t τ'/\dT X.K τ' t σ H Q:=λpins s σ H Q I ⟨n,t,τ',m,q⟩=>hc n t τ' m pins s σ H Q I q
 have hb':PSs X body λD σ H=>∃ n τ',M n true τ'/\dS X.K τ' { N with nx:=λτ2=>∃ m t,m < n/\M m t τ2,ct:=λτ2=>∃ m t,m < n/\M m t τ2,bk:=λ_=>False } D σ H:=λpins s σ H D I ⟨n,τ',m,q⟩=>hb n τ' m pins s σ H D I q
 refine bg (M:=λτ'=>∃ n,M n false τ') (psW (l5 B.po hc' hb') λD σ H ⟨A,H₀,B,S,Me⟩=>⟨λm σ' H'=>∃ t τ' B',M m t τ'/\Sta X.K A H₀ τ' B' σ' H',?_,?_⟩) λτ' h=>let ⟨n,h⟩:=h; hr n τ' h
 · obtain ⟨n,t,h0⟩:=h0
   exact ⟨n,t,τ,B,h0,S⟩
 rintro m σ' H' ⟨t,τ',B',hM,S'⟩
 refine ⟨m,t,τ',hM,A,H₀,B',S',λH1 e1=>?_⟩
 cases t with
 | false=>exact lj (Me.nx τ' B' σ' H1 ⟨m,hM⟩ (S'.mono e1))
 | true=>
   refine kY ⟨λσ2 H2=>∃ τ2 B2,(∃ n t,n < m/\M n t τ2)/\Sta X.K A H₀ τ2 B2 σ2 H2,λσ2 H2 ⟨τ2,B2,⟨n,t,l,q⟩,S2⟩=>⟨n,l,t,τ2,B2,q,S2⟩,m,τ',hM,A,H₀,B',S'.mono e1,?_⟩
   exact ⟨λτ2 B2 σ2 H2 m S2=>⟨τ2,B2,m,S2⟩,λ_ _ _ _ z=>z.elim,λτ2 B2 σ2 H2 m S2=>⟨τ2,B2,m,S2⟩,Me.rt,Me.xc⟩
theorem pV (hu:X.A.units + 64 < cLine):OpR X (compareOp .Eq) (λx y H Q=>∃ G d e,ag G H/\Den X.K G x d/\Den X.K G y e/\cB d/\cB e/\Q (.bl (eqD d e)) H):=by
 intro pins s σ H x y v u Q I rx ry ⟨G,d,e,sg,dx,dy,o1,o2,q⟩
 obtain ⟨as,r1⟩:=bX I sg dx rx o1.1
 obtain ⟨bs,r2⟩:=bX I sg dy ry o2.1
 exact eq_dataH r1 r2 (bJ o1) (bJ o2) hu ⟨.bl _,H,I,by rw [ez]; rfl,q⟩
theorem oU (hu:X.A.units + 64 < cLine):OpR X (compareOp .NotEq) (λx y H Q=>∃ G d e,ag G H/\Den X.K G x d/\Den X.K G y e/\cB d/\cB e/\Q (.bl (!eqD d e)) H):=by
 intro pins s σ H x y v u Q I rx ry ⟨G,d,e,sg,dx,dy,o1,o2,q⟩
 obtain ⟨as,r1⟩:=bX I sg dx rx o1.1
 obtain ⟨bs,r2⟩:=bX I sg dy ry o2.1
 exact ne_dataH r1 r2 (bJ o1) (bJ o2) hu ⟨.bl _,H,I,by rw [ez]; rfl,q⟩
theorem nP (B:Bk X k) (h1:cB x) (h2:cB y):bO X (compareOp .Eq) x y (.bl (eqD x y)):=⟨_,pV B.room.units,λM v w H Q _ d1 d2 q=>⟨_,x,y,aM,d1,d2,h1,h2,q _ H (ag.refl _) .bl⟩⟩
theorem nX (B:Bk X k) (h1:cB x) (h2:cB y):bO X (compareOp .NotEq) x y (.bl (!eqD x y)):=⟨_,oU B.room.units,λM v w H Q _ d1 d2 q=>⟨_,x,y,aM,d1,d2,h1,h2,q _ H (ag.refl _) .bl⟩⟩
variable {u v:Str}
theorem oq:bO X (compareOp .NotEq) (.str u) (.str v) (.bl (!decide (u=v))):=⟨_,nO,λ_ v' w H Q _ d1 d2 k=>by
 cases d1
 cases d2
 exact ⟨rfl,by rw [show decide (V.str u=V.str v)=decide (u=v) by simp]; exact k _ H (ag.refl _) .bl⟩⟩
theorem qS {us:List Str}:bO X (compareOp .In) (.str u) (.tup (us.map .str)) (.bl (us.any λw=>decide (w=u))):=⟨_,gd,λM x' y' H Q _ d1 d2 q=>by
 cases d1
 cases d2 with
 | @tup ad vs _ h r=>
   have ev:vs=us.map V.str:=by
     clear h q
     induction us generalizing vs with
     | nil=>cases r; rfl
     | cons w ws ih=>
       cases r with
       | cons d r=>cases d; rw [ih r]; rfl
   subst ev
   refine ⟨_,_,rfl,.inr (aV aM h),rfl,?_,?_⟩
   · rw [List.all_map,List.all_eq_true]; intro _ _; rfl
   · rw [if_neg Bool.false_ne_true]
     unfold inV
     rw [List.any_map]
     exact q _ H (ag.refl _) (by
       have e:(us.any λw=>decide (w=u))=us.any ((λy=>eqV y (V.str u)) ∘ V.str):=by
         congr 1
       rw [e]; exact .bl)⟩
theorem ee:∀ {bs:List Bool} {us:List Value},Vals (bs.map V.bl) us->us=bs.map Value.bool
 | [],_,h=>by cases h; rfl
 | b :: bs,_,h=>by
   cases h with
   | cons rv rs=>rw [ee rs,show _=Value.bool b from rv]; rfl
theorem ky (hc:X.calm=true):cN X (.builtin "all") (λxs H Q=>∃ (p:Addr) (bs:List Bool),xs=[.ref p]/\SqL X.K H p (bs.map V.bl)/\Q (.bl (bs.all id)) H):=by
 intro pins s σ H xs us Q I r q
 obtain ⟨p,bs,rfl,h,q⟩:=q
 obtain ⟨u,rfl,ru⟩:∃ u,us=[u]/\RelV (.ref p) u:=by
   cases r with
   | cons r1 r=>cases r; exact ⟨_,rfl,r1⟩
 cases (show u=Value.ref _ from ru)
 obtain ⟨its,rv,pl,hz⟩:=I.list h
 obtain rfl:=ee rv
 have lt:∀ a,s.heap.IsList a (bs.map Value.bool).toArray->a ≠ s.heap.objs.size:=λa ⟨o,z,_⟩=>Nat.ne_of_lt (Heap.lt_size z)
 refine call_all_walk (wpAny_pyIter_list pl.isList ⟨_,_,_,_,_,_,λi=>(bs.map Value.bool)[i]? == some (Value.bool true),rfl,Walks.list (A:=X.A.in1) (I.ok.hd hc) _ _ (lt _ pl.isList) (bs.map Value.bool).toArray,⟨⟨_,Heap.get?_push_size _ rfl,rfl,rfl⟩,?_⟩,λi v s' Q' E' hP hQ=>?_,λh' tk hk=>?_⟩)
 · obtain ⟨o,z1,z2⟩:=pl.isList
   exact ⟨o,Heap.get?_push_of_some _ z1,z2⟩
 · have hP':(bs.map Value.bool)[i]?=some v:=by simpa using hP
   obtain ⟨c,_,rfl⟩:=List.mem_map.mp (List.mem_of_getElem? hP')
   refine wpAny_truthy_bool ?_
   have hQ:Q' ((bs.map Value.bool)[i]? == some (Value.bool true)) s':=hQ
   rw [hP'] at hQ
   cases c
   · exact hQ
   · exact hQ
 · refine ⟨.bl (bs.all id),H,I.kept (t':=tk) λb' o z=>?_,?_,q⟩
   · refine hk b' o (λhm=>?_) (Heap.get?_push_of_some _ z)
     have:b'=s.heap.objs.size:=by simpa using hm
     exact absurd (Heap.lt_size z) (by rw [this]; exact Nat.lt_irrefl _)
   · have e:∀ bs:List Bool,bs.all id=(List.range (bs.map Value.bool).toArray.size).all λi=>(bs.map Value.bool)[i]? == some (Value.bool true):=λbs=>by
       rw [List.size_toArray,List.length_map]
       induction bs with
       | nil=>rfl
       | cons b bs ih=>
         rw [List.all_cons,ih,List.length_cons,List.range_succ_eq_map,List.all_cons,List.all_map]
         congr 1
         cases b <;> rfl
     rw [e]; rfl
theorem jB {K:PySem.W.Frag} {H:Hp}:∀ {vs:List V} {bs:List Bool},aw K H vs (bs.map .bl)->vs=bs.map V.bl
 | _,[],h=>by cases h; rfl
 | _,_ :: _,h=>by
   cases h with
   | cons d r=>cases d; rw [jB r]; rfl
theorem rB (hc:X.calm=true) (bs:List Bool) (hx:xs=bs.map .bl):gW X (.builtin "all") [.lst xs] (.d (.bl (bs.all id))):=⟨_,ky hc,λM vs H Q _ d q=>by
 subst hx
 cases d with
 | cons d r=>
   cases r
   cases d with
   | lst h r=>
     cases jB r
     exact ⟨_,_,rfl,aI aM h,q _ H [] (ag.refl _) cg (ek .bl)⟩⟩
end
end Hy
namespace Hy
open PySem PySem.Spec PyProof.Rows L2
open Ev (D Den aw au aV aI az dW cE PTs cn cS)
section
variable {X:Cx} {C:Bool} {τ:List Sl} {x y z:D} {a b e c tg it elt o:Expr} {es ifs:List Expr} {pos p q:Pos} {k:Nat} {s:Sl} {N:Po} {rest body:List Stmt} {ds xs ys:List D} {i j:Int} {scope:Scope}
theorem nF:OpR X (binaryOp .Mult) (λx y H Q=>∃ l k xs,x=.ref l/\y=.int k/\SqL X.K H l xs/\0<=k/\k < 100000/\xs.length * k.toNat<=sizeLine/\∀ p,H p=none->Q (.ref p) (upd H p (.lst (List.replicate k.toNat xs).flatten))):=by
 intro pins s σ H x y v u Q I rx ry h
 obtain ⟨l,k,xs,rfl,rfl,hH,h1,h2,hz,q⟩:=h
 cases rx
 obtain ⟨t,rfl⟩:=ry
 obtain ⟨its,r,pl,_⟩:=I.list hH
 have hl:=r.length
 obtain ⟨⟨cls,dd,data,sl⟩,e,hc,n,hd⟩:=pl.isList
 simp only at hc hd
 subst hc hd
 have hlen:its.toArray.size * k.toNat<=sizeLine:=by rw [List.size_toArray,<- hl]; exact hz
 have hcap:¬ its.toArray.size * k.toNat > (2 ^ 63 - 1) / 8:=by
   have:(sizeLine:Nat)<=(2 ^ 63 - 1) / 8:=by decide
   omega
 have hfit:¬ (!Builtin.List.listFitsIndex k)=true:=by
   rw [fitsIndex_both (by omega) (by omega)]
   exact Bool.false_ne_true
 have hlong:¬ Builtin.List.listTooLong (its.toArray.size * k.toNat)=true:=by
   rw [kZ hlen]
   exact Bool.false_ne_true
 have hnew:List.foldl (λx1 x2=>x1++x2) #[] (List.replicate (if its.toArray.isEmpty=true then 0 else k.toNat) its.toArray)=(List.replicate k.toNat its).flatten.toArray:=by
   have f0:∀ m:Nat,List.foldl (λx1 x2=>x1++x2) #[] (List.replicate m its.toArray)=(List.replicate m its).flatten.toArray:=λm=>by
     have:=foldl_rep its m []
     rw [List.nil_append] at this
     exact this
   rw [f0]
   cases its with
   | nil=>simp
   | cons a r'=>rw [if_neg (by simp)]
 refine wpAny_binaryOp_repeat_ref (T:="list") (U:="int") (by decide) ⟨_,e,rfl⟩ (λs'=>typeIs_int s' k t) noFill_list_mul F.fills_int_mul F.slot_int_rmul repeat_list F.slot_int_index.lookup
   (call_meets F.slot_int_rmul (typeIs_int s k t) F.entry_int_rmul (F.args_int_rmul_2 _ _) (lm_int_rmul_list_any k t l its.toArray n dd sl)
     ⟨e,rfl,⟨_,e,rfl⟩,call_meets F.slot_list_mul ⟨_,e,rfl⟩ F.entry_list_mul (F.args_list_mul_2 _ _) (lm_list_mul_any l its.toArray n dd sl k t hfit hcap hlong) ⟨e,?_⟩⟩)
 rw [hnew]
 exact ⟨.ref _,_,I.rL (t':=s.toks) (r.rep k.toNat) (by rw [len_rep,Nat.mul_comm]; exact hz),rfl,q _ I.fresh⟩
theorem ji {K:PySem.W.Frag} {H:Hp} {vs:List V} (h:aw K H vs xs):∀ k:Nat,aw K H (List.replicate k vs).flatten (List.replicate k xs).flatten
 | 0=>.nil
 | k + 1=>by rw [List.replicate_succ,List.replicate_succ,List.flatten_cons,List.flatten_cons]; exact h.append (ji h k)
theorem jU (ha:PE X a (dE X.K C τ (.d (.lst xs)))) (hb:PE X b (dE X.K C τ (.d (.int j)))) (h0:0<=j) (h1:j < 100000) (hl:xs.length * j.toNat < 1000000):PE X (.BinOp a .Mult b pos) (dE X.K C τ (.o (List.replicate j.toNat xs).flatten)):=peW (ma nF ha hb) λσ H Q ⟨A,H₀,B,S,k⟩=>
 aR S λv H1 e1 d1=>aR (S.mono e1) λw H2 e2 d2=>by
   cases d2
   cases d1 with
   | lst h1' r1=>
     refine ⟨_,j,_,rfl,rfl,aI (aM.trans e2) h1',h0,h1,by rw [r1.length]; exact Nat.le_of_lt (Nat.lt_trans hl (by decide)),λp hp=>?_⟩
     obtain ⟨z1,z2,z3⟩:=gK (K:=X.K) hp (ji (r1.mono (ay e2 λ_ z=>z)) j.toNat)
     exact k _ _ [p] (e1.trans (e2.trans z1)) (λb hb=>⟨(e1.trans e2).free (z2 b hb).1,(z2 b hb).2⟩) z3
noncomputable def dN' (K:PySem.W.Frag) (C:Bool) (τ:List Sl) (ns:List Nd):TA:=λσ H Q=>∃ A H₀ B,Sta K A H₀ τ B σ H/\∀ vs H' bs,ag H H'->Fr H H' bs->bs.Nodup->aC K (hd H' λb=>vw C A B b\/b ∈ bs) H' vs bs ns->Q vs H'
theorem og:PA X [] (dN' X.K C τ []):=paW cI λσ H Q ⟨A,H₀,B,S,k⟩=>k [] H [] (ag.refl _) cg List.nodup_nil .nil
theorem Sta.hide {K:PySem.W.Frag} {A:Addr->Prop} {H₀ H H1:Hp} {B:Nat->List Addr} {σ:L2.St} {b1:List Addr} (S:Sta K A H₀ τ B σ H) (e:ag H H1) (f:Fr H H1 b1):Sta K (λb=>A b\/b ∈ b1) (hd H1 λb=>∃ i,b ∈ B i) τ B σ H1 where
 same:=aM
 len:=S.len
 sl:=λi s h=>(S.sl i s h).mono (λb o z=>by
   obtain ⟨z1,z2⟩:=ao.mp z
   refine ao.mpr ⟨λw=>?_,e _ _ z2⟩
   rcases w with (w | w) | w
   · exact z1 (.inl w)
   · rw [(f b w).1] at z2; cases z2
   · exact z1 (.inr w)) e
 fr:=λi b hb=>by
   cases q:hd H1 (λb=>∃ i,b ∈ B i) b with
   | none=>rfl
   | some o=>exact absurd ⟨i,hb⟩ (ao.mp q).1
 uq:=S.uq
 ad:=λb hb=>by
   rcases hb with z | z
   · obtain ⟨o,q⟩:=S.ad b z
     exact ⟨o,ao.mpr ⟨λ⟨i,w⟩=>(by rw [S.fr i b w] at q; cases q),e _ _ (S.same _ _ q)⟩⟩
   · obtain ⟨w1,o,w2⟩:=f b z
     exact ⟨o,ao.mpr ⟨λ⟨i,w⟩=>(by obtain ⟨o',q⟩:=S.bd i b w; rw [w1] at q; cases q),w2⟩⟩
 bd:=λi b hb=>let ⟨o,q⟩:=S.bd i b hb; ⟨o,e _ _ q⟩
theorem jV {A:Addr->Prop} {B:Nat->List Addr} {b1:List Addr} {b:Addr} (h:vw C A B b\/b ∈ b1):vw C (λb=>A b\/b ∈ b1) B b:=by
 cases C with
 | true=>
   rcases h with (h | h) | h
   · exact .inl (.inl h)
   · exact .inr h
   · exact .inl (.inr h)
 | false=>exact h
theorem cM {n:Nd} {ns:List Nd} (ha:PE X e (dE X.K C τ s)) (hn:pJ s=some n) (hr:PA X es (dN' X.K C τ ns)) (hs:starEach (e :: es) X.env=(false,eval e X.env) :: starEach es X.env:=by rfl):PA X (e :: es) (dN' X.K C τ (n :: ns)):=paW (bf ha hr hs) λσ H Q ⟨A,H₀,B,S,k⟩=>
 ⟨A,H₀,B,S,λv H1 b1 e1 f1 h1=>⟨_,_,B,S.hide e1 f1,λvs H2 b2 e2 f2 n2 h2=>by
   obtain ⟨q1,n1⟩:=h1.nd hn
   refine k _ H2 (b1++b2) (e1.trans e2) (λb hb=>?_) (List.nodup_append.mpr ⟨n1,n2,λx hx y hy z=>?_⟩) (.cons (q1.frame ?_ λb hb=>?_) (h2.frame ?_ λ_ _=>rfl))
   · rcases List.mem_append.mp hb with z | z
     · obtain ⟨w1,o,w2⟩:=f1 b z; exact ⟨w1,o,e2 _ _ w2⟩
     · exact ⟨e1.free (f2 b z).1,(f2 b z).2⟩
   · obtain ⟨_,o,w⟩:=f1 x hx; rw [z,(f2 y hy).1] at w; cases w
   · intro b o z
     obtain ⟨z1,z2⟩:=ao.mp z
     refine ao.mpr ⟨λw=>?_,e2 _ _ z2⟩
     rcases w with w | w
     · exact z1 (.inl w)
     · rcases List.mem_append.mp w with w | w
       · exact z1 (.inr w)
       · rw [(f2 b w).1] at z2; cases z2
   · obtain ⟨_,o,w⟩:=f1 b hb
     rw [w,e2 _ _ w]
   · refine ay (ag.refl _) λb w=>?_
     rcases w with w | w
     · exact .inl (jV (.inl w))
     · rcases List.mem_append.mp w with w | w
       · exact .inl (jV (.inr w))
       · exact .inr w⟩⟩
theorem oD {K:PySem.W.Frag} {H:Hp} {M:Addr->Prop} {p:Addr} {o:HO} {vs:List V} {bs:List Addr} {ns:List Nd} (hp:H p=none) (d:aC K (hd H λb=>M b\/b ∈ bs) H vs bs ns) (nd:bs.Nodup) :
   aC K (hd (upd H p o) λb=>M b\/b ∈ p :: bs) (upd H p o) vs bs ns/\(p :: bs).Nodup:=by
 have off:∀ b ∈ bs,b ≠ p:=λb hb z=>by obtain ⟨w,q⟩:=d.some_of b hb; rw [z,hp] at q; cases q
 refine ⟨d.frame (λb w z=>?_) λb hb=>aq (off b hb),List.nodup_cons.mpr ⟨λz=>off p z rfl,nd⟩⟩
 obtain ⟨z1,z2⟩:=ao.mp z
 have ne:b ≠ p:=λy=>by rw [y,hp] at z2; cases z2
 refine ao.mpr ⟨λy=>?_,by rw [aq ne]; exact z2⟩
 rcases y with y | y
 · exact z1 (.inl y)
 · rcases List.mem_cons.mp y with y | y
   · exact ne y
   · exact z1 (.inr y)
theorem kL {ns:List Nd} {m} (h:PA X es (dN' X.K C τ ns)) (hl:Nat.ble ns.length 1000=true:=by rfl):PE X (.Tuple es m pos) (dE X.K C τ (.n (.t ns))):=peW (lV h) λσ H Q ⟨A,H₀,B,S,k⟩=>
 ⟨A,H₀,B,S,λvs H1 bs e1 f1 n1 h1=>⟨by rw [h1.length]; exact Nat.le_of_lt (dR (Nat.le_of_ble_eq_true hl)),λp hp=>by
   obtain ⟨z1,z2⟩:=oD (o:=.tup vs) hp h1 n1
   exact k _ _ (p :: bs) (e1.trans (au hp _)) (λb hb=>by
     rcases List.mem_cons.mp hb with w | w
     · subst w; exact ⟨e1.free hp,_,aF⟩
     · obtain ⟨w1,o,w2⟩:=f1 b w; exact ⟨w1,o,au hp _ _ _ w2⟩) ⟨z2,_,rfl,.t aF z1⟩⟩⟩
end
section
variable {X:Cx} {C:Bool} {τ τ':List Sl} {x y z:D} {a b e c tg it elt o ix:Expr} {es ifs:List Expr} {pos p q:Pos} {k:Nat} {s:Sl} {N:Po} {rest body:List Stmt} {ds xs ys:List D} {i:Nat} {j:Int} {scope:Scope}
noncomputable def dGs (K:PySem.W.Frag) (τ:List Sl) (xs:List D) (τ':List Sl):TGs:=λvs σ H Q=>∃ A H₀ B,Sta K A H₀ τ B σ H/\aw K (hd H (own A B)) vs xs/\∀ σ' B',Sta K A H₀ τ' B' σ' H->Q σ' H
theorem qX {es:List Expr} {t t':TGs} (h:PGs X es t) (f:∀ v σ H Q,t' v σ H Q->t v σ H Q):PGs X es t':=λpins s σ H v u Q I r q=>h pins s σ H v u Q I r (f v σ H Q q)
theorem pZ:PGs X [] (dGs X.K τ [] τ):=qX jz λv σ H Q ⟨A,H₀,B,S,d,k⟩=>by
 cases d
 exact ⟨rfl,k σ B S⟩
theorem er (i:Nat) {n:Str} (hN:X.N.Nodup) (h:PGs X es (dGs X.K (τ.set i (.d x)) xs τ')) (hi:X.N[i]?=some n:=by rfl) (hx:Loc X.env.scope n:=by first | exact .inl rfl | exact .inr rfl) (hf:X.fn n=true\/X.env.scope.names.lookup n=some .local:=by first | exact .inl rfl | exact .inr rfl | assumption):PGs X (.Name n p :: es) (dGs X.K τ (x :: xs) τ'):=
 qX (eY (de (i:=i) hN hi hx hf) h) λv σ H Q ⟨A,H₀,B,S,d,k⟩=>by
   cases d with
   | cons d r=>
     have sub:∀ b,own A (upB B i []) b->own A B b:=λb z=>z.elim .inl λ⟨j,z⟩=>(aP z).elim (λz=>nomatch z.2) λz=>.inr ⟨j,z.2⟩
     exact ⟨_,_,rfl,A,H₀,_,S.set (ag.refl _) (bs:=[]) (λ_ z=>nomatch z) (ek d),r.mono (ay (ag.refl _) sub),k⟩
theorem su {m:Nat} (hc:X.calm=true) (h:PGs X es (dGs X.K τ xs τ')) (hl:(assignEach es X.env).length=xs.length:=by rfl) (hst:(assignEach es X.env).findIdx? (·.1)=none:=by rfl):PG X (.Tuple es m pos) (dG X.K τ (.tup xs) τ'):=
 pgW (kX (n:=xs.length) hc h hl hst) λv σ H Q ⟨A,H₀,B,S,d,k⟩=>by
   cases d with
   | tup h r=>exact ⟨_,_,rfl,aV aM h,r.length,A,H₀,B,S,r,k⟩
theorem oz {m:Nat} (he:PE X e (dE X.K true τ (.d x))) (hg:PG X (.Tuple es m p) (dG X.K τ x τ')) (hr:PSs X rest (dS X.K τ' N)) (hs:swapsWithSole [.Tuple es m p] e pos.line X.env=pure false:=by rfl) (hw:swappedStores [.Tuple es m p] e X.env=pure none:=by rfl)
   (h1:(assignEach [.Tuple es m p] X.env).map (·.2)=[assign (.Tuple es m p) X.env]:=by rfl):PSs X (.Assign [.Tuple es m p] e pos :: rest) (dS X.K τ N):=
 bg (M:=(·=τ')) (psW (oI he hg hs hw h1) λD σ H ⟨A,H₀,B,S,Me⟩=>aR S λv H1 e1 d1=>⟨A,H₀,B,S.mono e1,d1,λσ' B' S'=>Me.nx _ _ _ _ rfl S'⟩) λ_ e=>e ▸ hr
theorem nA {c:Expr} {t:TT} (h:PT X c t):PTs X [c] t:=λpins s σ H Q I q=>wpAny_tests_one (h pins s σ H Q I q)
end
section
variable {X:Cx} {C:Bool} {τ τ':List Sl} {x y z:D} {a b e c tg it elt o ix:Expr} {es ifs:List Expr} {pos p q:Pos} {k:Nat} {s:Sl} {N:Po} {rest body:List Stmt} {ds xs ys:List D} {i:Nat} {scope:Scope}
end
end Hy
namespace Hy
open PySem PySem.Spec PyProof.Rows L2
open Ev (D Den aw au aV aI)
section
variable {X:Cx} {C:Bool} {τ:List Sl} {x y z:D} {a b e o ix:Expr} {es:List Expr} {pos p q:Pos} {k:Nat} {s:Sl} {N:Po} {rest:List Stmt} {i j:Nat} {t c:Nd} {pt:List Nat} {xs:List Nd} {m:Nat}
end
end Hy
namespace Hy
open PySem PySem.Spec PyProof.Rows L2
open Ev (D Den aw)
noncomputable def p6 (K:PySem.W.Frag) (x:Str) (st:Stmt) (f:Addr) (i:Int):Prop:=PySem.W.nsIn K mainGlobals x=some (some (.ref f))/\(∃ oc od kV dc pm an cd ct sl T td tl tc tt tn,K.lookup f=some ⟨oc,od,.func (PySem.W.fnOf x x (bI st) (a4 st) (ai st) (.ref T) kV dc pm an cd ct),sl⟩/\PySem.W.codeIn K cd x=true/\K.lookup T=some ⟨tc,td,.seq #[.int i tt] tn,tl⟩)/\PySem.W.keepIn K (.ref f)=true
section
variable {P:Program} {w:World} {K:PySem.W.Frag} {h:Heap} {mg:Str->Option Value} {base:Heap} {x:Str} {st:Stmt} {f:Addr} {ps:List Str} {k:Nat} {Φ:List D->Sl->Prop} {i:Int}
theorem p6.of {oc tc:Value} {od an td:Option Addr} {kV dc pm cd ct:Value} {sl tl:Array (Option Value)} {T:Addr} {tt:Tok} {tn:Nat} (a:PySem.W.nsIn K mainGlobals x=some (some (.ref f))) (l:K.lookup f=some ⟨oc,od,.func (PySem.W.fnOf x x (bI st) (a4 st) (ai st) (.ref T) kV dc pm an cd ct),sl⟩) (c:PySem.W.codeIn K cd x=true) (d:K.lookup T=some ⟨tc,td,.seq #[.int i tt] tn,tl⟩) (k:PySem.W.keepIn K (.ref f)=true):p6 K x st f i:=⟨a,⟨_,_,_,_,_,_,_,_,_,_,_,_,_,_,_,l,c,d⟩,k⟩
end
mutual
noncomputable def kg:Nd->Bool
 | .d x=>flat x
 | .l xs=>hG xs
 | .t xs=>hG xs
noncomputable def hG:List Nd->Bool
 | []=>true
 | x :: xs=>kg x && hG xs
end
noncomputable def tf:Sl->Bool
 | .un=>true
 | .d x=>flat x
 | .o xs=>xs.all flat
 | .n t=>kg t
 | .x _=>false
section
variable {K:PySem.W.Frag} {G G' H:Hp}
mutual
theorem a5.fl:∀ {u:V} {bs:List Addr} {t:Nd},a5 K G H u bs t->kg t=true->a5 K G' H u bs t
 | _,_,_,.d h,f=>.d (eV h (by rw [kg] at f; exact f))
 | _,_,_,.l h r,f=>.l h (aC.fl r (by rw [kg] at f; exact f))
 | _,_,_,.t h r,f=>.t h (aC.fl r (by rw [kg] at f; exact f))
theorem aC.fl:∀ {vs:List V} {bs:List Addr} {ts:List Nd},aC K G H vs bs ts->hG ts=true->aC K G' H vs bs ts
 | _,_,_,.nil,_=>.nil
 | _,_,_,.cons h r,f=>by
   rw [hG,Bool.and_eq_true] at f
   exact .cons (a5.fl h f.1) (aC.fl r f.2)
end
theorem jH:∀ {vs:List V} {xs:List D},aw K G vs xs->xs.all flat=true->aw K G' vs xs
 | _,_,.nil,_=>.nil
 | _,_,.cons h r,f=>by
   rw [List.all_cons,Bool.and_eq_true] at f
   exact .cons (eV h f.1) (jH r f.2)
theorem bB.fl {v:Option V} {bs:List Addr}:∀ {s:Sl},bB K G H v bs s->tf s=true->bB K G' H v bs s
 | .un,h,_=>h
 | .d _,⟨h,u,e1,h2⟩,f=>⟨h,u,e1,eV h2 f⟩
 | .o _,⟨a,vs,h1,h2,h3,h4⟩,f=>⟨a,vs,h1,h2,h3,jH h4 f⟩
 | .n _,⟨h0,u,h1,h2⟩,f=>⟨h0,u,h1,h2.fl f⟩
end
noncomputable def But (d:Addr) (H H':Hp):Prop:=∀ b o,b ≠ d->H b=some o->H' b=some o
theorem But.same {H H':Hp} {d:Addr} (e:ag H H'):But d H H':=λb o _ h=>e b o h
theorem But.hd {H H':Hp} {d:Addr} {M:Addr->Prop} (e:But d H H') (h:M d):ag (Hy.hd H M) (Hy.hd H' M):=λb o z=>by
 obtain ⟨z1,z2⟩:=ao.mp z
 exact ao.mpr ⟨z1,e b o (λy=>z1 (y ▸ h)) z2⟩
noncomputable def Hid (M:Addr->Prop) (H:Hp) (d:Addr):Prop:=M d/\∀ b,M b->∃ o,H b=some o
theorem Hid.but {M:Addr->Prop} {H H':Hp} {d:Addr} (h:Hid M H d) (e:But d H H') (hd:∃ o,H' d=some o):Hid M H' d:=⟨h.1,λb z=>by
 by_cases q:b=d
 · rw [q]; exact hd
 · obtain ⟨o,y⟩:=h.2 b z
   exact ⟨o,e b o q y⟩⟩
theorem Hid.same {M:Addr->Prop} {H H':Hp} {d:Addr} (h:Hid M H d) (e:ag H H'):Hid M H' d:=⟨h.1,λb z=>let ⟨o,y⟩:=h.2 b z; ⟨o,e b o y⟩⟩
noncomputable def pD (P:Program) (w:World) (K:PySem.W.Frag) (mg:Str->Option Value) (base:Heap) (k:Nat) (n:Str) (sp:Sp):Prop:=
 ∃ f fd ps,aO P w K mg base CX0 k f fd ps sp/\mg n=some (.ref f)/\PySem.W.keepIn K (.ref f)=true/\Binds K fd ps []
theorem pD.mono {P:Program} {w:World} {K:PySem.W.Frag} {mg:Str->Option Value} {base:Heap} {j k:Nat} {n:Str} {sp:Sp} (c:pD P w K mg base j n sp) (h:j<=k):pD P w K mg base k n sp:=
 let ⟨f,fd,ps,F,r⟩:=c; ⟨f,fd,ps,F.mono h,r⟩
section
variable {K:PySem.W.Frag} {A:Addr->Prop} {H₀ H H':Hp} {τ:List Sl} {B:Nat->List Addr} {σ:L2.St}
theorem Sta.hid (S:Sta K A H₀ τ B σ H) {i:Nat} {a:Addr} (hB:B i=[a]):Hid (own A B) H a:=⟨.inr ⟨i,by rw [hB]; exact List.mem_singleton.mpr rfl⟩,S.dm⟩
theorem Sta.but (S:Sta K A H₀ τ B σ H) {i:Nat} {a:Addr} {E E':Ex} {o':HO} (hi:τ[i]?=some (.x E)) (hB:B i=[a]) (e:But a H H') (ho:H' a=some o') (d:E'.p K (hd H' (own A B)) o' a):Sta K A H₀ (τ.set i (.x E')) B σ H':=by
 have sm:ag (hd H (own A B)) (hd H' (own A B)):=e.hd (S.hid hB).1
 have f0:H₀ a=none:=S.fr i a (by rw [hB]; exact List.mem_singleton.mpr rfl)
 have hs:ag H₀ H':=λb o z=>e b o (λq=>by rw [q,f0] at z; cases z) (S.same b o z)
 refine ⟨hs,by rw [List.length_set,S.len],λj t hj=>?_,S.fr,S.uq,S.ad,λj b hb=>((S.hid hB).but e ⟨_,ho⟩).2 b (.inr ⟨j,hb⟩)⟩
 by_cases ej:j=i
 · subst ej
   have hl:=(List.getElem?_eq_some_iff.mp hi).1
   rw [List.getElem?_set_self hl] at hj
   cases hj
   obtain ⟨a',o,e1,e2,_,_⟩:=S.sl j _ hi
   rw [hB] at e1
   cases e1
   exact ⟨a,o',hB,e2,ho,d⟩
 · rw [List.getElem?_set_ne (λz=>ej z.symm)] at hj
   have off:∀ b ∈ B j,b ≠ a:=λb hb e=>ej (S.uq j i a (e ▸ hb) (by rw [hB]; exact List.mem_singleton.mpr rfl))
   have ne:∀ b ∈ B j,H' b=H b:=λb hb=>by
     obtain ⟨o,q⟩:=S.bd j b hb
     rw [q]
     exact e b o (off b hb) q
   exact (S.sl j t hj).frame sm ne
end
section
variable {X:Cx} {τ:List Sl} {x y z:D} {a b e c:Expr} {es:List Expr} {pos p q:Pos} {k:Nat} {s:Sl} {ds:List D} {N:Po} {rest body:List Stmt}
end
section
variable {P:Program} {w:World} {K:PySem.W.Frag} {mg:Str->Option Value} {base:Heap}
end
section
variable {X:Cx} {τ:List Sl} {es:List Expr} {pos p q pr:Pos} {k:Nat} {s:Sl} {ds:List D} {N:Po} {rest:List Stmt}
end
end Hy
namespace Hy
open PySem PySem.Spec PyProof.Rows L2
open Ev (D Den aw aU aK au aV aI)
section
variable {X:Cx} {i:Int}
end
end Hy
namespace Su
open PySem PyProof.Rows HT
open PySem.SeqAt
open PySem.AutoSeq1 (wpAny_loadPart')
open PySem.MeetsSeq PySem.MeetsSeq2 PySem.MeetsSeq3
theorem ko (t:Bool) (x y:Value):keyLt' (tuples' t) x y=(do
   let xs <- Builtin.List.listItems x; let ys <- Builtin.List.listItems y
   for ((p,q),i) in (xs.toList.zip ys.toList).zipIdx do
     if !(<- eqBool p q) then return <- oneLt' (t && i == 0) p q
   return xs.size < ys.size):=rfl
section
variable {prog:Program} {w:World} {A:Around} {E:Value->Shared->Prop} {s:Shared}
theorem iR {b:Bool} {a c:Int} {t u:Tok} {Q:Bool->Shared->Prop} (h:Q (decide (a < c)) s):wpAny (model prog w) A (oneLt' b (.int a t) (.int c u)) Q E s:=by
 cases b with
 | true=>exact oneLt_int h
 | false=>
   rw [oneLt'_eq]
   simp only [Bool.false_eq_true,if_false]
   exact wpAny_bind (kC A s a t c u prog w E _ (wpAny_truthy_bool h))
theorem iP {l b:Addr} {items items2:Array Value} {n n2:Nat} {dd dd2:Option Addr} {sl sl2:Array (Option Value)} {ns ms:List Int} {t:Bool} {Q:Bool->Shared->Prop} (hl:s.heap.get? l=some { cls:=.type "tuple",dict:=dd,data:=.seq items n,slots:=sl }) (hb:s.heap.get? b=some { cls:=.type "tuple",dict:=dd2,data:=.seq items2 n2,slots:=sl2 })
   (hi:IntsAre items.toList ns) (hj:IntsAre items2.toList ms) (h:Q (lexLt ns ms) s):wpAny (model prog w) A (keyLt' (tuples' t) (.ref l) (.ref b)) Q E s:=by
 rw [ko]
 have z1:items.size=ns.length:=by rw [<- hi.length]; simp
 have z2:items2.size=ms.length:=by rw [<- hj.length]; simp
 refine wpAny_bind (listItems_at hl rfl ?_)
 refine wpAny_bind (listItems_at hb rfl ?_)
 refine wpAny_bind (wpAny_forIn_list _ (λrest (b:Option Bool × Unit) s'=>b.1=none/\s'=s/\∃ (vs ws:List Value) (ns' ms':List Int) (k:Nat),rest=(vs.zip ws).zipIdx k /\
     IntsAre vs ns'/\IntsAre ws ms'/\ns'.length + items2.size=ms'.length + items.size/\Q (lexLt ns' ms') s) _ ?turn ?fin _ _ ?init)
 case turn=>
   rintro ⟨⟨y,x⟩,i⟩ rest b s' ⟨hb',rfl,vs,ws,ns',ms',k,hz,hvi,hwi,hlen,hR⟩
   cases hvi with
   | nil=>rw [List.zip_nil_left] at hz; cases hz
   | cons a t hvi'=>
     cases hwi with
     | nil=>rw [List.zip_nil_right] at hz; cases hz
     | cons c u hwi'=>
       rw [List.zip_cons_cons,List.zipIdx_cons] at hz
       injection hz with hyx hrest
       injection hyx with hy hx
       injection hy with hy hy2
       subst hy hy2
       rw [ja] at hR
       simp only [List.length_cons] at hlen
       obtain ⟨e,he,hiff⟩:=lL A s' a t c u
       refine wpAny_bind (he prog w _ _ ?_)
       cases e with
       | true=>
         rw [if_pos (hiff.mp rfl)] at hR
         wp_walk
         exact ⟨rfl,rfl,_,_,_,_,_,hrest,hvi',hwi',by omega,hR⟩
       | false=>
         rw [if_neg (λq=>absurd (hiff.mpr q) Bool.false_ne_true)] at hR
         simp only [Bool.not_false,if_true]
         refine wpAny_bind (iR ?_)
         exact wpAny_pure (wpAny_pure hR)
 case fin=>
   rintro ⟨b1,b2⟩ s' ⟨hb',rfl,vs,ws,ns',ms',k,hz,hvi,hwi,hlen,hR⟩
   simp only at hb'
   subst hb'
   have hv:lexLt ns' ms'=decide (items.size < items2.size):=by
     cases hvi with
     | nil=>
       cases hwi with
       | nil=>
         simp only [List.length_nil] at hlen
         rw [fR]
         exact (decide_eq_false (by omega)).symm
       | cons c u hw=>
         simp only [List.length_nil,List.length_cons] at hlen
         rw [eZ]
         exact (decide_eq_true (by omega)).symm
     | cons a t hv=>
       cases hwi with
       | nil=>
         simp only [List.length_nil,List.length_cons] at hlen
         rw [eF]
         exact (decide_eq_false (by omega)).symm
       | cons c u hw=>
         rw [List.zip_cons_cons] at hz
         cases hz
   rw [hv] at hR
   exact wpAny_pure hR
 case init=>exact ⟨rfl,rfl,items.toList,items2.toList,ns,ms,0,rfl,hi,hj,by omega,h⟩
noncomputable def j4 (h:Heap) (l:Addr) (ns:List Int):Prop:=∃ items n dd sl,h.get? l=some { cls:=.type "tuple",dict:=dd,data:=.seq items n,slots:=sl }/\IntsAre items.toList ns/\ns ≠ []
theorem j4.keep {h h':Heap} {l:Addr} {ns:List Int} (k:∀ o,h.get? l=some o->h'.get? l=some o):j4 h l ns->j4 h' l ns:=λ⟨items,n,dd,sl,ho,r⟩=>⟨items,n,dd,sl,k _ ho,r⟩
theorem j4.lt {l b:Addr} {ns ms:List Int} (hl:j4 s.heap l ns) (hb:j4 s.heap b ms) (E:Value->Shared->Prop) (Q:Bool->Shared->Prop) (h:Q (lexLt ns ms) s):wpAny (model prog w) A (keyLt' (tuples' true) (.ref l) (.ref b)) Q E s:=by
 obtain ⟨items,n,dd,sl,ho,hi,_⟩:=hl
 obtain ⟨items2,n2,dd2,sl2,ho2,hi2,_⟩:=hb
 exact iP ho ho2 hi hi2 h
end
end Su
namespace Hy
open PySem PySem.Spec PyProof.Rows L2
open Ev (D Den aw aU aK au aV aI)
section
variable {X:Cx} {C:Bool} {τ:List Sl} {x y z:D} {a b e:Expr} {es:List Expr} {pos p:Pos} {k:Nat} {s:Sl} {ds xs ys:List D} {i j:Int} {N:Po} {rest:List Stmt}
theorem qu:gW X (.type "tuple") [.lst xs] (.d (.tup xs)):=⟨_,fQ,λM vs H Q hM d q=>by
 cases d with
 | cons d r=>
   cases r
   cases d with
   | @lst a us _ h r=>
     refine ⟨_,_,rfl,.inl ⟨aI aM h,λp hp=>?_⟩⟩
     have e:=au hp (.tup us)
     exact q _ _ [] e cg (ek (.tup (SqT.of (i4 hM hp)) (r.mono (ay e λ_ z=>z))))⟩
end
section
variable {X:Cx} {C:Bool} {τ:List Sl} {x y z:D} {a b e:Expr} {es:List Expr} {pos p:Pos} {k:Nat} {s:Sl} {ds xs ys:List D} {N:Po} {rest:List Stmt}
end
end Hy
namespace Hy
open PySem PySem.Spec PyProof.Rows L2
open Ev (D Den aw au aV aI)
section
variable {X:Cx}
theorem kQ {α:Type}:∀ (its:List α) (k:Nat) (y:α),k<=its.length->its.insertIdx k y=its.take k++[y]++its.drop k
 | _,0,_,_=>rfl
 | a :: r,k + 1,y,h=>by
   rw [List.insertIdx_succ_cons,kQ r k y (by simpa using h)]
   rfl
theorem pR {its:List Value} {k:Nat} {y:Value} (h:k<=its.length):(its.toArray.extract 0 k).push y++its.toArray.extract k=(its.insertIdx k y).toArray:=by
 apply Array.toList_inj.mp
 simp only [Array.toList_append,Array.toList_push,Array.toList_extract,List.extract_eq_drop_take,List.drop_zero,Nat.sub_zero,List.size_toArray]
 rw [kQ its k y h]
 congr 1
 exact List.take_of_length_le (by rw [List.length_drop]; exact Nat.le_refl _)
noncomputable def mG:V->List V->Hp->VK->Prop:=λx vs H Q=>∃ l xs,∃ i:Int,∃ y,x=.ref l/\vs=[.int i,y]/\H l=some (.lst xs)/\0<=i/\i.toNat<=xs.length/\xs.length < sizeLine/\Q .non (upd H l (.lst (xs.insertIdx i.toNat y)))
theorem j7:MtM X "list.insert" mG:=by
 intro pins s σ H x vs v us Q I rx rv h
 obtain ⟨l,xs,i,y,rfl,rfl,hH,h0,h1,h2,q⟩:=h
 cases rx
 obtain ⟨u,w,rfl,ru,rw'⟩:=rv.two
 obtain ⟨t,rfl⟩:=ru
 obtain ⟨z,its,n,r,hl,e⟩:=I.rG hH
 have hi:i < 2 ^ 63:=by have:=Int.toNat_of_nonneg h0; have:sizeLine < 2 ^ 62:=(by decide); omega
 have hf:Builtin.List.listFitsIndex i=true:=by
   unfold Builtin.List.listFitsIndex
   rw [Bool.and_eq_true]
   exact ⟨decide_eq_true (by omega),decide_eq_true hi⟩
 refine call_meets PySem.F.slot_list_insert ⟨_,e,rfl⟩ PySem.F.entry_list_insert (PySem.F.args_list_insert_3 _ _ _) (PySem.AutoSeq1.list_insert_list_int_val_1 l its.toArray n i t w (by simp [hf]) (by rw [List.size_toArray]; omega)) ⟨e,?_⟩
 have vi:∀ {xs:List V} {us:List Value} (k:Nat) {a:V} {b:Value},Vals xs us->RelV a b->Vals (xs.insertIdx k a) (us.insertIdx k b):=λ{xs us} k {a b} r ra=>by
   induction k generalizing xs us with
   | zero=>exact .cons ra r
   | succ k ih=>cases r with
     | nil=>exact .nil
     | cons r1 r2=>exact .cons r1 (ih r2)
 refine ⟨.non,_,I.rP (its':=its.insertIdx i.toNat w) hH e ?_ (vi _ r rw') ?_,rfl,q⟩
 · show (its.toArray.extract 0 (if i < 0 then (i + (its.toArray.size:Int)).toNat else min i.toNat its.toArray.size)).push w++its.toArray.extract (if i < 0 then (i + (its.toArray.size:Int)).toNat else min i.toNat its.toArray.size)=_
   rw [if_neg (by omega),List.size_toArray,Nat.min_eq_left (by omega)]
   exact pR (by omega)
 · rw [List.length_insertIdx_of_le_length h1]; omega
end
theorem aC.ins {K:PySem.W.Frag} {G H:Hp} {v:V} {x:D} (h:Den K G v x):∀ {vs:List V} {bs:List Addr} {xs:List Nd} (k:Nat),k<=xs.length->aC K G H vs bs xs->aC K G H (vs.insertIdx k v) bs (xs.insertIdx k (.d x))
 | _,_,_,0,_,r=>aC.cons (b1:=[]) (.d h) r
 | _,_,_,k + 1,hk,.nil=>absurd hk (Nat.not_succ_le_zero _)
 | _,_,_,k + 1,hk,.cons h1 r=>by
   rw [List.insertIdx_succ_cons,List.insertIdx_succ_cons]
   exact .cons h1 (aC.ins h k (by simpa using hk) r)
section
variable {X:Cx} {C:Bool} {τ:List Sl} {x y z:D} {a b e f o ix:Expr} {es:List Expr} {pos p q:Pos} {k:Nat} {s:Sl} {N:Po} {rest:List Stmt} {i:Nat} {t c:Nd} {pt:List Nat} {xs:List Nd} {j:Int} {m:Nat}
theorem o8 {ap cp:Pos} (ho:PE X o (dP X.K τ i pt)) (hj:PE X e (dE X.K false τ (.d (.int (m:Nat))))) (he:PE X f (dE X.K true τ (.d x))) (hi:τ[i]?=some (.n t)) (hp:fV pt t=some (.l xs)) (hm:m<=xs.length) (hl:xs.length < 1000000) (hr:PSs X rest (dS X.K (τ.set i (.n (dj pt t (.l (xs.insertIdx m (.d x)))))) N))
   (hfew:((backTo cp (starEach [e,f] X.env)).all (λx=>!x.1) && (backToKw cp (keywordEach [] X.env)).all (λx=>x.1.isSome) && decide (([e,f]:List Expr).length + ([]:List Keyword).length + (if ([]:List Keyword).isEmpty then 0 else 1) < 30))=true:=by rfl)
   (hline:(ap.endLine == cp.line)=true:=by rfl) (hst:starEach [e,f] X.env=(false,eval e X.env) :: starEach [f] X.env:=by rfl) (hst2:starEach [f] X.env=(false,eval f X.env) :: starEach [] X.env:=by rfl) (hpl:(backTo cp (starEach [f] X.env)).any (·.1)=false:=by rfl)
   (hs:swapsWith (.Call (.Attribute o "insert" ap) [e,f] [] cp) none pos.line X.env=pure false:=by rfl) (hbase:attributeBase o "insert" X.env (eval o X.env)=eval o X.env:=by rfl) :
   PSs X (.Expr (.Call (.Attribute o "insert" ap) [e,f] [] cp) pos :: rest) (dS X.K τ N):=
 bg (M:=(·=τ.set i (.n (dj pt t (.l (xs.insertIdx m (.d x))))))) (psW (gQ (nR PySem.F.plainAttrs_list PySem.F.slot_list_insert PySem.F.type_list_insert j7 ho (bf hj (bf he cI hst2) hst) hbase hfew hline hst hpl) hs) λD σ H ⟨A,H₀,B,S,Me⟩=>by
   refine ⟨A,H₀,B,S,λu v H1 eu e1 pv=>?_⟩
   have S1:=S.mono e1
   obtain ⟨u',l,vs,bs0,eu',pv',hH,r0,nd0,hal,hown,put⟩:=S1.putN hi hp
   rw [eu] at eu'
   cases eu'
   obtain rfl:=pv.det pv'
   refine ⟨.inl ⟨rfl,_,SqL.of hH⟩,aR S1 λw1 H2 e2 d1=>aR (S1.mono e2) λw H3 e3 dw=>?_⟩
   cases d1
   have e3':=e2.trans e3
   refine ⟨l,vs,_,w,rfl,rfl,e3' _ _ hH,Int.natCast_nonneg _,by rw [Int.toNat_natCast,r0.length]; exact hm,by rw [r0.length]; exact Nat.lt_trans hl (by decide),?_⟩
   rw [Int.toNat_natCast]
   have sm:∀ {H':Hp},ag H' H3->ag (hd H' (own A B)) (hd (upd H3 l (.lst (vs.insertIdx m w))) λb=>own A B b\/b ∈ bs0):=λe b o z=>by
     obtain ⟨z1,z2⟩:=ao.mp z
     refine ao.mpr ⟨λy=>z1 (y.elim id λy=>(hown b y).1),by rw [aq (λy:b=l=>z1 (by rw [y]; exact hal))]; exact e _ _ z2⟩
   obtain ⟨B',S'⟩:=put (H1:=H3) (vs':=vs.insertIdx m w) (bs1:=bs0) (xs':=xs.insertIdx m (.d x)) e3' nd0 (λb hb=>.inl hb)
     (aC.ins (dw.mono (sm (ag.refl _))) m hm (r0.frame (sm e3') λb hb=>by
       obtain ⟨o,q⟩:=r0.some_of b hb
       rw [aq (hown b hb).2,e3' _ _ q,q]))
   exact Me.nx _ B' _ _ rfl S') λ_ e=>e ▸ hr
end
end Hy
namespace Hy
open PySem PySem.Spec PyProof.Rows L2
open Ev (D Den aw)
theorem qc {es:List Expr} {m:Nat} {p:Pos} {r:List Expr} {env:Env}:starEach (.Tuple es m p :: r) env=(false,eval (.Tuple es m p) env) :: starEach r env:=rfl
theorem qd {es:List Expr} {p:Pos} {r:List Expr} {env:Env}:starEach (.List es p :: r) env=(false,eval (.List es p) env) :: starEach r env:=rfl
theorem gM {c:Const} {m:Nat} {p:Pos} {r:List Expr} {env:Env}:starEach (.Constant c m p :: r) env=(false,eval (.Constant c m p) env) :: starEach r env:=rfl
theorem oW {a b:Expr} {o:Operator} {p:Pos} {r:List Expr} {env:Env}:starEach (.BinOp a o b p :: r) env=(false,eval (.BinOp a o b p) env) :: starEach r env:=rfl
theorem pj {a:Expr} {o:UnaryOp} {p:Pos} {r:List Expr} {env:Env}:starEach (.UnaryOp o a p :: r) env=(false,eval (.UnaryOp o a p) env) :: starEach r env:=rfl
theorem pB {a:Str} {p:Pos} {r:List Expr} {env:Env}:starEach (.Name a p :: r) env=(false,eval (.Name a p) env) :: starEach r env:=rfl
theorem lO {es:List Expr} {p:Pos} {t:Option Expr} {l:Nat} {env:Env}:swapsWith (.List es p) t l env=pure false:=rfl
theorem bx {a b:Expr} {o:Operator} {p:Pos} {t:Option Expr} {l:Nat} {env:Env}:swapsWith (.BinOp a o b p) t l env=pure false:=rfl
section
variable {X:Cx} {C:Bool} {τ:List Sl} {x:D} {ds:List D} {es r:List Expr} {a b:Expr} {m:Nat} {p pos:Pos}
structure QE (X:Cx) (e:Expr) (t:TE):Prop where
 out:PE X e t
structure QA (X:Cx) (es:List Expr) (t:TA):Prop where
 out:PA X es t
variable {xs:List D}
theorem aj:QA X [] (dA X.K C τ []):=⟨ah⟩
theorem aB (h:QA X es (dA X.K C τ ds)) (hr:QA X r (dA X.K C τ xs)) (hl:Nat.ble ds.length 1000=true:=by rfl):QA X (.Tuple es m pos :: r) (dA X.K C τ (.tup ds :: xs)):=⟨aa (cG h.out hl) hr.out qc⟩
theorem ea (h:QA X es (dA X.K C τ ds)) (hr:QA X r (dA X.K C τ xs)) (hl:Nat.ble ds.length 1000=true:=by rfl):QA X (.List es pos :: r) (dA X.K C τ (.lst ds :: xs)):=⟨aa (br (a6 h.out hl)) hr.out qd⟩
theorem ar {n:Int} (hr:QA X r (dA X.K C τ xs)):QA X (.Constant (.int n) m pos :: r) (dA X.K C τ (.int n :: xs)):=⟨aa af hr.out gM⟩
theorem aZ {n:Str} (hr:QA X r (dA X.K C τ xs)):QA X (.Constant (.str n) m pos :: r) (dA X.K C τ (.str n :: xs)):=⟨aa aN hr.out gM⟩
theorem jE (hr:QA X r (dA X.K C τ xs)):QA X (.Constant .none m pos :: r) (dA X.K C τ (.non :: xs)):=⟨aa rS hr.out gM⟩
theorem qp {n:Bool} (hr:QA X r (dA X.K C τ xs)):QA X (.Constant (.bool n) m pos :: r) (dA X.K C τ (.bl n :: xs)):=⟨aa cx hr.out gM⟩
theorem iH {o:Operator} (h:PE X (.BinOp a o b p) (dE X.K C τ (.d x))) (hr:QA X r (dA X.K C τ xs)):QA X (.BinOp a o b p :: r) (dA X.K C τ (x :: xs)):=⟨aa h hr.out oW⟩
theorem lC {o:UnaryOp} (h:PE X (.UnaryOp o a p) (dE X.K C τ (.d x))) (hr:QA X r (dA X.K C τ xs)):QA X (.UnaryOp o a p :: r) (dA X.K C τ (x :: xs)):=⟨aa h hr.out pj⟩
theorem aQ {n:Str} (h:PE X (.Name n p) (dE X.K C τ (.d x))) (hr:QA X r (dA X.K C τ xs)):QA X (.Name n p :: r) (dA X.K C τ (x :: xs)):=⟨aa h hr.out pB⟩
theorem rp (h:PE X a (dE X.K C τ (.d x))) (hr:QA X r (dA X.K C τ xs)) (hs:starEach (a :: r) X.env=(false,eval a X.env) :: starEach r X.env:=by rfl):QA X (a :: r) (dA X.K C τ (x :: xs)):=⟨aa h hr.out hs⟩
theorem bN (h:QA X es (dA X.K C τ ds)) (hl:Nat.ble ds.length 1000=true:=by rfl):QE X (.List es pos) (dE X.K C τ (.o ds)):=⟨a6 h.out hl⟩
theorem si (h:QA X es (dA X.K C τ ds)) (hl:Nat.ble ds.length 1000=true:=by rfl):QE X (.Tuple es m pos) (dE X.K C τ (.d (.tup ds))):=⟨cG h.out hl⟩
theorem bV {ys:List D} (ha:PE X a (dE X.K C τ (.d (.lst xs)))) (hb:QE X b (dE X.K C τ (.o ys))) (hl:xs.length + ys.length < 1000000):QE X (.BinOp a .Add b pos) (dE X.K C τ (.o (xs++ys))):=⟨fo ha (br hb.out) hl⟩
theorem tu {e:Expr} {t:TE} (h:PE X e t):QE X e t:=⟨h⟩
structure PQ (X:Cx) (body:List Stmt) (t:TS):Prop where
 out:PSs X body t
variable {s:Sl} {N:Po} {rest:List Stmt} {e:Expr} {y:D}
theorem bE (i:Nat) {n:Str} {p:Pos} (hN:X.N.Nodup) (he:QE X e (dE X.K true τ s)) (hr:PQ X rest (dS X.K (τ.set i s) N)) (hi:X.N[i]?=some n:=by rfl) (hx:Loc X.env.scope n:=by first | exact .inl rfl | exact .inr rfl) (hs:swapsWith e (some (.Name n p)) pos.line X.env=pure false:=by rfl)
   (hf:X.fn n=true\/X.env.scope.names.lookup n=some .local:=by first | exact .inl rfl | exact .inr rfl | assumption):PQ X (.Assign [.Name n p] e pos :: rest) (dS X.K τ N):=⟨aE i hN he.out hr.out hi hx hs hf⟩
theorem cV (i:Nat) {s:Sl} {x:D} (h:PQ X rest (dS X.K (τ.set i (.d x)) N)) (hi:τ[i]?=some s:=by rfl) (hx:fzD s=some x:=by rfl):PQ X rest (dS X.K τ N):=⟨eO i h.out hi hx⟩
theorem oo (he:PE X e (dE X.K false τ s)) (h:N.rt s):PQ X (.Return (some e) pos :: rest) (dS X.K τ N):=⟨aH he h⟩
theorem oM {m:Nat} {τ':List Sl} (he:PE X e (dE X.K true τ (.d x))) (hg:PG X (.Tuple es m p) (dG X.K τ x τ')) (hr:PQ X rest (dS X.K τ' N)) (hs:swapsWithSole [.Tuple es m p] e pos.line X.env=pure false:=by rfl) (hw:swappedStores [.Tuple es m p] e X.env=pure none:=by rfl)
   (h1:(assignEach [.Tuple es m p] X.env).map (·.2)=[assign (.Tuple es m p) X.env]:=by rfl):PQ X (.Assign [.Tuple es m p] e pos :: rest) (dS X.K τ N):=⟨oz he hg hr.out hs hw h1⟩
theorem qV (i:Nat) {n:Str} {xs:List D} {ap cp:Pos} (he:QE X e (dE X.K true τ (.d x))) (hl:xs.length < 1000000) (hr:PQ X rest (dS X.K (τ.set i (.o (xs++[x]))) N)) (hi:τ[i]?=some (.o xs):=by rfl) (hN:X.N[i]?=some n:=by rfl)
   (hv:Vis X.env.scope n:=by first | exact Or.inl rfl | exact Or.inr (Or.inl rfl) | exact Or.inr (Or.inr rfl)) (hd:(n == ("__debug__" : Str))=false:=by decide) (hcd:(n == ("__classdict__" : Str))=false:=by decide)
   (hfew:((backTo cp (starEach [e] X.env)).all (λx=>!x.1) && (backToKw cp (keywordEach [] X.env)).all (λx=>x.1.isSome) && decide (([e]:List Expr).length + ([]:List Keyword).length + (if ([]:List Keyword).isEmpty then 0 else 1) < 30))=true:=by rfl)
   (hline:(ap.endLine == cp.line)=true:=by rfl) (hst:starEach [e] X.env=(false,eval e X.env) :: starEach [] X.env:=by rfl) (hpl:(backTo cp (starEach [] X.env)).any (·.1)=false:=by rfl)
   (hs:swapsWith (.Call (.Attribute (.Name n p) "append" ap) [e] [] cp) none pos.line X.env=pure false:=by rfl) (hbase:attributeBase (.Name n p) "append" X.env (eval (.Name n p) X.env)=eval (.Name n p) X.env:=by rfl) :
   PQ X (.Expr (.Call (.Attribute (.Name n p) "append" ap) [e] [] cp) pos :: rest) (dS X.K τ N):=⟨ir i he.out hl hr.out hi hN hv hd hcd hfew hline hst hpl hs hbase⟩
end
section
variable {P:Program} {w:World} {K:PySem.W.Frag} {mg:Str->Option Value} {base:Heap}
theorem fnQ {x qual:Str} {st:Stmt} {f:Addr} {fd:FuncData} {N ps:List Str} {k:Nat} {Φ:List D->Sl->Prop} (F:Fun K x qual st f fd) (S:ax N ps (ai st)) (hb:∀ x ∈ ak,mg x=none) (len:∀ ds r,Φ ds r->ds.length=ps.length)
   (body:∀ ds r,Φ ds r->∀ cdv A outer s H E,Bk (Xc P w K mg base N qual st f cdv A outer s H E) k->PQ (Xc P w K mg base N qual st f cdv A outer s H E) (a4 st) (dS K (iw N ds) { nx:=λ_=>r=.d .non,rt:=λr'=>r'=r })) :
   aO P w K mg base CX0 (k + 1) f fd ps (spD K Φ):=fnD F S hb len λds r h cdv A outer s H E b=>(body ds r h cdv A outer s H E b).out
end
end Hy
namespace Hy
open PySem PySem.Spec PyProof.Rows L2
open Ev (D Den aw au)
noncomputable def pz:List Str:=["NoFraction","NoTable","NoChoice","NoSquare","NoFit","NoUndoing","NoLadder","TooMany","NoPaper","NoRow","NoStairs","NoNumber","NoCorner","NoName","NoStep","NoWeight","NoDeed","NoText","NoWord"]
noncomputable def wordOf (c:Nat):Str:=pz.getD c "else"
noncomputable def spX (K:PySem.W.Frag) (cl:Nat->Addr) (Φ:List D->Nat->Prop):Sp:=λvs H _ E=>∃ A ds c,(∀ b,A b->∃ o,H b=some o)/\aw K (hd H A) vs ds/\Φ ds c/\∀ H',ag H H'->E (.ref (cl c)) none H'
noncomputable def bU (P:Program) (w:World) (K:PySem.W.Frag) (mg:Str->Option Value) (base:Heap) (cl:Nat->Addr) (k:Nat) (n:Str) (Φ:List D->Nat->Prop):Prop:=
 ∃ f fd ps,aO P w K mg base (Hx.CXe P w cl) k f fd ps (spX K cl Φ)/\mg n=some (.ref f)/\PySem.W.keepIn K (.ref f)=true/\Binds K fd ps []
theorem bU.mono {P:Program} {w:World} {K:PySem.W.Frag} {mg:Str->Option Value} {base:Heap} {cl:Nat->Addr} {j k:Nat} {n:Str} {Φ:List D->Nat->Prop} (c:bU P w K mg base cl j n Φ) (h:j<=k):bU P w K mg base cl k n Φ:=
 let ⟨f,fd,ps,F,r⟩:=c; ⟨f,fd,ps,F.mono h,r⟩
noncomputable def dX (K:PySem.W.Frag) (τ:List Sl) (Ex:Hp->Prop):TE:=λσ H _=>∃ A H₀ B,Sta K A H₀ τ B σ H/\∀ H',ag H₀ H'->Ex H'
noncomputable def PsX (X:Cx) (cl:Nat->Addr) (Ex:Nat->Hp->Prop):Prop:=Passes (Hx.CXe X.prog X.w cl) X (λC _ H'=>∃ c,C=.ref (cl c)/\Ex c H')
section
variable {X:Cx} {C:Bool} {τ:List Sl} {x y z:D} {a b e:Expr} {es:List Expr} {pos p np cpos:Pos} {k c:Nat} {s:Sl} {ds:List D} {N:Po} {rest body:List Stmt} {cl:Nat->Addr} {Ex:Nat->Hp->Prop} {Et:Hp->Prop}
theorem bH {n:Str} {Φ:List D->Nat->Prop} (hr:b5 k X.A) (po:PsX X cl Ex) (c0:bU X.prog X.w X.K X.mg X.base cl k n Φ) (ha:PA X (e :: es) (dA X.K C τ ds)) (h:Φ ds c) (hg:Gl X n:=by rfl) (hdb:(n == ("__debug__" : Str))=false:=by decide)
   (he:starEach (e :: es) X.env=(false,eval e X.env) :: starEach es X.env:=by rfl) (hpl:(backTo pos (starEach es X.env)).any (·.1)=false:=by rfl):PE X (.Call (.Name n p) (e :: es) [] pos) (dX X.K τ (Ex c)):=by
 obtain ⟨f,fd,ps,F,hm,hk,hb⟩:=c0
 refine peW (jn F hr hg hm hk hb .nil po ha hdb he hpl) λσ H Q ⟨A,H₀,B,S,q⟩=>cU S λvs H1 e1 d1=>?_
 rw [List.append_nil]
 exact ⟨vw C A B,ds,c,(S.mono e1).vd,d1,h,λH' e2=>⟨c,rfl,q H' ((S.same.trans e1).trans e2)⟩⟩
theorem sT (he:PE X e (dX X.K τ N.xc)):PSs X (.Return (some e) pos :: rest) (dS X.K τ N):=
 bg (M:=λ_=>False) (psW (gy he) λD σ H ⟨A,H₀,B,S,Me⟩=>⟨A,H₀,B,S,Me.xc⟩) λ_ e=>e.elim
theorem bF (he:PE X e (dX X.K τ N.xc)) (hs:swapsWith e none pos.line X.env=pure false:=by rfl):PSs X (.Expr e pos :: rest) (dS X.K τ N):=
 bg (M:=λ_=>False) (psW (gQ he hs) λD σ H ⟨A,H₀,B,S,Me⟩=>⟨A,H₀,B,S,Me.xc⟩) λ_ e=>e.elim
noncomputable def Lv (X:Cx) (cl:Nat->Addr) (c:Nat) (Et:Hp->Prop):Prop:=∀ (pins:List (Addr × Obj)) (σ:L2.St) (H:Hp) (s:Shared),Inv X pins σ H s->Et H->∀ (h':Heap) (a:Addr) (us:List Value),Heap.MadeExcOf s.heap h' a (.ref (cl c)) us->X.xe (.ref a) { s with heap:=h' }
theorem nG {n:Str} {S:Addr} (hl:Lv X cl c N.xc) (hm:X.mg n=some (.ref (cl c))) (O:Hx.nJ X.K (cl c) S) (ha:PA X (e :: es) (dA X.K false τ ds)) (hds:ds.length<=sizeLine:=by decide) (hc:X.calm=true:=by rfl) (hg:Gl X n:=by rfl) (hdb:(n == ("__debug__" : Str))=false:=by decide)
   (he:starEach (e :: es) X.env=(false,eval e X.env) :: starEach es X.env:=by rfl) (hpl:(backTo cpos (starEach es X.env)).any (·.1)=false:=by rfl):PSs X (.Raise (some (.Call (.Name n np) (e :: es) [] cpos)) none pos :: rest) (dS X.K τ N):=
 bg (M:=λ_=>False) (psW (Hx.lN hc hg hm O ha hdb he hpl) λD σ H ⟨A,H₀,B,S,Me⟩=>cU S λvs H1 e1 d1=>⟨by rw [d1.length]; exact hds,λpins s us I h' a m=>hl pins σ H1 s I (Me.xc H1 (S.same.trans e1)) h' a us m⟩) λ_ e=>e.elim
end
section
variable {P:Program} {w:World} {K:PySem.W.Frag} {mg:Str->Option Value} {base:Heap} {cl:Nat->Addr}
theorem sH {N ps:List Str} {A:Addr->Prop} {H:Hp} {vs:List V} {ds:List D} (ha:∀ b,A b->∃ o,H b=some o) (d:aw K (hd H A) vs ds):Sta K A H (iw N ds) (λ_=>[]) (L2.start N vs) H:=by
 refine ⟨ag.refl _,?_,λi s hi=>?_,λ_ _ z=>(nomatch z),λ_ _ _ z=>(nomatch z),ha,λ_ _ z=>(nomatch z)⟩
 · unfold L2.start iw
   simp [d.length]
 · have hl:=d.length
   unfold iw at hi
   unfold L2.start
   by_cases hlt:i < ds.length
   · rw [List.getElem?_append_left (by simpa using hlt),List.getElem?_map,List.getElem?_eq_getElem hlt] at hi
     cases hi
     obtain ⟨v,e,dv⟩:=d.get (List.getElem?_eq_getElem hlt)
     refine ⟨rfl,v,?_,dv.mono (ay (ag.refl _) λ_ z=>z.elim id λ⟨_,z⟩=>(nomatch z))⟩
     rw [List.getElem?_append_left (by simpa [hl] using hlt),List.getElem?_map,e]
     rfl
   · rw [List.getElem?_append_right (by simpa using hlt),List.getElem?_replicate] at hi
     split at hi
     · cases hi; rfl
     · cases hi
noncomputable abbrev Xe (P:Program) (w:World) (K:PySem.W.Frag) (mg:Str->Option Value) (base:Heap) (N:List Str) (qual:Str) (st:Stmt) (f:Addr) (cdv:Value) (A:Around) (outer:List Env) (s:Shared) (H:Hp) (E:XK) (cl:Nat->Addr):Cx:=fE (Hx.CXe P w cl) P w K mg base N qual (ai st) f cdv A outer s H E
theorem fnX {x qual:Str} {st:Stmt} {f:Addr} {fd:FuncData} {N ps:List Str} {k:Nat} {Φ:List D->Nat->Prop} (F:Fun K x qual st f fd) (S:ax N ps (ai st)) (hb:∀ x ∈ ak,mg x=none) (len:∀ ds c,Φ ds c->ds.length=ps.length)
   (body:∀ ds c,Φ ds c->∀ cdv A outer s H E,b5 k (Xe P w K mg base N qual st f cdv A outer s H E cl).A->Bk (Xe P w K mg base N qual st f cdv A outer s H E cl).nox k->PsX (Xe P w K mg base N qual st f cdv A outer s H E cl) cl (λc H'=>E (.ref (cl c)) none H')->(∀ c',Lv (Xe P w K mg base N qual st f cdv A outer s H E cl) cl c' (λH'=>E (.ref (cl c')) none H')) ->
     PSs (Xe P w K mg base N qual st f cdv A outer s H E cl) (a4 st) (dS K (iw N ds) { nx:=λ_=>False,rt:=λ_=>False,xc:=λH'=>E (.ref (cl c)) none H' })) :
   aO P w K mg base (Hx.CXe P w cl) (k + 1) f fd ps (spX K cl Φ):=by
 obtain ⟨oc,od,dV,kV,doc,pm,an,cdv,ct,osl,rfl,lk,hcd⟩:=F.ex
 refine nW lk hcd S (λvs H Q E ⟨A,ds,c,_,d,h,_⟩=>d.length.trans (len ds c h)) λA outer s H vs Q E hr ⟨A',ds,c,ha,d,h,q⟩=>⟨_,body ds c h cdv A outer s H E hr ⟨hr,rfl,hb,PassesOwn.never⟩ (Hx.j5 λ_ _ z=>z) (λc' pins σ H s I q h' a us m=>Hx.iu I q m),A',H,λ_=>[],sH (ps:=ps) ha d,λ_ _ _ _ h=>h.elim,λ_ _ _ _ h=>h.elim,λ_ _ _ _ h=>h.elim,λ_ _ _ _ h=>h.elim,q⟩
end
structure nM (k:Nat) (A:Around):Prop where
 dp:A.depth + 3 * k + 5 < recursionLimit
 un:A.units + 16 * k + 200 < cLine
noncomputable def cc (P:Program) (w:World) (K:PySem.W.Frag) (mg:Str->Option Value) (base:Heap) (cl:Nat->Addr) (k:Nat) (fw:Addr) (c:Nat):Prop:=
 ∀ (A:Around) (outer:List PySem.Env) (s:Shared) (H:Hp) (a:Addr) (o:Obj) (Q:VK),A.handled=some (.ref a)->H a=some (Hx.kh o)->Hx.kJ o (cl c)->nM k A->mi P w K mg base A outer s H ->
   (∀ H',ag H H'->Q (.str (wordOf c)) H')->codeAny (model P w) A (.call (.ref fw) ⟨[.ref a],[]⟩) (CR CX0 outer P w H s Q E0) s
theorem cc.mono {P:Program} {w:World} {K:PySem.W.Frag} {mg:Str->Option Value} {base:Heap} {cl:Nat->Addr} {j k:Nat} {f:Addr} {c:Nat} (h:cc P w K mg base cl j f c) (q:j<=k):cc P w K mg base cl k f c:=λA outer s H a o Q h1 h2 h3 hr=>h A outer s H a o Q h1 h2 h3 ⟨by have:=hr.dp; omega,by have:=hr.un; omega⟩
section
variable {X:Cx} {C:Bool} {τ:List Sl} {e:Expr} {k c i:Nat} {N:Po} {rest body:List Stmt} {cl:Nat->Addr} {n:Str} {fw S:Addr} {p p' q psm pr ph pos:Pos}
noncomputable def trW (cl:Nat->Addr) (c i:Nat) (a:Addr) (o:Obj):TE:=λσ H Q=>H a=some (Hx.kh o)/\Hx.kJ o (cl c)/\σ[i]?=some (some (.ref a))/\∀ H',ag H H'->Q (.str (wordOf c)) H'
theorem mQ {a:Addr} {o:Obj} (hg:Gl X "_law_word") (hm:X.mg "_law_word" = some (.ref fw)) (hk:PySem.W.keepIn X.K (.ref fw)=true) (hW:cc X.prog X.w X.K X.mg X.base cl k fw c) (hr:nM k X.A)
   (hi:X.N[i]?=some n) (hn:X.env.scope.names.lookup n=some .local) (h1:(n == ("__debug__" : Str))=false) (h2:(n == ("__classdict__" : Str))=false) :
   PE (Hx.XH X a) (.Call (.Name "_law_word" p) [.Name n p'] [] q) (trW cl c i a o):=by
 intro pins s σ H Q I ⟨e1,e2,e3,z⟩
 refine wpAny_Call_Name_kw (dz I hg hm ?_ (by decide))
 refine PySem.W.callWith_K (h₀:=X.base) I.ok.mod.kin hk (thn (bf (b9 (X:=Hx.XH X a) hi (.inl hn) h1 h2) cI rfl q pins s σ H (λvs H1=>vs=[.ref a]/\H1=H) I ⟨_,e3,rfl,rfl⟩) λus s1 ⟨vs,H1,I1,r1,e4,e5⟩=>⟨I1.kIn,?_⟩) rfl rfl
 subst e4
 subst e5
 cases r1 with
 | cons ra rr=>
   cases rr
   cases ra
   refine wpAny_call (codeAny_mono (hW (X.A.mark (some (.ref a))) X.stack s1 _ a o Q rfl e1 e2 ⟨hr.dp,hr.un⟩ I1.sq z) λres s' hq=>?_)
   cases res with
   | error e=>exact hq.elim
   | ok fl=>
     cases fl with
     | ret u=>exact I1.after hq
     | next=>exact False.elim hq
     | brk=>exact False.elim hq
     | cont=>exact False.elim hq
theorem pg (B:Bk X k) (nd:X.N.Nodup) (hb:∀ (pins:List (Addr × Obj)) (E:Value->Shared->Prop) (Ex:Nat->Hp->Prop),PsX (Hx.XP X pins E) cl Ex->PSs (Hx.XP X pins E) body (dS X.K τ { nx:=λ_=>False,rt:=λ_=>False,xc:=Ex c })) (h:N.rt (.d (.str (wordOf c))))
   (hmS:X.mg "SmoothError" = some (.ref S)) (hx:PySem.W.exmOne X.K (.ref (cl c)) (.ref S)=some true) (hm:X.mg "_law_word" = some (.ref fw)) (hk:PySem.W.keepIn X.K (.ref fw)=true) (hW:cc X.prog X.w X.K X.mg X.base cl k fw c) (i:Nat)
   (hst:X.stack=X.env :: X.outer/\X.env.frame=some X.env.locals:=by exact ⟨rfl,rfl⟩) (hi:X.N[i]?=some n:=by rfl) (hn:X.env.scope.names.lookup n=some .local:=by rfl) (hgS:Gl X "SmoothError":=by rfl) (hg:Gl X "_law_word":=by rfl) (h1:(n == ("__debug__" : Str))=false:=by decide) (h2:(n == ("__classdict__" : Str))=false:=by decide) :
   PSs X (.Try body [.ExceptHandler (some (.Name "SmoothError" psm)) (some n) [.Return (some (.Call (.Name "_law_word" p) [.Name n p'] [] q)) pr] ph] [] [] pos :: rest) (dS X.K τ N):=by
 refine bg (M:=λ_=>False) (psW (Hx.pY (ks:=[c]) (cl:=cl) (i:=i) (tr:=trW cl c i) (tb:=λEx=>dS X.K τ { nx:=λ_=>False,rt:=λ_=>False,xc:=Ex c }) hst nd hi hn hgS hmS (by decide) (λc' hc'=>by rw [List.mem_singleton.mp hc']; exact hx) (λa o=>mQ hg hm hk hW ⟨B.room.dp,B.room.un⟩ hi hn h1 h2) λEx pins E hp=>hb pins E Ex hp) λD σ H ⟨A,H₀,B,S,Me⟩=>?_) λ_ e=>e.elim
 refine ⟨A,H₀,B,S,λ_ _ _ _ h=>h.elim,λ_ _ _ _ h=>h.elim,λ_ _ _ _ h=>h.elim,λ_ _ _ _ h=>h.elim,λH' e'=>⟨List.mem_singleton.mpr rfl,λσ' a o hl Ha ho=>⟨aF,ho,List.getElem?_set_self hl,λH2 e2=>?_⟩⟩⟩
 exact Me.rt (.str (wordOf c)) H2 [] (.d (.str (wordOf c))) h ((e'.trans (au Ha _)).trans e2) cg (ek .str)
end
noncomputable def exX (cl:Nat->Addr) (c:Nat):Ex where
 p:=λ_ _ o _=>∃ ob,o=Hx.kh ob/\Hx.kJ ob (cl c)
 mono:=λ_ h=>h
 ext:=λ⟨ob,h,_⟩=>.inr (.inl ⟨ob,_,h⟩)
section
variable {X:Cx} {C:Bool} {τ:List Sl} {x y z:D} {a b e c0 tg it elt:Expr} {es ifs:List Expr} {pos p q q':Pos} {k c:Nat} {cl:Nat->Addr} {xs:List D} {scope:Scope}
theorem lx {b:Bool} {v:V} {u:Value} (O:Hx.bL X.K (cl c)) (hv:∀ u',RelV v u'->u'=u) (e:PySem.W.kitOne X.K (.ref (cl c)) u=some b) :
   cN X (.builtin "isinstance") (λxs H Q=>∃ a o x,xs=[.ref a,v]/\H a=some (.frz o x)/\Hx.kJ o (cl c)/\Q (.bl b) H):=by
 rintro pins s σ H vs us Q I rv ⟨a,o,x,rfl,e2,⟨⟨e3,e4⟩,ws,e5,e6⟩,q⟩
 obtain ⟨u1,u2,rfl,r1,r2⟩:=rv.two
 cases r1
 have r2:=hv _ r2
 subst r2
 have g:=(I.hok a _ e2).1
 refine PySem.W.kia_one (Hx.lY O) I.kIn ⟨o,g,e3,?_,?_⟩ e (λz=>nomatch z) λtk=>⟨.bl b,H,I.kept (t':=tk) (λ_ _ z=>z),rfl,q⟩
 · unfold PySem.W.notCls; rw [e5]
 · rw [e4]; trivial
theorem bq (i:Nat) {n t:Str} {C0:Addr} {bb:Bool} (hm:X.mg t=some (.ref C0)) (O:Hx.bL X.K (cl c)) (hk:PySem.W.kitOne X.K (.ref (cl c)) (.ref C0)=some bb) (hbi:X.mg "isinstance" = none) (hi:τ[i]?=some (.x (exX cl c)):=by rfl) (hN:X.N[i]?=some n:=by rfl) (hg:Gl X "isinstance":=by rfl) (hgt:Gl X t:=by rfl)
   (hv:Vis X.env.scope n:=by first | exact Or.inl rfl | exact Or.inr (Or.inl rfl) | exact Or.inr (Or.inr rfl)) (h1:(n == ("__debug__" : Str))=false:=by decide) (h2:(n == ("__classdict__" : Str))=false:=by decide) (h3:(t == ("__debug__" : Str))=false:=by decide)
   (he:starEach [.Name n q,.Name t q'] X.env=(false,eval (.Name n q) X.env) :: starEach [.Name t q'] X.env:=by rfl) (hpl:(backTo pos (starEach [.Name t q'] X.env)).any (·.1)=false:=by rfl) :
   PE X (.Call (.Name "isinstance" p) [.Name n q,.Name t q'] [] pos) (dE X.K C τ (.d (.bl bb))):=by
 refine peW (cO (lx (v:=.ref C0) (u:=.ref C0) O (λ_ z=>z) hk) hg hbi (by decide +kernel) (bf (b9 hN hv h1 h2) (bf (jj (v:=.ref C0) hgt hm rfl h3) cI rfl) he) (by decide) (by decide) he hpl) λσ H Q q=>?_
 obtain ⟨A,H₀,B,S,k⟩:=cD q
 obtain ⟨d,o,h1,h2,h3,ob,rfl,ho⟩:=S.sl i _ hi
 exact ⟨_,slot_of h2,d,ob,_,rfl,h3,ho,k _ H (ag.refl _) .bl⟩
theorem rN (i:Nat) {n t:Str} {T:String} {bb:Bool} (hm:X.mg t=none) (hb:bootBuiltins t=some (.type T)) (O:Hx.bL X.K (cl c)) (hk:PySem.W.kitOne X.K (.ref (cl c)) (.type T)=some bb) (hbi:X.mg "isinstance" = none) (hi:τ[i]?=some (.x (exX cl c)):=by rfl) (hN:X.N[i]?=some n:=by rfl) (hg:Gl X "isinstance":=by rfl) (hgt:Gl X t:=by rfl)
   (hv:Vis X.env.scope n:=by first | exact Or.inl rfl | exact Or.inr (Or.inl rfl) | exact Or.inr (Or.inr rfl)) (h1:(n == ("__debug__" : Str))=false:=by decide) (h2:(n == ("__classdict__" : Str))=false:=by decide) (h3:(t == ("__debug__" : Str))=false:=by decide) (h4:t ≠ "__name__":=by decide)
   (he:starEach [.Name n q,.Name t q'] X.env=(false,eval (.Name n q) X.env) :: starEach [.Name t q'] X.env:=by rfl) (hpl:(backTo pos (starEach [.Name t q'] X.env)).any (·.1)=false:=by rfl) :
   PE X (.Call (.Name "isinstance" p) [.Name n q,.Name t q'] [] pos) (dE X.K C τ (.d (.bl bb))):=by
 refine peW (cO (lx (v:=.ty T) (u:=.type T) O (λ_ z=>z) hk) hg hbi (by decide +kernel) (bf (b9 hN hv h1 h2) (bf (jw (v:=.ty T) hgt hm hb rfl h4 h3) cI rfl) he) (by decide) (by decide) he hpl) λσ H Q q=>?_
 obtain ⟨A,H₀,B,S,k⟩:=cD q
 obtain ⟨d,o,h1,h2,h3,ob,rfl,ho⟩:=S.sl i _ hi
 exact ⟨_,slot_of h2,d,ob,_,rfl,h3,ho,k _ H (ag.refl _) .bl⟩
theorem qL {n:Int} (hc:Ck true X) (hm:X.mg "range" = none) (h:PE X a (dE X.K false τ (.d (.int n)))) (h1:-(2 ^ 62)<=n) (h2:n < 2 ^ 62) (hg:Gl X "range":=by rfl) (hs:starEach [a] X.env=[(false,eval a X.env)]:=by rfl):PI X tg (.Call (.Name "range" p) [a] [] pos) (dI X.K τ (fN 0 n.toNat)):=
 piW (gb hc hg hm (aa h ah hs) hs) λσ H R ⟨A,H₀,B,S,k⟩=>cU S λvs H1 e1 d1=>by
   cases d1 with
   | cons d r=>
     cases r
     cases d
     exact ⟨n,rfl,h1,h2,k _ H1 e1 (kT 0 _)⟩
theorem qN (j:Nat) {n:Str} {g f:Nat->D} {t:Nat->Bool} (hi:PI X (.Name n p) it (dI X.K τ xs)) (hx:∀ i (h:i < xs.length),xs[i]=g i) (hl:xs.length < 1000000)
   (ht:∀ i,i < xs.length->∀ s H fp,PT (cpX X s H scope fp) c0 (dT X.K ((b7 τ (bCp X.N scope)++[Sl.un]).set j (.d (g i))) (t i)))
   (he:∀ i,i < xs.length->t i=true->∀ s H fp,PE (cpX X s H scope fp) elt (dE X.K true ((b7 τ (bCp X.N scope)++[Sl.un]).set j (.d (g i))) (.d (f i))))
   (hc:bOk X.env.scope scope=true:=by kernel_rfl) (hu:(b7 τ (bCp X.N scope)++[Sl.un])[j]?=some .un:=by rfl) (hN:(bNm scope++[("#" : Str)])[j]?=some n:=by rfl) (hv:∀ s H fp,Loc (cpX X s H scope fp).env.scope n:=by intro _ _ _; first | exact .inl rfl | exact .inr rfl)
   (hf:∀ s H fp,(cpX X s H scope fp).fn n=true\/(cpX X s H scope fp).env.scope.names.lookup n=some .local:=by intro _ _ _; first | exact .inr rfl | exact .inl rfl) (hs:∀ x,foldedSetIterable it X.env x=pure x:=by intro _; rfl) :
   Cmp X elt (.Name n p) it [c0] scope τ (((List.range xs.length).filter t).map f):=by
 refine kq (T:=λi=>(b7 τ (bCp X.N scope)++[Sl.un]).set j (.d (g i))) (t:=t) (f:=f) (elt:=elt) (ifs:=[c0]) hc hi (λi=>⟨List.length_set,λl x h=>?_⟩) (λi h s H fp=>?_) (λi h s H fp=>nA (ht i h s H fp)) he hl hs
 · rw [List.getElem?_set_ne (λz=>by rw [<- z,hu] at h; cases h)]
   exact h
 · rw [hx i h]
   exact qH j (gH hc).2 hN (hv s H fp) (hf s H fp)
theorem pk (hm:X.mg "len" = none) (h:PE X a (dE X.K C τ (.d (.lst xs)))) (hg:Gl X "len":=by rfl) (he:starEach [a] X.env=(false,eval a X.env) :: starEach [] X.env:=by rfl) (hpl:(backTo pos (starEach [] X.env)).any (·.1)=false:=by rfl):PE X (.Call (.Name "len" p) [a] [] pos) (dE X.K C τ (.d (.int xs.length))):=by
 obtain ⟨r,h1,h2⟩:=jM (X:=X) (xs:=xs)
 exact peW (cO h1 hg hm (by decide +kernel) (aa h ah he) (by decide) (by decide) he hpl) (i8 h2)
end
section
variable {P:Program} {w:World} {K:PySem.W.Frag} {mg:Str->Option Value} {base:Heap} {cl:Nat->Addr}
noncomputable abbrev Xw (P:Program) (w:World) (K:PySem.W.Frag) (mg:Str->Option Value) (base:Heap) (N:List Str) (qual:Str) (st:Stmt) (f:Addr) (cdv:Value) (A:Around) (outer:List Env) (s:Shared) (H:Hp):Cx:=({ fE CX0 P w K mg base N qual (ai st) f cdv A outer s H E0 with calm:=false }:Cx).nox
theorem fnW {qual p0:Str} {st:Stmt} {f:Addr} {fd:FuncData} {N:List Str} {k c:Nat} (F:Fun K "_law_word" qual st f fd) (S:ax N [p0] (ai st)) (hbind:Binds K fd [p0] [])
   (body:∀ cdv A outer s H,Ck true (Xw P w K mg base N qual st f cdv A outer s H)->PSs (Xw P w K mg base N qual st f cdv A outer s H) (a4 st) (dS K (.x (exX cl c) :: List.replicate (N.length - 1) .un) { nx:=λ_=>False,rt:=λr=>r=.d (.str (wordOf c)) })):cc P w K mg base cl (k + 1) f c:=by
 intro A outer s H a o Q hh hH hO hr e0 q
 obtain ⟨oc,od,dV,kV,doc,pm,an,cdv,ct,osl,rfl,lk,hcd⟩:=F.ex
 have KX:K.In s.heap:=e0.mod.kin.keeps λb o e=>(e0.bs b o e).1
 have lim:s.heap.NoLimit:=e0.mod.nolimit.keeps λb o e=>(e0.bs b o e).1
 have hpl:1<=N.length:=by
   have:=congrArg List.length S.pre
   rw [List.length_take] at this
   exact Nat.le_trans (Nat.le_of_eq this.symm) (Nat.min_le_right _ _)
 refine codeAny_call_function (by have:=hr.dp; omega) (KX _ _ lk) rfl S.co S.gen rfl (PySem.W.codeRec_of KX hcd) (hbind s [.ref a] KX rfl _ _ _ _ ?_)
 refine wpAny_newFunctionEnv_cells S.kind (λ⟨n,v⟩ hy=>?_) λenv he s1 x=>?_
 · rcases S.par n (List.of_mem_zip hy).1 with z | z
   · exact .inl z
   · exact .inr ⟨z,PySem.W.cellsFrom_some _ _ _ (.inl z)⟩
 subst he
 refine ⟨lim.keeps x.toInCall.keep,codeAny_func ?_⟩
 have I:Inv { fE CX0 P w K mg base N qual (ai st) f cdv A outer s H E0 with calm:=false } [] (start N [.ref a]) H s1:=gj (cm:=false) S (λz=>nomatch z) e0 rfl (.cons rfl .nil) x
 have ck:Ck true (Xw P w K mg base N qual st f cdv A outer s H):=.inr ⟨rfl,a,o,_,hO.2.choose,hh,hH,hO.2.choose_spec.1,hO.2.choose_spec.2⟩
 have ow:∀ b,own (λ_=>False) (λi=>if i=0 then [a] else []) b ↔ b=a:=λb=>by
   refine ⟨λz=>z.elim False.elim λ⟨i,z⟩=>?_,λz=>.inr ⟨0,by simp [z]⟩⟩
   by_cases e:i=0
   · simp only [if_pos e] at z; exact List.mem_singleton.mp z
   · simp only [if_neg e] at z; cases z
 have hB:∀ i b,b ∈ (if i=0 then [a] else []:List Addr)->i=0/\b=a:=λi b z=>by
   by_cases e:i=0
   · rw [if_pos e] at z; exact ⟨e,List.mem_singleton.mp z⟩
   · rw [if_neg e] at z; cases z
 refine wpAny_mono (body cdv A outer s H ck [] s1 _ H { nx:=λ_ _=>False,rt:=λv H'=>ag (Hy.hd H (·=a)) H'/\v=.str (wordOf c) } (I.eg _) ⟨λ_=>False,Hy.hd H (·=a),λi=>if i=0 then [a] else [],⟨aM,?_,λi s hi=>?_,λi b z=>?_,λi j b z1 z2=>((hB i b z1).1).trans ((hB j b z2).1).symm,λb z=>z.elim,λi b z=>⟨Hx.kh o,by rw [(hB i b z).2]; exact hH⟩⟩,λ_ _ _ _ z=>z.elim,λ_ _ _ _ z=>z.elim,λ_ _ _ _ z=>z.elim,λv H' bs s h e hf z=>?_,λ_ _=>trivial⟩) (λfl s' hs=>?_) λe s' hs=>hs.elim
 · unfold L2.start
   simp
 · match i,hi with
   | 0,hi=>
     cases hi
     exact ⟨a,_,rfl,rfl,hH,o,rfl,hO⟩
   | i + 1,hi=>
     rw [List.getElem?_cons_succ,List.getElem?_replicate] at hi
     split at hi
     · cases hi; rfl
     · cases hi
 · rw [(hB i b z).2]
   unfold Hy.hd
   rw [if_pos rfl]
 · obtain rfl:=(h:s=.d (.str (wordOf c)))
   obtain ⟨_,u,e1,d⟩:=z
   cases e1
   cases d
   exact ⟨e,rfl⟩
 · cases fl with
   | ret u=>
     obtain ⟨v,σ',H',J,rv,z1,rfl⟩:=hs
     refine ⟨_,H',J.os,J.bare,J.base,J.hok,rv,q H' λb ob hb=>?_⟩
     by_cases e:b=a
     · subst e
       rw [hH] at hb
       cases hb
       exact J.base.frzs b _ _ hH
     · exact z1 b ob (ao.mpr ⟨e,hb⟩)
   | next=>obtain ⟨_,_,_,z⟩:=hs; exact z.elim
   | brk=>obtain ⟨_,_,_,z⟩:=hs; exact z.elim
   | cont=>obtain ⟨_,_,_,z⟩:=hs; exact z.elim
end
end Hy
namespace Hy
open PySem PySem.Spec PyProof.Rows L2
open Ev (D Den aw cn cS)
section
variable {X:Cx} {C:Bool} {τ:List Sl} {a e tg it elt:Expr} {es ifs:List Expr} {pos p:Pos} {Et:Hp->Prop} {scope:Scope}
end
end Hy
namespace Hy
open PySem PySem.Spec PyProof.Rows L2
open Ev (D Den aw)
section
variable {P:Program} {w:World} {K:PySem.W.Frag} {h:Heap} {mg:Str->Option Value} {base:Heap} {x:Str} {st:Stmt} {f:Addr} {ps:List Str} {k:Nat} {Φ:List D->Nat->Prop} {cl:Nat->Addr}
theorem Dfn.kl (d:Dfn K x st f) (X:K.In h) (G:h.Ns mainGlobals mg) (b:BdA x st ps) (o:∀ fd,Fun K x x st f fd->aO P w K mg base (Hx.CXe P w cl) k f fd ps (spX K cl Φ)):bU P w K mg base cl k x Φ:=by
 obtain ⟨fd,F,h1,h2,h3⟩:=d.fn X G b
 exact ⟨f,fd,ps,o fd F,h1,h2,h3⟩
end
theorem aX {K:PySem.W.Frag} {C D:Addr} {dd:Option Addr} {cd:ClassData} {sl:Array (Option Value)} {b:Bool} (h:(Value.ref C == Value.ref D)=false) (e:K.lookup D=some ⟨.type "type",dd,.cls cd,sl⟩) (s:PySem.W.subIn K (.ref C) (.ref D)=some b):PySem.W.kitCls K (.ref C) (.ref D)=some b/\PySem.W.kitOne K (.ref C) (.ref D)=some b:=by
 have z:PySem.W.kitCls K (.ref C) (.ref D)=some b:=by
   have c:PySem.W.clsIn K D=some cd:=by unfold PySem.W.clsIn; rw [e]
   have t:PySem.W.typeIn K (.ref D)=some (.type "type"):=by show (K.lookup D).map _=_; rw [e]; rfl
   show (if ((PySem.W.clsIn K D).isSome && PySem.W.typeIn K (.ref D) == some (.type "type"))=true then PySem.W.subIn K (.ref C) (.ref D) else none)=some b
   rw [if_pos (by rw [c,t]; simp)]
   exact s
 refine ⟨z,?_⟩
 unfold PySem.W.kitOne
 rw [if_neg (by rw [h]; decide)]
 exact z
theorem kB {K:PySem.W.Frag} {C:Addr}:PySem.W.kitOne K (.ref C) (.ref C)=some true:=by
 unfold PySem.W.kitOne
 rw [if_pos (by simp)]
theorem mD {K:PySem.W.Frag} {C:Addr} (s:PySem.W.subIn K (.ref C) (.type "ValueError")=some true):PySem.W.kitOne K (.ref C) (.type "ValueError")=some true:=by
 unfold PySem.W.kitOne
 rw [if_neg (by simp)]
 show (if PySem.W.kitMeta "ValueError" = true then PySem.W.subIn K (.ref C) (.type "ValueError") else none)=some true
 rw [if_pos (by decide +kernel)]
 exact s
theorem pM {K:PySem.W.Frag} {C S:Addr} (h:PySem.W.subIn K (.ref S) (.type "BaseException")=some true) (k:PySem.W.kitCls K (.ref C) (.ref S)=some true):PySem.W.exmOne K (.ref C) (.ref S)=some true:=by
 unfold PySem.W.exmOne
 rw [if_pos (by rw [h]; rfl)]
 exact k
end Hy
namespace Hy
open PySem PySem.Spec PyProof.Rows L2
open Ev (D Den aw aV)
section
variable {X:Cx}
noncomputable def flD:D->Bool
 | .non=>true
 | .bl _=>true
 | .int _=>true
 | .str _=>true
 | _=>false
noncomputable def inS (us:List Str):D->Bool
 | .str u=>us.any λw=>decide (w=u)
 | _=>false
theorem nq (us:List Str) (v:V) (h:∀ w,eqV (.str w) v=false):inV v (us.map V.str)=false:=by
 unfold inV
 rw [List.any_map,List.any_eq_false]
 intro w _
 show ¬ eqV (V.str w) v=true
 rw [h w]; decide
theorem rR {us:List Str} {x:D} (f:flD x=true):bO X (compareOp .In) x (.tup (us.map .str)) (.bl (inS us x)):=by
 cases x with
 | str u=>exact qS
 | tup _=>cases f
 | lst _=>cases f
 | box _=>cases f
 | _=>
   refine ⟨_,gd,λM x' y' H Q _ d1 d2 q=>?_⟩
   cases d1
   cases d2 with
   | @tup ad vs _ h r=>
     have ev:vs=us.map V.str:=by
       clear h q
       induction us generalizing vs with
       | nil=>cases r; rfl
       | cons w ws ih=>
         cases r with
         | cons d r=>cases d; rw [ih r]; rfl
     subst ev
     refine ⟨_,_,rfl,.inr (aV aM h),rfl,?_,?_⟩
     · rw [List.all_map,List.all_eq_true]; intro _ _; rfl
     · rw [if_neg Bool.false_ne_true,nq us _ λw=>rfl]
       exact q _ H (ag.refl _) .bl
end
end Hy
namespace L2
open PySem PySem.Spec PyProof.Rows
section
variable {κ:Type} [DecidableEq κ]
noncomputable def fS (kvs:List (κ × V)) (k:κ):Option V:=(kvs.find? λkv=>decide (kv.1=k)).map (·.2)
noncomputable def putK (kvs:List (κ × V)) (k:κ) (v:V):List (κ × V):=
 if (kvs.any λkv=>decide (kv.1=k))=true then kvs.map (λkv=>if kv.1=k then (kv.1,v) else kv) else kvs++[(k,v)]
theorem eM {p:κ × V} {r:List (κ × V)} {k:κ} (e:p.1=k):fS (p :: r) k=some p.2:=by simp [fS,List.find?_cons,e]
theorem fb {p:κ × V} {r:List (κ × V)} {k:κ} (e:¬ p.1=k):fS (p :: r) k=fS r k:=by simp [fS,List.find?_cons,e]
theorem ip (k:κ):∀ kvs:List (κ × V),(kvs.any λkv=>decide (kv.1=k))=(fS kvs k).isSome
 | []=>rfl
 | p :: r=>by
   rw [List.any_cons]
   by_cases e:p.1=k
   · simp only [eM e,decide_eq_true e,Bool.true_or,Option.isSome_some]
   · rw [fb e,decide_eq_false e,Bool.false_or]; exact ip k r
theorem hV.kf {o:Option V} {u:Option Value} (r:hV o u):o.isSome=u.isSome:=by
 cases o with
 | none=>cases u with
   | none=>rfl
   | some _=>exact (show False from r).elim
 | some _=>cases u with
   | none=>exact (show False from r).elim
   | some _=>rfl
theorem KV.val {kvs:List (κ × V)} {vs:List (κ × Value)} (r:KV kvs vs) (k:κ):hV (fS kvs k) (valueAt vs k):=by
 unfold KV at r
 induction r with
 | nil=>exact True.intro
 | @cons p q ps qs h t ih=>
   obtain ⟨h1,h2⟩:=h
   by_cases e:p.1=k
   · have e':q.1=k:=h1.symm.trans e
     have b:valueAt (q :: qs) k=some q.2:=by simp [valueAt,List.find?_cons,e']
     rw [eM e,b]; exact h2
   · have e':¬ q.1=k:=λz=>e (h1.trans z)
     have b:valueAt (q :: qs) k=valueAt qs k:=by simp [valueAt,List.find?_cons,e']
     rw [fb e,b]; exact ih
theorem KV.any {kvs:List (κ × V)} {vs:List (κ × Value)} (r:KV kvs vs) (k:κ):(kvs.any λkv=>decide (kv.1=k))=vs.any λkv=>decide (kv.1=k):=by
 unfold KV at r
 induction r with
 | nil=>rfl
 | cons h t ih=>rw [List.any_cons,List.any_cons,ih,h.1]
theorem KV.oy {kvs:List (κ × V)} {vs:List (κ × Value)} (r:KV kvs vs) (k:κ) {y:V} {u:Value} (ry:RelV y u) :
   KV (kvs.map λkv=>if kv.1=k then (kv.1,y) else kv) (vs.map λkv=>if kv.1=k then (kv.1,u) else kv):=by
 unfold KV at r ⊢
 induction r with
 | nil=>exact .nil
 | @cons p q ps qs h t ih=>
   rw [List.map_cons,List.map_cons]
   refine .cons ?_ ih
   obtain ⟨h1,h2⟩:=h
   by_cases e:p.1=k
   · rw [if_pos e,if_pos (h1.symm.trans e)]; exact ⟨h1,ry⟩
   · rw [if_neg e,if_neg (λz=>e (h1.trans z))]; exact ⟨h1,h2⟩
theorem KV.put {kvs:List (κ × V)} {vs:List (κ × Value)} (r:KV kvs vs) (k:κ) {y:V} {u:Value} (ry:RelV y u):KV (putK kvs k y) (stored vs k u):=by
 unfold putK stored
 rw [r.any k]
 by_cases e:(vs.any λkv=>decide (kv.1=k))=true
 · rw [if_pos e,if_pos e]; exact r.oy k ry
 · rw [if_neg e,if_neg e]; exact Paired.snoc r ⟨rfl,ry⟩
end
noncomputable abbrev KT (H:Hp):List (List Key × V)->List (List Key × Addr × Value)->Prop:=Paired λp q=>p.1=q.1/\H q.2.1=some (.tup (p.1.map kV))/\RelV p.2 q.2.2
theorem KT.val {H:Hp} {kvs:List (List Key × V)} {xs:List (List Key × Addr × Value)} (r:KT H kvs xs) (k:List Key):hV (fS kvs k) ((atKey xs k).map (·.2)):=by
 induction r with
 | nil=>exact True.intro
 | @cons p q ps qs h t ih=>
   obtain ⟨h1,_,h2⟩:=h
   by_cases e:p.1=k
   · have e':q.1=k:=h1.symm.trans e
     have b:atKey (q :: qs) k=some q.2:=by simp [atKey,List.find?_cons,e']
     rw [eM e,b]; exact h2
   · have e':¬ q.1=k:=λz=>e (h1.trans z)
     have b:atKey (q :: qs) k=atKey qs k:=by simp [atKey,List.find?_cons,e']
     rw [fb e,b]; exact ih
theorem KT.oy {H:Hp} {kvs:List (List Key × V)} {xs:List (List Key × Addr × Value)} (r:KT H kvs xs) (k:List Key) {y:V} {u:Value} (ry:RelV y u) :
   KT H (kvs.map λkv=>if kv.1=k then (kv.1,y) else kv) (xs.map (putAt k u)):=by
 induction r with
 | nil=>exact .nil
 | @cons p q ps qs h t ih=>
   rw [List.map_cons,List.map_cons]
   refine .cons ?_ ih
   obtain ⟨h1,h2,h3⟩:=h
   unfold putAt
   by_cases e:p.1=k
   · rw [if_pos e,if_pos (h1.symm.trans e)]; exact ⟨h1,h2,ry⟩
   · rw [if_neg e,if_neg (λz=>e (h1.trans z))]; exact ⟨h1,h2,h3⟩
theorem KT.put {H:Hp} {kvs:List (List Key × V)} {xs:List (List Key × Addr × Value)} (r:KT H kvs xs) (k:List Key) {b:Addr} {y:V} {u:Value} (hb:H b=some (.tup (k.map kV))) (ry:RelV y u) :
   KT H (putK kvs k y) (storedH xs k b u):=by
 have e:(kvs.any λkv=>decide (kv.1=k))=(atKey xs k).isSome:=by
   rw [ip,(r.val k).kf,Option.isSome_map]
 unfold putK storedH
 rw [e]
 by_cases q:(atKey xs k).isSome=true
 · rw [if_pos q,if_pos q]; exact r.oy k ry
 · rw [if_neg q,if_neg q]; exact Paired.snoc r ⟨rfl,hb,ry⟩
theorem KT.keeps {H H':Hp} {kvs:List (List Key × V)} {xs:List (List Key × Addr × Value)} (r:KT H kvs xs) (ht:∀ b ys,H b=some (.tup ys)->H' b=some (.tup ys)):KT H' kvs xs:=
 Paired.pA r λ_ _ z=>⟨z.1,ht _ _ z.2.1,z.2.2⟩
section
variable {P:Program} {w:World} {H:Hp} {h:Heap} {a:Addr}
end
noncomputable def rQ (H:Hp) (a:Addr) (y:V) (r:Option V):Prop:=∃ kvs k,Rd H a (.dK kvs)/\y=kV k/\r=fS kvs k
noncomputable def qO (H:Hp) (a:Addr) (y v:V) (H':Hp):Prop:=∃ kvs k,H a=some (.dK kvs)/\y=kV k/\kvs.length < sizeLine/\H'=upd H a (.dK (putK kvs k v))
theorem rQ.k {H:Hp} {a:Addr} {kvs:List (Key × V)} {k:Key} (e:H a=some (.dK kvs)):rQ H a (kV k) (fS kvs k):=⟨kvs,k,.inl e,rfl,rfl⟩
theorem qO.k {H:Hp} {a:Addr} {kvs:List (Key × V)} {k:Key} {v:V} (e:H a=some (.dK kvs)) (hl:kvs.length < sizeLine):qO H a (kV k) v (upd H a (.dK (putK kvs k v))):=⟨kvs,k,e,rfl,hl,rfl⟩
section
variable {X:Cx} {pins:List (Addr × Obj)} {σ:St} {H:Hp} {s:Shared} {a:Addr} {y v:V} {u r:Value} {o:Option V} {A:Around} {E:Value->Shared->Prop}
theorem Inv.big (I:Inv X pins σ H s):sysModules < s.heap.objs.size:=by
 have h:mainGlobals < s.heap.objs.size:=(I.mod.glob.keeps I.bk).lt
 exact Nat.lt_trans (by decide) h
theorem jF {h':Heap} {t':Nat} {ob:HO} (I:Inv X pins σ H s) (mu:Mut (H a)) (hs:Heap.SameBut a s.heap h') (he:∃ q,h'.get? a=some q) (new:bp X.prog X.w (upd H a ob) h' a ob) :
   Inv X pins σ (upd H a ob) { s with heap:=h',toks:=t' }:=
 I.write (x:=a) (e:=a) mu (.inl rfl) (λb q hb z=>(hs.2 b hb).trans z) he new
end
section
variable {X:Cx} {pins:List (Addr × Obj)} {σ:St} {H:Hp} {s:Shared} {a:Addr} {kvs:List (Key × V)} {k:Key} {u:Value} {A:Around} {E:Value->Shared->Prop}
end
noncomputable def rf (i:Expr):Prop:=∀ ov iv,subscripted i false ov iv=operate [ov,iv] (getItem ov iv)
theorem mJ {prog:Program} {w:World} {A:Around} {E:Value->Shared->Prop} {s:Shared} {env:Env} {value slice:Expr} {pos:Pos} {T id:String} {Q:Value->Shared->Prop}
   (hl:typeLookup (.type T) "__getitem__" = pure (some (.builtin id))) (hs:rf slice)
   (h:wpAny (model prog w) A (eval value env) (λo s₁=>wpAny (model prog w) A (eval slice env) (λi s₂=>s₂.TypeIs o T/\wpAny (model prog w) A (getItem o i) Q E s₂) E s₁) E s) :
   wpAny (model prog w) A (eval (.Subscript value slice pos) env) Q E s:=by
 refine Subscript_ (wpAny_mono h (λo s₁ h₁=>wpAny_mono h₁ (λi s₂ h₂=>?_) λ_ _ x=>x) λ_ _ x=>x)
 obtain ⟨hT,h₂⟩:=h₂
 unfold subscriptTail
 refine wpAny_bind ?_
 rw [getitemInPython_of_ne hT.not_modules]
 refine wpAny_bind (wpAny_specialOf hT hl ?_)
 have fin:wpAny (model prog w) A (subscripted slice false o i) (λr s₃=>wpAny (model prog w) A (letTemporaryGo value o r >>= λ_=>pure r) Q E s₃) E s₂:=by
   rw [hs o i]
   exact wpAny_operating (wpAny_mono h₂ (λr s₃ h₃=>wpAny_bind (wpAny_letTemporaryGo (wpAny_pure h₃))) λ_ _ x=>x)
 first
   | exact wpAny_pure (wpAny_bind fin)
   | exact wpAny_bind (wpAny_pure (wpAny_bind fin))
   | exact wpAny_bind fin
section
variable {X:Cx} {o i e value:Expr} {pos pos' tpos:Pos} {td ty tv:TE}
end
section
variable {X:Cx} {pos:Pos}
end
structure M2 (X:Cx) (o:Expr) (m:Str) (apos:Pos) (e f:Expr) (cpos:Pos):Prop where
 base:attributeBase o m X.env (eval o X.env)=eval o X.env
 few:((backTo cpos (starEach [e,f] X.env)).all (λx=>!x.1) && (backToKw cpos (keywordEach [] X.env)).all (λx=>x.1.isSome)
   && decide (([e,f]:List Expr).length + ([]:List Keyword).length + (if ([]:List Keyword).isEmpty then 0 else 1) < 30))=true
 line:(apos.endLine == cpos.line)=true
 trees:backTo cpos (starEach [e,f] X.env)=[(false,eval e X.env),(false,eval f X.env)]
section
variable {X:Cx} {pins:List (Addr × Obj)} {σ:St} {H:Hp} {s:Shared} {a:Addr} {y d:V} {u r:Value} {o:Option V} {A:Around} {E:Value->Shared->Prop}
end
section
variable {X:Cx} {o e f:Expr} {apos cpos:Pos} {td ty tx:TE}
end
end L2
namespace L2
open PySem PySem.Spec PyProof.Rows PySem.SeqAt
section
variable {P:Program} {w:World} {A:Around} {E:Value->Shared->Prop} {s:Shared}
noncomputable def HK (P:Program) (w:World) (A:Around) (h:Heap) (v:Value) (x:Int) (d:Nat):Prop:=
 ∀ (s:Shared) (E:Value->Shared->Prop) (Q:Int->Shared->Prop),s.heap=h->Q x { s with toks:=s.toks + d }->wpAny (model P w) A (pyHash v) Q E s
end
noncomputable abbrev rk:=Int × Int × Bool
noncomputable def isN (h:Heap) (k:rk) (a:Addr):Prop:=∃ t c t',IsTup h a #[.int k.1 t,.ref c]/\IsTup h c #[.int k.2.1 t',.bool k.2.2]
theorem jy {h:Heap} {a:Addr} {x y:Array Value} (p:IsTup h a x) (q:IsTup h a y):x=y:=by
 obtain ⟨o,ho,_,n,hd⟩:=p
 obtain ⟨o',ho',_,n',hd'⟩:=q
 rw [ho] at ho'; cases ho'
 rw [hd] at hd'; cases hd'; rfl
theorem isN.inj {h:Heap} {a:Addr} {x y:rk} (p:isN h x a) (q:isN h y a):x=y:=by
 obtain ⟨t,c,t',h1,h2⟩:=p
 obtain ⟨u,d,u',g1,g2⟩:=q
 have e:=jy h1 g1
 simp only [Array.mk.injEq,List.cons.injEq,Value.int.injEq,Value.ref.injEq,and_true] at e
 obtain ⟨⟨e1,_⟩,rfl⟩:=e
 have e:=jy h2 g2
 simp only [Array.mk.injEq,List.cons.injEq,Value.int.injEq,Value.bool.injEq,and_true] at e
 obtain ⟨⟨e2,_⟩,e3⟩:=e
 obtain ⟨_,_,_⟩:=x
 obtain ⟨_,_,_⟩:=y
 simp_all
structure IK (P:Program) (w:World) (K:Type) [DecidableEq K] where
 is:Heap->K->Value->Prop
 hash:K->Int
 draws:K->Nat
 dep:Nat
 inj:∀ {h:Heap} {v:Value} {x y:K},is h x v->is h y v->x=y
 keeps:∀ {h h':Heap} {k:K} {v:Value} {d:Addr} {o:Obj} {es ep},is h k v->h.get? d=some o->o.data=.dict es ep->Heap.SameBut d h h'->is h' k v
 hk:∀ {A:Around} {h:Heap} {k:K} {v:Value},is h k v->A.units + dep < cLine->HK P w A h v (hash k) (draws k)
 eq:∀ {A:Around} {s:Shared} {x y:K} {u v:Value},is s.heap x u->is s.heap y v->A.units + dep < cLine->EqAt A s u v (decide (x=y))
 quiet:∀ {s:Shared} {k:K} {v:Value} {n:Nat},dep < n->is s.heap k v->∀ A E Q,Q true s->wpAny (model P w) A (eqIsQuiet n v) Q E s
section
variable {P:Program} {w:World}
variable {K K':Type} [DecidableEq K] [DecidableEq K']
noncomputable def kindOf (a:IK P w K) (hd:a.dep<=7):HeapKind P w K where
 is:=λh k p=>a.is h k (.ref p)
 hash:=a.hash
 draws:=a.draws
 room:=λA=>A.units + 8 < cLine
 inj:=a.inj
 keeps:=a.keeps
 pyHash:=λ{A E s k p Q} hu hk h=>a.hk hk (by omega) s E Q rfl h
 eqBool:=λ{A E s x y p p' Q} hu hx hy h=>a.eq hx hy (by omega) _ _ _ _ h
 quiet:=λ{A E s k p Q} hk h=>a.quiet (by omega) hk A E Q h
end
inductive eS {K:Type} (R:K->Value->Prop):List K->List Value->Prop where
 | nil:eS R [] []
 | cons {x:K} {v:Value} {xs:List K} {vs:List Value} (h:R x v) (r:eS R xs vs):eS R (x :: xs) (v :: vs)
section
variable {K:Type}
theorem eS.mono {R S:K->Value->Prop} (f:∀ x v,R x v->S x v):∀ {xs:List K} {vs:List Value},eS R xs vs->eS S xs vs
 | _,_,.nil=>.nil
 | _,_,.cons h r=>.cons (f _ _ h) (r.mono f)
theorem eS.inj {R:K->Value->Prop} (f:∀ x y v,R x v->R y v->x=y):∀ {xs ys:List K} {vs:List Value},eS R xs vs->eS R ys vs->xs=ys
 | _,_,_,.nil,.nil=>rfl
 | _,_,_,.cons h r,.cons g q=>by rw [f _ _ _ h g,r.inj f q]
theorem eS.mem {R:K->Value->Prop}:∀ {xs:List K} {vs:List Value},eS R xs vs->∀ v ∈ vs,∃ x,R x v
 | _,_,.nil,_,h=>nomatch h
 | _,_,.cons h r,v,hv=>(List.mem_cons.mp hv).elim (λz=>⟨_,z ▸ h⟩) (r.mem v)
end
section
variable {P:Program} {w:World} {K:Type} [DecidableEq K]
end
end L2
namespace Ev
open PySem PySem.Spec PyProof.Rows L2
structure KD (K:Type) [DecidableEq K] where
 ik:∀ (P:Program) (w:World),IK P w K
 dep:Nat
 dep_ok:∀ P w,(ik P w).dep=dep
 toD:K->D
 den:∀ {X:Cx} {pins:List (Addr × Obj)} {σ:L2.St} {H:Hp} {s:Shared} {v:V} {u:Value} {k:K},Inv X pins σ H s->Den X.K H v (toD k)->RelV v u->(ik X.prog X.w).is s.heap k u
section
variable {K K':Type} [DecidableEq K] [DecidableEq K']
noncomputable abbrev NEs (K:Type):=List (K × Addr × Value)
noncomputable def kd (a:KD K) (hd:a.dep<=7) (P:Program) (w:World):HeapKind P w K:=kindOf (a.ik P w) (by rw [a.dep_ok]; exact hd)
variable {a:KD K} {hd:a.dep<=7}
noncomputable def dNk (a:KD K) (hd:a.dep<=7) (P:Program) (w:World) (p:Addr) (xs:NEs K):HO:=.ext λh=>(p == sysModules)=false/\∃ o es ep,h.get? p=some o/\o.ExactDict/\o.data=.dict es ep/\es.toList=xs.map (entryOfKey (kd a hd P w))/\(xs.map (·.1)).Nodup
structure cv (a:KD K) (hd:a.dep<=7) (P:Program) (w:World) (F:PySem.W.Frag) (H:Hp) (d:Addr) (xs:NEs K):Prop where
 at_:H d=some (dNk a hd P w d xs)
 key:∀ x ∈ xs,Den F H (.ref x.2.1) (a.toD x.1)
variable {X:Cx} {pins:List (Addr × Obj)} {σ:L2.St} {H:Hp} {s:Shared} {d b:Addr} {xs:NEs K} {k:K} {A:Around} {E:Value->Shared->Prop}
theorem key_is (I:Inv X pins σ H s) (q:Den X.K H (.ref b) (a.toD k)):(kd a hd X.prog X.w).is s.heap k b:=a.den I q rfl
theorem fJ (I:Inv X pins σ H s) (D:cv a hd X.prog X.w X.K H d xs):(d == sysModules)=false/\s.heap.DictOfH (kd a hd X.prog X.w) d xs:=by
 obtain ⟨⟨h0,o,es,ep,h1,h2,h3,h4,h5⟩,_⟩:=(show bp X.prog X.w H s.heap d (dNk a hd X.prog X.w d xs) from I.hok d _ D.at_)
 exact ⟨h0,o,es,ep,h1,h2,h3,h4,λx hx=>key_is I (D.key x hx),h5⟩
noncomputable def qT (a:KD K) (hd:a.dep<=7) (P:Program) (w:World) (F:PySem.W.Frag) (td ty:TE):TE:=λσ H Q=>td σ H λx H1=>ty σ H1 λy H2=>∃ d b k xs p v,x=.ref d/\y=.ref b/\cv a hd P w F H2 d xs/\Den F H2 (.ref b) (a.toD k)/\atKey xs k=some p/\RelV v p.2/\Q v H2
noncomputable def ro (a:KD K) (hd:a.dep<=7) (P:Program) (w:World) (F:PySem.W.Frag) (ty td:TE):TE:=λσ H Q=>ty σ H λy H1=>td σ H1 λx H2=>∃ d b k xs,x=.ref d/\y=.ref b/\cv a hd P w F H2 d xs/\Den F H2 (.ref b) (a.toD k)/\Q (.bl (!(atKey xs k).isSome)) H2
noncomputable def rZ (a:KD K) (hd:a.dep<=7) (P:Program) (w:World) (F:PySem.W.Frag) (td ty tv:TE):TS:=λD σ H=>tv σ H λv H1=>td σ H1 λx H2=>ty σ H2 λy H3=>∃ d b k xs,x=.ref d/\y=.ref b/\cv a hd P w F H3 d xs/\Den F H3 (.ref b) (a.toD k)/\xs.length<=sizeLine/\∀ u,RelV v u->D.nx σ (upd H3 d (dNk a hd P w d (storedH xs k b u)))
noncomputable def rW (a:KD K) (hd:a.dep<=7) (P:Program) (w:World):TE:=λ_ H Q=>∀ p,H p=none->Q (.ref p) (upd H p (dNk a hd P w p []))
variable {o i e value:Expr} {pos pos':Pos} {td ty tv:TE}
theorem gY (hu:X.A.units + 16 < cLine) (ho:PE X o td) (hi:PE X i ty) (hs:rf i):PE X (.Subscript o i pos) (qT a hd X.prog X.w X.K td ty):=by
 intro pins s σ H Q I h
 refine mJ PySem.F.slot_dict_getitem.lookup hs (thn (ho pins s σ H _ I h) λu s1 ⟨x,H1,I1,rx,q1⟩=>thn (hi pins s1 σ H1 _ I1 q1) λiv s2 ⟨y,H2,I2,ry,d,b,k,xs,p,v,ex,ey,D,g,hp,rv,q2⟩=>?_)
 subst ex ey
 obtain rfl:u=Value.ref d:=rx
 obtain rfl:iv=Value.ref b:=ry
 obtain ⟨_,dd⟩:=fJ I2 D
 exact ⟨dd.typeIs,wpAny_getItem_heap (show X.A.units + 1 + 8 < cLine by omega) (key_is I2 g) dd hp ⟨v,H2,I2.tok _,rv,q2⟩⟩
theorem jN (hu:X.A.units + 16 < cLine) (hi:PE X i ty) (ho:PE X o td):PC X .NotIn i o (ro a hd X.prog X.w X.K ty td):=by
 intro pins s σ H Q I h
 refine thn (hi pins s σ H _ I h) λiv s1 ⟨y,H1,I1,ry,q1⟩=>thn (ho pins s1 σ H1 _ I1 q1) λu s2 ⟨x,H2,I2,rx,d,b,k,xs,ex,ey,D,g,q2⟩=>?_
 subst ex ey
 obtain rfl:u=Value.ref d:=rx
 obtain rfl:iv=Value.ref b:=ry
 obtain ⟨hd',dd⟩:=fJ I2 D
 exact wpAny_notIn_heap (show X.A.units + 1 + 8 < cLine by omega) (key_is I2 g) hd' dd ⟨.bl _,H2,I2.tok _,rfl,q2⟩
theorem jL (hu:X.A.units + 16 < cLine) (ho:PE X o td) (hi:PE X i ty) (hv:PE X value tv) (hs:swapsWith value (some (.Subscript o i pos')) pos.line X.env=pure false) :
   PS X (.Assign [.Subscript o i pos'] value pos) (rZ a hd X.prog X.w X.K td ty tv):=by
 intro pins s σ H D I h
 refine wpAny_Assign_Subscript (thn (hv pins s σ H _ I h) λr s1 ⟨v,H1,I1,rv,q1⟩=>thn (ho pins s1 σ H1 _ I1 q1) λu s2 ⟨x,H2,I2,rx,q2⟩=>thn (hi pins s2 σ H2 _ I2 q2) λiv s3 ⟨y,H3,I3,ry,d,b,k,xs,ex,ey,D',g,hl,q3⟩=>?_) hs
 subst ex ey
 obtain rfl:u=Value.ref d:=rx
 obtain rfl:iv=Value.ref b:=ry
 obtain ⟨hd',dd⟩:=fJ I3 D'
 refine wpAny_setItem_heap (hsz:=hl) (show X.A.units + 1 + 8 < cLine by omega) (key_is I3 g) dd λh' dd' hs=>⟨σ,_,?_,q3 r rv⟩
 obtain ⟨q,es,ep,hq,h2,h3,h4,_,h5⟩:=dd'
 refine jF I3 (by rw [D'.at_]; exact True.intro) hs ⟨q,hq⟩ ⟨⟨hd',q,es,ep,hq,h2,h3,h4,h5⟩,⟨q,hq⟩,λa1 a2 ⟨z0,o,es,ep,z1,z2⟩ hk=>⟨z0,o,es,ep,hk o z1,z2⟩⟩
theorem jm:PE X (.Dict [] [] pos) (rW a hd X.prog X.w):=λpins s σ H Q I h=>
 wpAny_Dict_empty ⟨.ref s.heap.objs.size,_,I.laid (a:=s.heap.objs.size) (o:=dNk a hd X.prog X.w s.heap.objs.size []) (t':=s.toks) (λ_ _ q=>Heap.get?_push_of_some _ q) (Nat.le_refl _)
   ⟨⟨beq_eq_false_iff_ne.mpr (Ne.symm (Nat.ne_of_lt I.big)),_,#[],0,Heap.get?_push_size _ rfl,⟨rfl,rfl,rfl⟩,rfl,rfl,List.nodup_nil⟩,⟨_,Heap.get?_push_size _ rfl⟩,λa1 a2 ⟨z0,o,es,ep,z1,z2⟩ hk=>⟨z0,o,es,ep,hk o z1,z2⟩⟩,rfl,h _ (I.hok.fresh (Nat.le_refl _))⟩
end
end Ev
namespace Hy
open PySem PySem.Spec PyProof.Rows L2
open Ev (D Den aw KD NEs dNk cv)
section
variable {K:Type} [DecidableEq K]
inductive EnK (a:KD K) (F:PySem.W.Frag) (G:Hp):NEs K->List (K × D)->Prop where
 | nil:EnK a F G [] []
 | cons {k:K} {b:Addr} {u:Value} {v:V} {x:D} {xs:NEs K} {m:List (K × D)} (hk:Den F G (.ref b) (a.toD k)) (hr:RelV v u) (hv:Den F G v x) (r:EnK a F G xs m):EnK a F G ((k,b,u) :: xs) ((k,x) :: m)
variable {a:KD K} {F:PySem.W.Frag} {G G':Hp}
theorem EnK.mono (e:ag G G'):∀ {xs:NEs K} {m:List (K × D)},EnK a F G xs m->EnK a F G' xs m
 | _,_,.nil=>.nil
 | _,_,.cons h1 h2 h3 r=>.cons (h1.mono e) h2 (h3.mono e) (r.mono e)
theorem EnK.key:∀ {xs:NEs K} {m:List (K × D)},EnK a F G xs m->∀ x ∈ xs,Den F G (.ref x.2.1) (a.toD x.1)
 | _,_,.nil,_,h=>nomatch h
 | _,_,.cons h _ _ r,x,hx=>(List.mem_cons.mp hx).elim (λz=>z ▸ h) (r.key x)
noncomputable def getM (m:List (K × D)) (k:K):Option D:=(m.find? λx=>decide (x.1=k)).map (·.2)
noncomputable def sr (m:List (K × D)) (k:K) (x:D):List (K × D):=if (getM m k).isSome then m.map λy=>if y.1=k then (y.1,x) else y else m++[(k,x)]
theorem EnK.at:∀ {xs:NEs K} {m:List (K × D)},EnK a F G xs m->∀ k,match getM m k with
   | none=>atKey xs k=none
   | some x=>∃ p v,atKey xs k=some p/\RelV v p.2/\Den F G v x
 | _,_,.nil,_=>rfl
 | _,_,.cons (k:=k') (x:=y) (m:=m) (xs:=xs) h1 h2 h3 r,k=>by
   have ih:=r.at k
   unfold getM atKey at *
   by_cases e:k'=k
   · simp only [List.find?_cons,e,decide_true,Option.map_some]
     exact ⟨_,_,rfl,h2,h3⟩
   · simp only [List.find?_cons,e,decide_false]
     exact ih
theorem EnK.isSome {xs:NEs K} {m:List (K × D)} (h:EnK a F G xs m) (k:K):(atKey xs k).isSome=(getM m k).isSome:=by
 have:=h.at k
 cases e:getM m k with
 | none=>rw [e] at this; simp only at this; rw [this]; rfl
 | some x=>rw [e] at this; obtain ⟨p,v,h1,_⟩:=this; rw [h1]; rfl
theorem EnK.snoc {k:K} {b:Addr} {u:Value} {v:V} {x:D} (h1:Den F G (.ref b) (a.toD k)) (h2:RelV v u) (h3:Den F G v x):∀ {xs:NEs K} {m:List (K × D)},EnK a F G xs m->EnK a F G (xs++[(k,b,u)]) (m++[(k,x)])
 | _,_,.nil=>.cons h1 h2 h3 .nil
 | _,_,.cons g1 g2 g3 r=>.cons g1 g2 g3 (r.snoc h1 h2 h3)
theorem EnK.over {k:K} {u:Value} {v:V} {x:D} (h2:RelV v u) (h3:Den F G v x):∀ {xs:NEs K} {m:List (K × D)},EnK a F G xs m->EnK a F G (xs.map (putAt k u)) (m.map λy=>if y.1=k then (y.1,x) else y)
 | _,_,.nil=>.nil
 | _,_,.cons (k:=k') g1 g2 g3 r=>by
   rw [List.map_cons,List.map_cons]
   unfold putAt
   by_cases e:k'=k
   · simp only [e,if_true]
     rw [e] at g1
     exact .cons g1 h2 h3 (r.over h2 h3)
   · simp only [e,if_false]
     exact .cons g1 g2 g3 (r.over h2 h3)
theorem EnK.put {k:K} {b:Addr} {u:Value} {v:V} {x:D} {xs:NEs K} {m:List (K × D)} (h:EnK a F G xs m) (h1:Den F G (.ref b) (a.toD k)) (h2:RelV v u) (h3:Den F G v x):EnK a F G (storedH xs k b u) (sr m k x):=by
 unfold storedH sr
 rw [h.isSome k]
 split
 · exact h.over h2 h3
 · exact h.snoc h1 h2 h3
end
end Hy
namespace Hy
open PySem PySem.Spec PyProof.Rows L2
open Ev (D Den aw KD NEs dNk cv au gY jm jL jN)
section
variable {K:Type} [DecidableEq K] {a:KD K} {hd:a.dep<=7} {X:Cx} {C:Bool} {τ:List Sl} {x:D} {b e ix:Expr} {pos p q:Pos} {k:Nat} {N:Po} {rest:List Stmt} {m:List (K × D)} {key:K}
end
section
variable {K:PySem.W.Frag} {A:Addr->Prop} {H₀ H H':Hp} {τ:List Sl} {B:Nat->List Addr} {σ:L2.St}
end
section
variable {K:Type} [DecidableEq K] {a:KD K} {hd:a.dep<=7} {X:Cx} {C:Bool} {τ:List Sl} {x:D} {b e ix:Expr} {pos p q sp:Pos} {k:Nat} {N:Po} {rest:List Stmt} {m:List (K × D)} {key:K}
end
end Hy
namespace Ev
open PySem PySem.Spec PyProof.Rows L2
section
variable {K:Type} [DecidableEq K] {a:KD K} {hd:a.dep<=7} {X:Cx} {o i e f:Expr} {pos apos cpos:Pos} {td ty tx tk tv:TE}
noncomputable def pU (a:KD K) (hd:a.dep<=7) (P:Program) (w:World) (F:PySem.W.Frag) (td ty tx:TE):TE:=λσ H Q=>td σ H λx H1=>∃ d φ,x=.ref d/\H1 d=some (.ext φ)/\(∀ h,φ h->∃ o,h.get? d=some o/\o.ExactDict)/\ty σ H1 λy H2=>tx σ H2 λz H3=>∃ b k xs,y=.ref b/\cv a hd P w F H3 d xs/\Den F H3 (.ref b) (a.toD k) /\
 ((∃ p v,atKey xs k=some p/\RelV v p.2/\Q v H3)\/(atKey xs k=none/\Q z H3))
theorem l7 (hu:X.A.units + 16 < cLine) (ho:PE X o td) (he:PE X e ty) (hf:PE X f tx) (m:M2 X o "get" apos e f cpos):PE X (.Call (.Attribute o "get" apos) [e,f] [] cpos) (pU a hd X.prog X.w X.K td ty tx):=by
 intro pins s σ H Q I h
 refine wpAny_Call_method m.base m.few m.line PySem.F.plainAttrs_dict PySem.F.slot_dict_get PySem.F.type_dict_get (thn (ho pins s σ H _ I h) λu s1 ⟨x,H1,I1,rx,d,φ,ex,hφ,hx,q1⟩=>?_)
 subst ex
 obtain rfl:u=Value.ref d:=rx
 obtain ⟨ob,g1,g2⟩:=hx _ (show bp X.prog X.w H1 s1.heap d (.ext φ) from I1.hok d _ hφ).1
 refine ⟨⟨ob,g1,g2.1⟩,λc e=>(by cases e; exact ⟨ob,g1,g2.2.1⟩),?_⟩
 rw [m.trees]
 refine Calls.callWith_builtin rfl (Calls.evalArgs_plain (Calls.spliced_cons (thn (he pins s1 σ H1 _ I1 q1) λiv s2 ⟨y,H2,I2,ry,q2⟩=>
   Calls.spliced_cons (thn (hf pins s2 σ H2 _ I2 q2) λfv s3 ⟨z,H3,I3,rz,b,k,xs,ey,D,g,q3⟩=>Calls.spliced_nil ?_))))
 subst ey
 obtain rfl:iv=Value.ref b:=ry
 obtain ⟨hd',dd⟩:=fJ I3 D
 refine call_meetsIn PySem.F.slot_dict_get dd.typeIs PySem.F.entry_dict_get (PySem.F.args_dict_get_3 _ _ _) (meetsH_dict_get_default (kd a hd X.prog X.w) d b hd' fv) ⟨show X.A.units + 1 + 8 < cLine by omega,k,xs,key_is I3 g,dd,?_⟩
 rcases q3 with ⟨p,v,ha,rv,q⟩ | ⟨ha,q⟩
 · rw [ha]
   exact ⟨v,H3,I3.tok _,rv,q⟩
 · rw [ha]
   exact ⟨z,H3,I3.tok _,rz,q⟩
theorem qM (hu:X.A.units + 16 < cLine):OpR X (compareOp .In) (λy x H Q=>∃ d b k xs,x=.ref d/\y=.ref b/\cv a hd X.prog X.w X.K H d xs/\Den X.K H (.ref b) (a.toD k)/\Q (.bl (atKey xs k).isSome) H):=by
 intro pins s σ H x y v u Q I rx ry h
 obtain ⟨d,b,k,xs,rfl,rfl,D,g,q⟩:=h
 cases rx
 cases ry
 obtain ⟨hd',dd⟩:=fJ I D
 exact wpAny_in_heap (show X.A.units + 1 + 8 < cLine by omega) (key_is I g) hd' dd ⟨.bl _,H,I.tok _,rfl,q⟩
theorem mR (hu:X.A.units + 16 < cLine):OpR X (compareOp .NotIn) (λy x H Q=>∃ d b k xs,x=.ref d/\y=.ref b/\cv a hd X.prog X.w X.K H d xs/\Den X.K H (.ref b) (a.toD k)/\Q (.bl (!(atKey xs k).isSome)) H):=by
 intro pins s σ H x y v u Q I rx ry h
 obtain ⟨d,b,k,xs,rfl,rfl,D,g,q⟩:=h
 cases rx
 cases ry
 obtain ⟨hd',dd⟩:=fJ I D
 exact wpAny_notIn_heap (show X.A.units + 1 + 8 < cLine by omega) (key_is I g) hd' dd ⟨.bl _,H,I.tok _,rfl,q⟩
noncomputable def so (a:KD K) (hd:a.dep<=7) (P:Program) (w:World) (F:PySem.W.Frag) (tk tv:TE):TE:=λσ H Q=>∀ p,H p=none->tk σ (upd H p (dNk a hd P w p [])) λy H1=>tv σ H1 λv H2=>∃ b k,y=.ref b/\H2 p=some (dNk a hd P w p [])/\Den F H2 (.ref b) (a.toD k)/\∀ u,RelV v u->Q (.ref p) (upd H2 p (dNk a hd P w p (storedH [] k b u)))
theorem mO (hu:X.A.units + 16 < cLine) (hk:PE X e tk) (hv:PE X f tv):PE X (.Dict [some e] [f] pos) (so a hd X.prog X.w X.K tk tv):=λpins s σ H Q I h=>by
 refine wpAny_Dict_any rfl rfl (by simp) (show 1<=15 by decide) (pairTrees_cons_walk ?_)
 have I0:=I.laid (a:=s.heap.objs.size) (o:=dNk a hd X.prog X.w s.heap.objs.size []) (t':=s.toks) (h':=s.heap.push { cls:=.type "dict",data:=.dict #[] }) (λ_ _ q=>Heap.get?_push_of_some _ q) (Nat.le_refl _)
   ⟨⟨beq_eq_false_iff_ne.mpr (Ne.symm (Nat.ne_of_lt I.big)),_,#[],0,Heap.get?_push_size _ rfl,⟨rfl,rfl,rfl⟩,rfl,rfl,List.nodup_nil⟩,⟨_,Heap.get?_push_size _ rfl⟩,λa1 a2 ⟨z0,o,es,ep,z1,z2⟩ hk=>⟨z0,o,es,ep,hk o z1,z2⟩⟩
 refine thn (hk _ _ σ _ _ I0 (h _ (I.hok.fresh (Nat.le_refl _)))) λkv s1 ⟨y,H1,I1,ry,q1⟩=>thn (hv _ s1 σ H1 _ I1 q1) λvv s2 ⟨v,H2,I2,rv,b,k,ey,hp,g,q2⟩=>pairTrees_nil_walk ?_
 subst ey
 obtain rfl:kv=Value.ref b:=ry
 have D:cv a hd X.prog X.w X.K H2 s.heap.objs.size []:=⟨hp,λ_ z=>nomatch z⟩
 obtain ⟨hd',dd⟩:=fJ I2 D
 unfold storeAll
 rw [List.forIn_cons]
 refine wpAny_bind (wpAny_bind (wpAny_dictSet_heap (hsz:=Nat.zero_le _) (show X.A.units + 8 < cLine by omega) (key_is I2 g) dd λh' dd' hs=>wpAny_pure ?_))
 dsimp only
 rw [List.forIn_nil]
 refine wpAny_pure ?_
 obtain ⟨q,es,ep,hq,h2,h3,h4,_,h5⟩:=dd'
 refine ⟨.ref s.heap.objs.size,_,jF (ob:=dNk a hd X.prog X.w s.heap.objs.size (storedH [] k b vv)) I2 (by rw [hp]; exact True.intro) hs ⟨q,hq⟩ ⟨⟨hd',q,es,ep,hq,h2,h3,h4,h5⟩,⟨q,hq⟩,λa1 a2 ⟨z0,o,es,ep,z1,z2⟩ hk=>⟨z0,o,es,ep,hk o z1,z2⟩⟩,rfl,q2 vv rv⟩
end
end Ev
namespace Hy
open PySem PySem.Spec PyProof.Rows L2
open Ev (D Den aw KD NEs dNk cv Bx au gY l7 mO qM mR)
section
variable {K:Type} [DecidableEq K] {a:KD K} {hd:a.dep<=7} {X:Cx} {C:Bool} {τ:List Sl} {x y:D} {b e f o ix:Expr} {pos p q apos cpos:Pos} {k:Nat} {N:Po} {rest:List Stmt} {m:List (K × D)} {key:K}
end
end Hy
namespace K18
open PySem PySem.Spec PyProof.Rows L2 Hy
noncomputable def top (i:Nat):Stmt:=PySem.Challenge.pw_signsmooth_k18_ladders_known.main.body.getD i (.Pass ⟨0,0,0,0⟩)
theorem dq:ax ["_law_cell_here","_law_bases","_law_row","_law_base","_law_k","_law_mixed"] ["_law_cell_here","_law_bases"] (ai (top 65)):=⟨rfl,rfl,rfl,by decide +kernel,rfl,by decide +kernel,by decide +kernel⟩
theorem eU:ax ["_law_cell_here","_law_most","_law_parts","_law_tracks"] ["_law_cell_here","_law_most"] (ai (top 71)):=⟨rfl,rfl,rfl,by decide +kernel,rfl,by decide +kernel,by decide +kernel⟩
theorem dg:ax ["_law_one","_law_other","_law_rest"] ["_law_one","_law_other"] (ai (top 66)):=⟨rfl,rfl,rfl,by decide +kernel,rfl,by decide +kernel,by decide +kernel⟩
theorem gk:ax ["_law_top","_law_bottom","_law_common"] ["_law_top","_law_bottom"] (ai (top 67)):=⟨rfl,rfl,rfl,by decide +kernel,rfl,by decide +kernel,by decide +kernel⟩
theorem ia:ax ["_law_many","_law_number","_law_k"] ["_law_many"] (ai (top 63)):=⟨rfl,rfl,rfl,by decide +kernel,rfl,by decide +kernel,by decide +kernel⟩
theorem ed:ax ["_law_part","_law_figures","_law_ten_here"] ["_law_part","_law_figures"] (ai (top 69)):=⟨rfl,rfl,rfl,by decide +kernel,rfl,by decide +kernel,by decide +kernel⟩
theorem dZ:ax ["_law_cell_here","_law_tracks","_law_rows","_law_columns","_law_many","_law_figures","_law_parts","_law_steps","_law_k","_law_word_here","_law_at"] ["_law_cell_here","_law_tracks","_law_rows","_law_columns","_law_many","_law_figures"] (ai (top 70)):=⟨rfl,rfl,rfl,by decide +kernel,rfl,by decide +kernel,by decide +kernel⟩
theorem eN:ax ["_law_one","_law_other","_law_most","_law_figures","_law_sizes_here"] ["_law_one","_law_other","_law_most","_law_figures"] (ai (top 72)):=⟨rfl,rfl,rfl,by decide +kernel,rfl,by decide +kernel,by decide +kernel⟩
theorem iy:ax ["_law_ladder_here"] ["_law_ladder_here"] (ai (top 73)):=⟨rfl,rfl,rfl,by decide +kernel,rfl,by decide +kernel,by decide +kernel⟩
theorem cJ:ax ["_law_cell_here","_law_ladder_here","_law_tracks","_law_rows","_law_columns","_law_steps","_law_far","_law_some"] ["_law_cell_here","_law_ladder_here"] (ai (top 75)):=⟨rfl,rfl,rfl,by decide +kernel,rfl,by decide +kernel,by decide +kernel⟩
theorem jZ:ax ["_law_script","_law_k"] ["_law_script","_law_k"] (ai (top 64)):=⟨rfl,rfl,rfl,by decide +kernel,rfl,by decide +kernel,by decide +kernel⟩
theorem g8:ax ["thing"] ["thing"] (ai (top 22)):=⟨rfl,rfl,rfl,by decide +kernel,rfl,by decide +kernel,by decide +kernel⟩
theorem fO:ax ["thing","least","most"] ["thing","least","most"] (ai (top 23)):=⟨rfl,rfl,rfl,by decide +kernel,rfl,by decide +kernel,by decide +kernel⟩
theorem bP:ax ["one","other","greater","lesser","rest"] ["one","other"] (ai (top 25)):=⟨rfl,rfl,rfl,by decide +kernel,rfl,by decide +kernel,by decide +kernel⟩
theorem fq:ax ["thing"] ["thing"] (ai (top 24)):=⟨rfl,rfl,rfl,by decide +kernel,rfl,by decide +kernel,by decide +kernel⟩
theorem gE:ax ["thing"] ["thing"] (ai (top 40)):=⟨rfl,rfl,rfl,by decide +kernel,rfl,by decide +kernel,by decide +kernel⟩
theorem i9:ax ["thing","tracks"] ["thing","tracks"] (ai (top 41)):=⟨rfl,rfl,rfl,by decide +kernel,rfl,by decide +kernel,by decide +kernel⟩
theorem gF:ax ["thing"] ["thing"] (ai (top 42)):=⟨rfl,rfl,rfl,by decide +kernel,rfl,by decide +kernel,by decide +kernel⟩
theorem fA:ax ["thing"] ["thing"] (ai (top 43)):=⟨rfl,rfl,rfl,by decide +kernel,rfl,by decide +kernel,by decide +kernel⟩
theorem ig:ax ["ladder","tracks","step","carried"] ["ladder"] (ai (top 46)):=⟨rfl,rfl,rfl,by decide +kernel,rfl,by decide +kernel,by decide +kernel⟩
theorem gv:ax ["_law_e","_law_named","_law_words","_law_some"] ["_law_e"] (ai (top 68)):=⟨rfl,rfl,rfl,by decide +kernel,rfl,by decide +kernel,by decide +kernel⟩
theorem nH:ax ["ladder","i","j"] ["ladder","i","j"] (ai (top 56)):=⟨rfl,rfl,rfl,by decide +kernel,rfl,by decide +kernel,by decide +kernel⟩
theorem gx:ax ["ladder","rows","columns"] ["ladder","rows","columns"] (ai (top 58)):=⟨rfl,rfl,rfl,by decide +kernel,rfl,by decide +kernel,by decide +kernel⟩
theorem iG:ax ["ladder","rows","columns"] ["ladder","rows","columns"] (ai (top 59)):=⟨rfl,rfl,rfl,by decide +kernel,rfl,by decide +kernel,by decide +kernel⟩
theorem cR:ax ["ladder","rows","columns"] ["ladder","rows","columns"] (ai (top 61)):=⟨rfl,rfl,rfl,by decide +kernel,rfl,by decide +kernel,by decide +kernel⟩
theorem dn:ax ["_law_thing","_law_way","_law_e"] ["_law_thing","_law_way"] (ai (top 76)):=⟨rfl,rfl,rfl,by decide +kernel,rfl,by decide +kernel,by decide +kernel⟩
theorem gc:ax ["_law_thing","_law_due","_law_found"] ["_law_thing","_law_due"] (ai (top 77)):=⟨rfl,rfl,rfl,by decide +kernel,rfl,by decide +kernel,by decide +kernel⟩
theorem df:ax ["_law_cell_here","_law_tracks","_law_some"] ["_law_cell_here","_law_tracks"] (ai (top 74)):=⟨rfl,rfl,rfl,by decide +kernel,rfl,by decide +kernel,by decide +kernel⟩
theorem kR:ax ["_law_script","_law_cell_here","_law_ladder_here","_law_kept","_law_parts","_law_odd","_law_at","_law_step"] ["_law_script"] (ai (top 78)):=⟨rfl,rfl,rfl,by decide +kernel,rfl,by decide +kernel,by decide +kernel⟩
end K18
namespace K18
open PySem PySem.Spec PyProof.Rows L2 Hy
open Ev (D Den aw aU aK)
noncomputable def eH:Int->List Int->List Int
 | _,[]=>[]
 | c,b :: r=>c.fmod b :: eH (c.fdiv b) r
noncomputable def mv (c:Int) (bs:List Int):Int:=bs.foldl (λc b=>c.fdiv b) c
noncomputable def qr (c:Int) (k:Nat) (b:Int):Int:=(((((c * 48271 + (k:Int) * k * 69621 + (k:Int) * 16807 + 11).fmod 2147483647) * 40692 + c + 31 * (k:Int)).fmod 2147483399).fdiv 7).fmod b
noncomputable def nE (c:Int) (bs:List Int):List Int:=(List.range bs.length).map λk=>qr c k (bs.getD k 0)
noncomputable def nums (c:Int) (bs:List Int):List Int:=if (10:Int) ^ (18:Int).toNat<=mr c then eH c bs else nE c bs
theorem gm:∀ (bs:List Int) (c b:Int),eH c (bs++[b])=eH c bs++[(mv c bs).fmod b]
 | [],_,_=>rfl
 | a :: bs,c,b=>by rw [List.cons_append,eH,eH,gm bs]; rfl
theorem fh:∀ (bs:List Int) (c:Int),(eH c bs).length=bs.length
 | [],_=>rfl
 | _ :: bs,c=>congrArg (· + 1) (fh bs _)
theorem fj (c:Int) (bs:List Int):(nums c bs).length=bs.length:=by
 unfold nums
 split
 · exact fh bs c
 · simp [nE]
theorem jS:∀ (bs:List Int) (c:Int),(∀ b ∈ bs,0 < b)->∀ (i:Nat),i < bs.length->0<=(eH c bs).getD i 0/\(eH c bs).getD i 0 < bs.getD i 0
 | b :: bs,c,h,0,_=>by
   have:=h b (List.mem_cons_self ..)
   exact ⟨Int.fmod_nonneg_of_pos c this,Int.fmod_lt_of_pos c this⟩
 | b :: bs,c,h,i + 1,hi=>by
   have:=jS bs (c.fdiv b) (λx hx=>h x (List.mem_cons_of_mem _ hx)) i (by simpa using hi)
   simpa [eH] using this
theorem eo {c:Int} {bs:List Int} (h:∀ b ∈ bs,0 < b) {i:Nat} (hi:i < bs.length):0<=(nums c bs).getD i 0/\(nums c bs).getD i 0 < bs.getD i 0:=by
 unfold nums
 split
 · exact jS bs c h i hi
 · have hp:0 < bs.getD i 0:=h _ (by simp [hi])
   have e:(nE c bs).getD i 0=qr c i (bs.getD i 0):=by simp [nE,hi]
   rw [e]
   exact ⟨Int.fmod_nonneg_of_pos _ hp,Int.fmod_lt_of_pos _ hp⟩
theorem take_snoc {α:Type} {xs:List α} {i:Nat} (d:α) (h:i < xs.length):xs.take (i + 1)=xs.take i++[xs.getD i d]:=by
 rw [List.take_add_one,List.getElem?_eq_getElem h]
 simp [h]
theorem kA {b:Int} (h0:0 < b) (h:b < 2 ^ 60):0 < b/\aK b:=⟨h0,mkD (by omega) (by omega)⟩
noncomputable def bA (ds:List D) (r:Sl):Prop:=∃ (c:Int) (bs:List Int),ds=[.int c,.lst (bs.map .int)]/\bs.length<=10000/\(∀ b ∈ bs,0 < b/\aK b)/\r=.o ((nums c bs).map .int)
noncomputable def frD (q:Rat):D:=.tup [.int q.num,.int (q.den:Nat)]
theorem fB {t b:Int} {x:Rat} (hb:0 < b) (h:(t:Rat)=x * (b:Rat)):x.num=t / (Int.gcd t b:Int)/\((x.den:Nat):Int)=b / (Int.gcd t b:Int):=by
 have hb0:((b.toNat:Nat):Rat) ≠ 0:=λz=>by have:=Rat.natCast_eq_zero_iff.mp z; omega
 have hbb:((b:Int):Rat)=((b.toNat:Nat):Rat):=by rw [<- Rat.intCast_natCast,Int.toNat_of_nonneg (by omega)]
 have e:x=mkRat t b.toNat:=by
   rw [Rat.mkRat_eq_div,h,hbb,Rat.mul_div_cancel hb0]
 have g:b.toNat.gcd t.natAbs=Int.gcd t b:=by
   rw [Int.gcd,Nat.gcd_comm,show b.natAbs=b.toNat by omega]
 have nz:¬ b.toNat=0:=by omega
 constructor
 · rw [e,Rat.num_mkRat,if_neg nz,g]
 · rw [e,Rat.den_mkRat,if_neg nz,g,Int.natCast_ediv,Int.toNat_of_nonneg (by omega)]
theorem den_pos (q:Rat):0 < ((q.den:Nat):Int):=by have:=q.den_pos; omega
theorem qE {b:Int} (hb:0 < b):(b:Rat) ≠ 0:=λz=>by have:=Rat.intCast_eq_zero_iff.mp z; omega
noncomputable def Bd (n:Nat) (i:Int):Prop:=i.natAbs < 2 ^ n
theorem Bd.mono {m n:Nat} {i:Int} (h:Bd m i) (hm:m<=n):Bd n i:=Nat.lt_of_lt_of_le h (Nat.pow_le_pow_right (by decide) hm)
theorem Bd.log {n:Nat} {i:Int} (h:Bd n i) (hn:0 < n):i.natAbs.log2 < n:=by
 rcases Nat.eq_zero_or_pos i.natAbs with z | z
 · rw [z]; exact hn
 · exact (Nat.log2_lt (by omega)).mpr h
theorem Bd.add {n:Nat} {i j:Int} (h:Bd n i) (g:Bd n j):Bd (n + 1) (i + j):=by
 unfold Bd at *
 rw [Nat.pow_succ]
 omega
theorem Bd.neg {n:Nat} {i:Int} (h:Bd n i):Bd n (-i):=by unfold Bd at *; rwa [Int.natAbs_neg]
theorem Bd.sub {n:Nat} {i j:Int} (h:Bd n i) (g:Bd n j):Bd (n + 1) (i - j):=by rw [Int.sub_eq_add_neg]; exact h.add g.neg
theorem Bd.aU {m n:Nat} {i j:Int} (h:Bd m i) (g:Bd n j) (hm:m<=1000000) (hn:n<=1000000):aU i j:=
 .inr (.inr ⟨(h.mono (Nat.le_succ_of_le hm)).log (by omega) |> λz=>by
   rcases Nat.eq_zero_or_pos i.natAbs with q | q
   · rw [q]; decide
   · exact Nat.lt_of_lt_of_le ((Nat.log2_lt (by omega)).mpr h) hm,by
   rcases Nat.eq_zero_or_pos j.natAbs with q | q
   · rw [q]; decide
   · exact Nat.lt_of_lt_of_le ((Nat.log2_lt (by omega)).mpr g) hn⟩)
theorem Bd.aK {n:Nat} {j:Int} (h:Bd n j) (h0:j ≠ 0) (hn:n<=9000):aK j:=⟨h0,Nat.lt_of_lt_of_le ((Nat.log2_lt (by omega)).mpr h) hn⟩
theorem Bd.of_dvd {n:Nat} {i j:Int} (h:Bd n j) (hd:i ∣ j) (h0:j ≠ 0):Bd n i:=Nat.lt_of_le_of_lt (Nat.le_of_dvd (by omega) (Int.natAbs_dvd_natAbs.mpr hd)) h
theorem Bd.ediv {n:Nat} {i:Int} (h:Bd n i) (j:Int):Bd n (i / j):=Nat.lt_of_le_of_lt (Int.natAbs_ediv_le_natAbs i j) h
theorem Bd.gcd {n:Nat} {i j:Int} (h:Bd n j) (h0:j ≠ 0):Bd n (Int.gcd i j:Int):=h.of_dvd (Int.gcd_dvd_right ..) h0
theorem pF {i j:Int} (h0:j ≠ 0):(Int.gcd i j:Int) ≠ 0:=λz=>h0 (by have:=Int.gcd_eq_zero_iff.mp (Int.ofNat_eq_zero.mp z); exact this.2)
theorem hX {i j:Int} (t:Int):t.fdiv (Int.gcd i j:Int)=t / (Int.gcd i j:Int):=Int.fdiv_eq_ediv_of_nonneg _ (Int.natCast_nonneg _)
structure Sq (n:Nat) (q:Rat):Prop where
 num:Bd n q.num
 den:Bd n (q.den:Nat)
theorem Sq.mono {m n:Nat} {q:Rat} (h:Sq m q) (hm:m<=n):Sq n q:=⟨h.num.mono hm,h.den.mono hm⟩
theorem Sq.fB {n:Nat} {t b:Int} {x:Rat} (hb:0 < b) (h:(t:Rat)=x * (b:Rat)) (h1:Bd n t) (h2:Bd n b):Sq n x:=by
 obtain ⟨e1,e2⟩:=K18.fB hb h
 exact ⟨by rw [e1]; exact h1.ediv _,by rw [e2]; exact h2.ediv _⟩
noncomputable def whl (x:D):Bool:=du .int x && !du .bool x
noncomputable def cq (ds:List D) (r:Sl):Prop:=∃ x,ds=[x]/\r=.d (.bl (whl x))
noncomputable def bt (ds:List D) (r:Sl):Prop:=∃ a b:Int,ds=[.int a,.int b]/\r=.d (.int (Int.gcd a b:Int))
theorem di (i:Int):mr i=(i.natAbs:Int):=by unfold mr; omega
noncomputable def ft:D->Bool
 | .tup [.int a,.int b]=>decide (1<=b) && decide ((Int.gcd a b:Int)=1)
 | _=>false
theorem nK (q:Rat):ft (frD q)=true:=by
 have h1:=den_pos q
 have h2:Int.gcd q.num (q.den:Nat)=1:=q.reduced
 show (decide ((1:Int)<=(q.den:Nat)) && decide ((Int.gcd q.num (q.den:Nat):Int)=1))=true
 rw [h2,decide_eq_true (show (1:Int)<=(q.den:Nat) by omega)]
 rfl
theorem lZ {xs:List D} (h:xs.length ≠ 2):ft (.tup xs)=false:=by
 unfold ft
 split
 · rename_i e; cases e; exact absurd rfl h
 · rfl
noncomputable def bT (ds:List D) (r:Sl):Prop:=∃ x,ds=[x]/\r=.d (.bl (ft x))
noncomputable abbrev Stp:=Str × Nat × Rat
noncomputable def stD (s:Stp):D:=.tup [.str s.1,.int (s.2.1:Nat),frD s.2.2]
noncomputable def okS (T:Nat) (s:Stp):Prop:=0<=s.2.2.num/\((s.1 = "weigh" /\ s.2.1 < T)\/((s.1 = "down" \/ s.1 = "up")/\s.2.1 + 1 < T))
noncomputable def cA (T R C:Nat) (ss:List Stp):D:=.tup [.int T,.int R,.int C,.lst (ss.map stD)]
structure okL (T R C:Nat) (ss:List Stp):Prop where
 t1:1<=T
 t7:T<=7
 r1:1<=R
 rT:R<=T
 c1:1<=C
 cT:C<=T
 len:ss.length<=400
 st:∀ i,i < ss.length->okS T (ss.getD i ("weigh",0,0))
section
variable {P:Program} {w:World} {K:PySem.W.Frag} {mg:Str->Option Value} {base:Heap} {k:Nat} {f:Addr} {fd:FuncData} {qual:Str}
theorem gJ (F:Fun K "_law_numbers" qual (top 65) f fd) (hb:∀ x ∈ ak,mg x=none):aO P w K mg base CX0 (k + 1) f fd ["_law_cell_here","_law_bases"] (spD K bA):=by
 refine fnD F dq hb (by rintro _ _ ⟨_,_,rfl,_⟩; rfl) ?_
 rintro _ _ ⟨c,bs,rfl,hl,hbs,rfl⟩ cdv A outer s H E b
 have nd:=dq.nd
 have hp:∀ i,i < bs.length->0 < bs.getD i 0/\aK (bs.getD i 0):=λi hi=>hbs _ (by simp [hi])
 refine aE 2 nd (a6 ah) ?_
 refine bo (aY (cY b (aa (ae 0) ah) ib) (aD af af (jh ⟨by decide,by decide,by decide⟩)) p7) (λh=>?_) λh=>?_
 · refine je 3 (λi τ=>∃ s3,τ=[.d (.int (mv c (bs.take i))),.d (.lst (bs.map .int)),.o ((eH c (bs.take i)).map .int),s3,.un,.un]) b nd (jc (ae 1)) rE ⟨_,rfl⟩ (λi hi τ h=>?_) λτ h=>?_
   · obtain ⟨s3,rfl⟩:=h
     have hi:i < bs.length:=by simpa using hi
     obtain ⟨p1,p2⟩:=hp i hi
     refine ir 2 (aD (ae 0) (ae 3) (bj (by omega))) ?_ ?_
     · rw [List.length_map,fh,List.length_take]; omega
     refine aE 0 nd (aD (ae 0) (ae 3) (cC p2)) (bD ?_)
     apply ex1
     show [Sl.d (.int ((mv c (bs.take i)).fdiv (bs.getD i 0))),_,Sl.o _,_,_,_]=_
     rw [take_snoc 0 hi,gm,List.map_append]
     unfold mv
     rw [List.foldl_append]
     rfl
   · obtain ⟨s3,rfl⟩:=h
     refine me 2 ?_
     rw [List.length_map,List.take_of_length_le (Nat.le_refl _)]
     unfold nums
     rw [if_pos (of_decide_eq_true h)]
 · refine qj 4 3 (λi τ=>∃ s3 s4 s5,τ=[.d (.int c),.d (.lst (bs.map .int)),.o (((List.range i).map λk=>qr c k (bs.getD k 0)).map .int),s3,s4,s5]) b nd (qR b (ae 1)) qY ⟨_,_,_,rfl⟩ (λi hi τ h=>?_) λτ h=>?_
   · obtain ⟨s3,s4,s5,rfl⟩:=h
     have hi:i < bs.length:=by rw [dC,List.length_map] at hi; exact hi
     obtain ⟨p1,p2⟩:=hp i hi
     refine aE 5 nd (aD (aD (aD (aD (aD (ae 0) af (bY (mkR (by decide)))) (aD (aD (ae 4) (ae 4) (bY (mkL (by omega)))) af (bY (mkR (by decide)))) a8) (aD (ae 4) af (bY (mkR (by decide)))) a8) af a8) af (bj (by decide))) ?_
     refine ir 2 (aD (aD (aD (aD (aD (aD (ae 5) af (bY (mkR (by decide)))) (ae 0) a8) (aD af (ae 4) (bY (mkL (by decide)))) a8) af (bj (by decide))) af (cC (mkD (by decide) (by decide)))) (ae 3) (bj (by omega))) ?_ (bD ?_)
     · rw [List.length_map,List.length_map,List.length_range]; omega
     apply ex3
     rw [List.range_succ,List.map_append,List.map_append]
     rfl
   · obtain ⟨s3,s4,s5,rfl⟩:=h
     refine me 2 ?_
     rw [dC,List.length_map]
     unfold nums
     rw [if_neg (of_decide_eq_false h)]
     rfl
theorem ie (F:Fun K "is_whole" qual (top 22) f fd) (hb:∀ x ∈ ak,mg x=none):aO P w K mg base CX0 (k + 1) f fd ["thing"] (spD K cq):=by
 refine fnD F g8 hb (by rintro _ _ ⟨_,rfl,_⟩; rfl) ?_
 rintro _ _ ⟨x,rfl,rfl⟩ cdv A outer s H E b
 exact aH (d8 (bW .int b (ae 0)) λh=>(fF (rl (bW .bool b (ae 0))))) rfl
theorem dk (F:Fun K "common_divisor" qual (top 25) f fd) (hb:∀ x ∈ ak,mg x=none):aO P w K mg base CX0 (k + 1) f fd ["one","other"] (spD K bt):=by
 refine fnD F bP hb (by rintro _ _ ⟨_,_,rfl,_⟩; rfl) ?_
 rintro _ _ ⟨x,y,rfl,rfl⟩ cdv A outer s H E b
 have nd:=bP.nd
 refine aE 2 nd (cY b (aa (ae 0) ah) ib) (aE 3 nd (cY b (aa (ae 1) ah) ib) ?_)
 rw [di,di]
 refine jQ (λn t τ=>∃ (g:Nat) (s4:Sl),Nat.gcd g n=Int.gcd x y/\t=(!decide ((n:Int)=0))/\τ=[.d (.int x),.d (.int y),.d (.int g),.d (.int n),s4]) b ⟨_,_,_,_,rfl,rfl,rfl⟩ (λn t τ h=>?_) (λn τ h=>?_) λn τ h=>?_
 · obtain ⟨g,s4,_,rfl,rfl⟩:=h
   exact aY (ae 3) af jb
 · obtain ⟨g,s4,hg,ht,rfl⟩:=h
   have hl:n ≠ 0:=λz=>by simp [z] at ht
   have e:(g:Int).fmod n=((g % n:Nat):Int):=by rw [Int.fmod_eq_emod_of_nonneg _ (by omega)]; rfl
   refine aE 4 nd (aD (ae 2) (ae 3) (bj (by omega))) ?_
   rw [e]
   refine aE 2 nd (ae 3) (aE 3 nd (ae 4) (bD ⟨g % n,_,Nat.mod_lt g (Nat.pos_of_ne_zero hl),n,_,?_,rfl,rfl⟩))
   rw [<- hg,Nat.gcd_comm n,<- Nat.gcd_rec,Nat.gcd_comm]
 · obtain ⟨g,s4,hg,ht,rfl⟩:=h
   have hl:n=0:=by simpa using ht
   refine aH (ae 2) ?_
   rw [<- hg,hl,Nat.gcd_zero_right]
theorem eD (F:Fun K "is_fraction" qual (top 24) f fd) (hb:∀ x ∈ ak,mg x=none) (c_is_whole:Cal P w K mg base k "is_whole" cq) (c_common_divisor:Cal P w K mg base k "common_divisor" bt):aO P w K mg base CX0 (k + 1) f fd ["thing"] (spD K bT):=by
 refine fnD F fq hb (by rintro _ _ ⟨_,rfl,_⟩; rfl) ?_
 rintro _ _ ⟨x,rfl,rfl⟩ cdv A outer s H E b
 by_cases ht:du .tuple x=true
 · obtain ⟨xs,rfl⟩:∃ xs,x=.tup xs:=by cases x <;> first | exact ⟨_,rfl⟩ | cases ht
   refine bo (PW.pt (b8 (bc (a7 (bW .tuple b (ae 0)))) λh=>(dh (aY (cY b (aa (ae 0) ah) eI) af jb)))) (λh=>?_) λh=>?_
   · refine aH cx ?_
     have h:(!decide ((xs.length:Int)=2))=true:=h
     have:xs.length ≠ 2:=λz=>by rw [z] at h; cases h
     rw [lZ this]
   · have h:(!decide ((xs.length:Int)=2))=false:=h
     have h2:xs.length=2:=by simp at h; omega
     obtain ⟨u,v,rfl⟩:∃ u v,xs=[u,v]:=by
       match xs,h2 with
       | [u,v],_=>exact ⟨u,v,rfl⟩
     refine bo (PW.pt (b8 (bc (a7 (x_call b c_is_whole (aa (aJ (ae 0) af (aL (aA (i:=0) rfl))) ah) ⟨_,rfl,rfl⟩))) λh=>(dh (bc (a7 (x_call b c_is_whole (aa (aJ (ae 0) af (aL (aA (i:=1) rfl))) ah) ⟨_,rfl,rfl⟩)))))) (λh=>?_) λh=>?_
     · refine aH cx ?_
       have:ft (.tup [u,v])=false:=by cases u <;> cases v <;> first | rfl | cases h
       rw [this]
     · obtain ⟨i,j,rfl,rfl⟩:∃ i j,u=.int i/\v=.int j:=by cases u <;> cases v <;> first | exact ⟨_,_,rfl,rfl⟩ | cases h
       exact aH (d8 (iz (aJ (ae 0) af (aL (aA (i:=1) rfl))) af p7) λh=>(fF (iz (x_call b c_common_divisor (aa (aJ (ae 0) af (aL (aA (i:=0) rfl))) (aa (aJ (ae 0) af (aL (aA (i:=1) rfl))) ah)) ⟨_,_,rfl,rfl⟩) af g9))) rfl
 · have e:du .tuple x=false:=by simpa using ht
   have ef:ft x=false:=by cases x <;> first | rfl | cases e
   refine bo (PW.pt (b8 (q:=true) (bc (a7 (bW .tuple b (ae 0)))) λh=>(by rw [e] at h; cases h))) (λh=>?_) λh=>?_
   · refine aH cx ?_
     rw [ef]
   · rw [Bool.or_true] at h; cases h
end
noncomputable def isW:D->Bool
 | .tup [.int a,.int b]=>(decide (1<=b) && decide ((Int.gcd a b:Int)=1)) && decide (a ≥ 0)
 | _=>false
theorem pT {x:D} (h:ft x=false):isW x=false:=by
 unfold isW
 split
 · have h:(decide _ && decide _)=false:=h
   rw [h]; rfl
 · rfl
theorem ly {x:D} (h:ft x=true):∃ a b,x=.tup [.int a,.int b]:=by
 unfold ft at h
 split at h
 · exact ⟨_,_,rfl⟩
 · cases h
noncomputable def cu (ds:List D) (r:Sl):Prop:=∃ x:D,ds=[x]/\r=.d (.bl (isW x))
noncomputable def aW:D->Int->Int->Bool
 | .int i,l,m=>decide (l<=i) && decide (i<=m)
 | _,_,_=>false
theorem kz (x:D) (l m:Int) (h:whl x=false):aW x l m=false:=by cases x <;> first | rfl | cases h
noncomputable def bz (ds:List D) (r:Sl):Prop:=∃ (x:D) (l m:Int),ds=[x,.int l,.int m]/\r=.d (.bl (aW x l m))
noncomputable def isS (T:Int):D->Bool
 | .tup [u,n,q]=>isW q && (if Ev.eqD u (.str "weigh") then aW n 0 (T - 1) else inS ["down","up"] u && aW n 0 (T - 2))
 | _=>false
theorem ny {T:Int} {xs:List D} (h:xs.length ≠ 3):isS T (.tup xs)=false:=by
 unfold isS
 split
 · rename_i e; cases e; exact absurd rfl h
 · rfl
noncomputable def cZ (ds:List D) (r:Sl):Prop:=∃ (x:D) (T:Int),ds=[x,.int T]/\(∀ u n q,x=.tup [u,n,q]->flD u=true/\Ev.cB u)/\r=.d (.bl (isS T x))
section
variable {P:Program} {w:World} {K:PySem.W.Frag} {mg:Str->Option Value} {base:Heap} {k:Nat} {f:Addr} {fd:FuncData} {qual:Str}
theorem fK (F:Fun K "is_weight" qual (top 40) f fd) (hb:∀ x ∈ ak,mg x=none) (c_is_fraction:Cal P w K mg base k "is_fraction" bT):aO P w K mg base CX0 (k + 1) f fd ["thing"] (spD K cu):=by
 refine fnD F gE hb (by rintro _ _ ⟨_,rfl,_⟩; rfl) ?_
 rintro _ _ ⟨x,rfl,rfl⟩ cdv A outer s H E b
 cases hf:ft x with
 | false=>
   rw [pT hf]
   exact aH (d8 (p:=false) (q:=true) (x_call b c_is_fraction (aa (ae 0) ah) ⟨x,rfl,by rw [hf]⟩) λh=>nomatch h) rfl
 | true=>
   obtain ⟨i,j,rfl⟩:=ly hf
   exact aH (d8 (x_call b c_is_fraction (aa (ae 0) ah) ⟨_,rfl,rfl⟩) λh=>(fF (iz (aJ (ae 0) af (aL (aA (i:=0) rfl))) af p7))) rfl
theorem eK (F:Fun K "is_between" qual (top 23) f fd) (hb:∀ x ∈ ak,mg x=none) (c_is_whole:Cal P w K mg base k "is_whole" cq):aO P w K mg base CX0 (k + 1) f fd ["thing","least","most"] (spD K bz):=by
 refine fnD F fO hb (by rintro _ _ ⟨_,_,_,rfl,_⟩; rfl) ?_
 rintro _ _ ⟨x,l,m,rfl,rfl⟩ cdv A outer s H E b
 cases hw:whl x with
 | false=>
   rw [kz x l m hw]
   exact aH (d8 (p:=false) (q:=true) (x_call b c_is_whole (aa (ae 0) ah) ⟨x,rfl,by rw [hw]⟩) λh=>nomatch h) rfl
 | true=>
   cases x with
   | int i=>exact aH (d8 (x_call b c_is_whole (aa (ae 0) ah) ⟨_,rfl,rfl⟩) λh=>(fF (mT (ae 1) (ae 0) (ae 2) rH rH).1)) rfl
   | _=>cases hw
theorem il (F:Fun K "is_step" qual (top 41) f fd) (hb:∀ x ∈ ak,mg x=none) (c_is_betweenA:Cal P w K mg base k "is_between" bz) (c_is_weight2:Cal P w K mg base k "is_weight" cu):aO P w K mg base CX0 (k + 1) f fd ["thing","tracks"] (spD K cZ):=by
 refine fnD F i9 hb (by rintro _ _ ⟨_,_,rfl,_⟩; rfl) ?_
 rintro _ _ ⟨x,T,rfl,hx,rfl⟩ cdv A outer s H E b
 by_cases ht:du .tuple x=true
 · obtain ⟨xs,rfl⟩:∃ xs,x=.tup xs:=by cases x <;> first | exact ⟨_,rfl⟩ | cases ht
   by_cases h3:xs.length=3
   · obtain ⟨u,n,q,rfl⟩:∃ u n q,xs=[u,n,q]:=by
       match xs,h3 with
       | [u,n,q],_=>exact ⟨u,n,q,rfl⟩
     obtain ⟨fu,eu⟩:=hx u n q rfl
     refine bo (PW.pt (b8 (bc (a7 (bW .tuple b (ae 0)))) λh=>(b8 (aY (cY b (aa (ae 0) ah) eI) af jb) λh=>(dh (bc (a7 (x_call b c_is_weight2 (aa (aJ (ae 0) af (aL (aA (i:=2) rfl))) ah) ⟨q,rfl,rfl⟩))))))) (λh=>?_) λh=>?_
     · refine aH cx ?_
       have h:(!isW q)=true:=h
       have:isW q=false:=by simpa using h
       show _=Sl.d (.bl (isW q && _))
       rw [this]
       rfl
     · have h:(!isW q)=false:=h
       have hw:isW q=true:=by simpa using h
       refine bo (aY (aJ (ae 0) af (aL (aA (i:=0) rfl))) aN (nP b eu (by decide +kernel))) (λh=>?_) λh=>?_
       · refine aH (x_call b c_is_betweenA (aa (aJ (ae 0) af (aL (aA (i:=1) rfl))) (aa af (aa (aD (ae 1) af fZ) ah))) ⟨_,_,_,rfl,rfl⟩) ?_
         show _=Sl.d (.bl (isW q && (if Ev.eqD u (.str "weigh") then _ else _)))
         rw [hw,if_pos h]
         rfl
       · refine aH (d8 (iz (aJ (ae 0) af (aL (aA (i:=0) rfl))) (cG (aa aN (aa aN ah))) (rR (us:=["down","up"]) fu)) λh=>(fF (x_call b c_is_betweenA (aa (aJ (ae 0) af (aL (aA (i:=1) rfl))) (aa af (aa (aD (ae 1) af fZ) ah))) ⟨_,_,_,rfl,rfl⟩))) ?_
         show _=Sl.d (.bl (isW q && (if Ev.eqD u (.str "weigh") then _ else _)))
         rw [hw,if_neg (by rw [h]; decide)]
         rfl
   · refine bo (PW.pt (b8 (bc (a7 (bW .tuple b (ae 0)))) λh=>(b8 (q:=true) (aY (cY b (aa (ae 0) ah) eI) af jb) ?_))) (λh=>?_) λh=>?_
     · intro z
       have z:(!decide ((xs.length:Int)=3))=false:=z
       rw [decide_eq_false (by omega)] at z
       cases z
     · exact aH cx (by rw [ny h3])
     · have z:(!decide ((xs.length:Int)=3) || true)=false:=h
       rw [Bool.or_true] at z
       cases z
 · have e:du .tuple x=false:=by simpa using ht
   have ef:isS T x=false:=by cases x <;> first | rfl | cases e
   refine bo (PW.pt (b8 (q:=true) (bc (a7 (bW .tuple b (ae 0)))) λh=>(by rw [e] at h; cases h))) (λh=>?_) λh=>?_
   · refine aH cx ?_
     rw [ef]
   · rw [Bool.or_true] at h; cases h
end
noncomputable def stO (x:D):Prop:=∀ u n q,x=.tup [u,n,q]->flD u=true/\Ev.cB u
noncomputable def iV (T:Int):D->Bool
 | .lst xs=>decide (xs.length<=400) && xs.all (isS T)
 | _=>false
noncomputable def tw (r c s:D):D->Bool
 | .int T=>(aW r 1 T && aW c 1 T) && iV T s
 | _=>false
noncomputable def isL:D->Bool
 | .tup [t,r,c,s]=>aW t 1 7 && tw r c s t
 | _=>false
theorem mB {xs:List D} (h:xs.length ≠ 4):isL (.tup xs)=false:=by
 unfold isL
 split
 · rename_i e; cases e; exact absurd rfl h
 · rfl
noncomputable def bG (ds:List D) (r:Sl):Prop:=∃ x:D,ds=[x]/\(∀ t r c xs,x=.tup [t,r,c,.lst xs]->∀ y ∈ xs,stO y)/\r=.d (.bl (isL x))
theorem lX {x:D} {l m:Int} (h:aW x l m=true):∃ i,x=.int i:=by cases x <;> first | exact ⟨_,rfl⟩ | cases h
section
variable {P:Program} {w:World} {K:PySem.W.Frag} {mg:Str->Option Value} {base:Heap} {k:Nat} {f:Addr} {fd:FuncData} {qual:Str}
theorem fP (F:Fun K "is_ladder" qual (top 42) f fd) (hb:∀ x ∈ ak,mg x=none) (y_MOST:∃ t,mg "MOST" = some (.int 7 t)) (y_MOST_STEPS:∃ t,mg "MOST_STEPS" = some (.int 400 t)) (c_is_betweenA:Cal P w K mg base k "is_between" bz) (c_is_step2:Cal P w K mg base k "is_step" cZ):aO P w K mg base CX0 (k + 1) f fd ["thing"] (spD K bG):=by
 refine fnD F gF hb (by rintro _ _ ⟨_,rfl,_⟩; rfl) ?_
 rintro _ _ ⟨x,rfl,hx,rfl⟩ cdv A outer s H E b
 by_cases ht:du .tuple x=true
 · obtain ⟨xs,rfl⟩:∃ xs,x=.tup xs:=by cases x <;> first | exact ⟨_,rfl⟩ | cases ht
   by_cases h4:xs.length=4
   · obtain ⟨t,r,c,z,rfl⟩:∃ t r c z,xs=[t,r,c,z]:=by
       match xs,h4 with
       | [t,r,c,z],_=>exact ⟨t,r,c,z,rfl⟩
     refine bo (PW.pt (b8 (bc (a7 (bW .tuple b (ae 0)))) λh=>(b8 (aY (cY b (aa (ae 0) ah) eI) af jb) λh=>(dh (bc (a7 (x_call b c_is_betweenA (aa (aJ (ae 0) af (aL (aA (i:=0) rfl))) (aa af (aa (lG y_MOST) ah))) ⟨_,_,_,rfl,rfl⟩))))))) (λh=>?_) λh=>?_
     · refine aH cx ?_
       have h:(!aW t 1 7)=true:=h
       have h:aW t 1 7=false:=by simpa using h
       show _=Sl.d (.bl (aW t 1 7 && _))
       rw [h]
       rfl
     · have h:(!aW t 1 7)=false:=h
       have ht:aW t 1 7=true:=by simpa using h
       obtain ⟨T,rfl⟩:=lX ht
       have eL:isL (.tup [.int T,r,c,z])=((aW r 1 T && aW c 1 T) && iV T z):=by
         show (aW (.int T) 1 7 && _)=_
         rw [ht]
         rfl
       rw [eL]
       refine bo (PW.pt (b8 (bc (a7 (x_call b c_is_betweenA (aa (aJ (ae 0) af (aL (aA (i:=1) rfl))) (aa af (aa (aJ (ae 0) af (aL (aA (i:=0) rfl))) ah))) ⟨_,_,_,rfl,rfl⟩))) λh=>(dh (bc (a7 (x_call b c_is_betweenA (aa (aJ (ae 0) af (aL (aA (i:=2) rfl))) (aa af (aa (aJ (ae 0) af (aL (aA (i:=0) rfl))) ah))) ⟨_,_,_,rfl,rfl⟩)))))) (λh=>?_) λh=>?_
       · refine aH cx ?_
         cases e1:aW r 1 T with
         | false=>rfl
         | true=>
           cases e2:aW c 1 T with
           | false=>rfl
           | true=>rw [e1,e2] at h; cases h
       · have hr:aW r 1 T=true:=by
           cases e1:aW r 1 T with
           | true=>rfl
           | false=>rw [e1] at h; cases h
         have hc:aW c 1 T=true:=by
           cases e1:aW c 1 T with
           | true=>rfl
           | false=>rw [hr,e1] at h; cases h
         rw [hr,hc]
         by_cases hz:du .list z=true
         · obtain ⟨ys,rfl⟩:∃ ys,z=.lst ys:=by cases z <;> first | exact ⟨_,rfl⟩ | cases hz
           refine bo (PW.pt (b8 (bc (a7 (bW .list b (aJ (ae 0) af (aL (aA (i:=3) rfl)))))) λh=>(dh (aY (cY b (aa (aJ (ae 0) af (aL (aA (i:=3) rfl))) ah) jM) (lG y_MOST_STEPS) qv)))) (λh=>?_) λh=>?_
           · have h:decide ((ys.length:Int) > 400)=true:=h
             have:=of_decide_eq_true h
             refine aH cx ?_
             show _=Sl.d (.bl (true && (decide (ys.length<=400) && _)))
             rw [decide_eq_false (by omega)]
             rfl
           · have h:decide ((ys.length:Int) > 400)=false:=h
             have:=of_decide_eq_false h
             refine aH (cY b (aa (br (r6 (cmp 0 (f:=λl=>.bl (isS T (ys.getD l .non))) b (jc (aJ (ae 0) af (aL (aA (i:=3) rfl)))) rY (by omega) λl hl s0 H0 fp=>(x_call (b.comp s0 H0 _ fp) c_is_step2 (aa (ae 0) (aa (aJ (ae 1) af (aL (aA (i:=0) rfl))) ah)) ⟨_,T,rfl,?_,rfl⟩)))) ah) (rB b.calm ((List.range ys.length).map λl=>isS T (ys.getD l .non)) (by rw [List.map_map]; rfl))) ?_
             · have:ys.getD l .non ∈ ys:=by simp [List.getD,hl]
               exact hx _ _ _ ys rfl _ this
             · show _=Sl.d (.bl (true && (decide (ys.length<=400) && ys.all (isS T))))
               rw [decide_eq_true (by omega)]
               have e:(List.range ys.length).map (λl=>isS T (ys.getD l .non))=ys.map (isS T):=by
                 refine List.ext_getElem (by simp) λl h1 h2=>?_
                 have:l < ys.length:=by simpa using h2
                 simp [this]
               rw [e,List.all_map]
               rfl
         · have e:du .list z=false:=by simpa using hz
           have ef:iV T z=false:=by cases z <;> first | rfl | cases e
           refine bo (PW.pt (b8 (q:=true) (bc (a7 (bW .list b (aJ (ae 0) af (aL (aA (i:=3) rfl)))))) λh=>(by rw [e] at h; cases h))) (λh=>?_) λh=>?_
           · refine aH cx ?_
             rw [ef]
             rfl
           · rw [Bool.or_true] at h; cases h
   · refine bo (PW.pt (b8 (bc (a7 (bW .tuple b (ae 0)))) λh=>(b8 (q:=true) (aY (cY b (aa (ae 0) ah) eI) af jb) ?_))) (λh=>?_) λh=>?_
     · intro z
       have z:(!decide ((xs.length:Int)=4))=false:=z
       rw [decide_eq_false (by omega)] at z
       cases z
     · exact aH cx (by rw [mB h4])
     · have z:(!decide ((xs.length:Int)=4) || true)=false:=h
       rw [Bool.or_true] at z
       cases z
 · have e:du .tuple x=false:=by simpa using ht
   have ef:isL x=false:=by cases x <;> first | rfl | cases e
   refine bo (PW.pt (b8 (q:=true) (bc (a7 (bW .tuple b (ae 0)))) λh=>(by rw [e] at h; cases h))) (λh=>?_) λh=>?_
   · refine aH cx ?_
     rw [ef]
   · rw [Bool.or_true] at h; cases h
end
structure Cls (K:PySem.W.Frag) (mg:Str->Option Value) (cl:Nat->Addr) (cs:List Nat):Prop where
 lt:∀ c ∈ cs,c < 19
 ex:∃ S,mg "SmoothError" = some (.ref S)/\∀ c ∈ cs,Hx.nJ K (cl c) S/\PySem.W.exmOne K (.ref (cl c)) (.ref S)=some true
 nm:∀ c,c < 19->mg (wordOf c)=some (.ref (cl c))
 kit:∀ c ∈ cs,∀ i,i < 19->PySem.W.kitOne K (.ref (cl c)) (.ref (cl i))=some (decide (c=i))
 val:∀ c ∈ cs,PySem.W.kitOne K (.ref (cl c)) (.type "ValueError")=some true
 vn:mg "ValueError" = none
theorem rO {c:Nat} (h:c < 19):((List.range 19).filter λi=>decide (c=i)).map (λi=>D.str (wordOf i))=[.str (wordOf c)]:=by
 rcases (by omega:c=0\/c=1\/c=2\/c=3\/c=4\/c=5\/c=6\/c=7\/c=8\/c=9\/c=10\/c=11\/c=12\/c=13\/c=14\/c=15\/c=16\/c=17\/c=18) with rfl | rfl | rfl | rfl | rfl | rfl | rfl | rfl | rfl | rfl | rfl | rfl | rfl | rfl | rfl | rfl | rfl | rfl | rfl <;> rfl
noncomputable def nmD (c:Nat):List D:=[D.bl (decide (c=0)),D.bl (decide (c=1)),D.bl (decide (c=2)),D.bl (decide (c=3)),D.bl (decide (c=4)),D.bl (decide (c=5)),D.bl (decide (c=6)),D.bl (decide (c=7)),D.bl (decide (c=8)),D.bl (decide (c=9)),D.bl (decide (c=10)),D.bl (decide (c=11)),D.bl (decide (c=12)),D.bl (decide (c=13)),D.bl (decide (c=14)),D.bl (decide (c=15)),D.bl (decide (c=16)),D.bl (decide (c=17)),D.bl (decide (c=18))]
theorem sQ {c i:Nat} (h:i < 19):(nmD c)[i]?=some (D.bl (decide (c=i))):=by
 rcases (by omega:i=0\/i=1\/i=2\/i=3\/i=4\/i=5\/i=6\/i=7\/i=8\/i=9\/i=10\/i=11\/i=12\/i=13\/i=14\/i=15\/i=16\/i=17\/i=18) with rfl | rfl | rfl | rfl | rfl | rfl | rfl | rfl | rfl | rfl | rfl | rfl | rfl | rfl | rfl | rfl | rfl | rfl | rfl <;> rfl
noncomputable def wdD:List D:=[D.str "NoFraction",D.str "NoTable",D.str "NoChoice",D.str "NoSquare",D.str "NoFit",D.str "NoUndoing",D.str "NoLadder",D.str "TooMany",D.str "NoPaper",D.str "NoRow",D.str "NoStairs",D.str "NoNumber",D.str "NoCorner",D.str "NoName",D.str "NoStep",D.str "NoWeight",D.str "NoDeed",D.str "NoText",D.str "NoWord"]
theorem tG {i:Nat} (h:i < 19):wdD[i]?=some (D.str (wordOf i)):=by
 rcases (by omega:i=0\/i=1\/i=2\/i=3\/i=4\/i=5\/i=6\/i=7\/i=8\/i=9\/i=10\/i=11\/i=12\/i=13\/i=14\/i=15\/i=16\/i=17\/i=18) with rfl | rfl | rfl | rfl | rfl | rfl | rfl | rfl | rfl | rfl | rfl | rfl | rfl | rfl | rfl | rfl | rfl | rfl | rfl <;> rfl
section
variable {P:Program} {w:World} {K:PySem.W.Frag} {mg:Str->Option Value} {base:Heap} {k:Nat} {f:Addr} {fd:FuncData} {qual:Str}
set_option maxHeartbeats 2000000 in
theorem ki {cl:Nat->Addr} {cs:List Nat} {c:Nat} (F:Fun K "_law_word" qual (top 68) f fd) (hb:∀ x ∈ ak,mg x=none) (hbind:Binds K fd ["_law_e"] []) (Z:Cls K mg cl cs) (hc:c ∈ cs):cc P w K mg base cl (k + 1) f c:=by
 refine fnW F gv hbind λcdv A outer s H ck=>?_
 have nd:=gv.nd
 have lt:=Z.lt c hc
 obtain ⟨S,hS,hx⟩:=Z.ex
 have O:Hx.bL K (cl c):=(hx c hc).1.at_
 have hbi:mg "isinstance" = none:=hb _ (by decide)
 have m0:mg "NoFraction" = some (.ref (cl 0)):=Z.nm 0 (by decide)
 have m1:mg "NoTable" = some (.ref (cl 1)):=Z.nm 1 (by decide)
 have m2:mg "NoChoice" = some (.ref (cl 2)):=Z.nm 2 (by decide)
 have m3:mg "NoSquare" = some (.ref (cl 3)):=Z.nm 3 (by decide)
 have m4:mg "NoFit" = some (.ref (cl 4)):=Z.nm 4 (by decide)
 have m5:mg "NoUndoing" = some (.ref (cl 5)):=Z.nm 5 (by decide)
 have m6:mg "NoLadder" = some (.ref (cl 6)):=Z.nm 6 (by decide)
 have m7:mg "TooMany" = some (.ref (cl 7)):=Z.nm 7 (by decide)
 have m8:mg "NoPaper" = some (.ref (cl 8)):=Z.nm 8 (by decide)
 have m9:mg "NoRow" = some (.ref (cl 9)):=Z.nm 9 (by decide)
 have m10:mg "NoStairs" = some (.ref (cl 10)):=Z.nm 10 (by decide)
 have m11:mg "NoNumber" = some (.ref (cl 11)):=Z.nm 11 (by decide)
 have m12:mg "NoCorner" = some (.ref (cl 12)):=Z.nm 12 (by decide)
 have m13:mg "NoName" = some (.ref (cl 13)):=Z.nm 13 (by decide)
 have m14:mg "NoStep" = some (.ref (cl 14)):=Z.nm 14 (by decide)
 have m15:mg "NoWeight" = some (.ref (cl 15)):=Z.nm 15 (by decide)
 have m16:mg "NoDeed" = some (.ref (cl 16)):=Z.nm 16 (by decide)
 have m17:mg "NoText" = some (.ref (cl 17)):=Z.nm 17 (by decide)
 have m18:mg "NoWord" = some (.ref (cl 18)):=Z.nm 18 (by decide)
 have kt:=Z.kit c hc
 refine aE 1 nd (a6 (aa (bq 0 m0 O (kt 0 (by decide)) hbi) (aa (bq 0 m1 O (kt 1 (by decide)) hbi) (aa (bq 0 m2 O (kt 2 (by decide)) hbi) (aa (bq 0 m3 O (kt 3 (by decide)) hbi) ah))))) (eO 1 ?_)
 refine aE 1 nd (fo (ae 1) (br (a6 (aa (bq 0 m4 O (kt 4 (by decide)) hbi) (aa (bq 0 m5 O (kt 5 (by decide)) hbi) (aa (bq 0 m6 O (kt 6 (by decide)) hbi) (aa (bq 0 m7 O (kt 7 (by decide)) hbi) ah)))))) (by show (4:Nat) + 4 < 1000000; decide)) (eO 1 ?_)
 refine aE 1 nd (fo (ae 1) (br (a6 (aa (bq 0 m8 O (kt 8 (by decide)) hbi) (aa (bq 0 m9 O (kt 9 (by decide)) hbi) (aa (bq 0 m10 O (kt 10 (by decide)) hbi) (aa (bq 0 m11 O (kt 11 (by decide)) hbi) ah)))))) (by show (8:Nat) + 4 < 1000000; decide)) (eO 1 ?_)
 refine aE 1 nd (fo (ae 1) (br (a6 (aa (bq 0 m12 O (kt 12 (by decide)) hbi) (aa (bq 0 m13 O (kt 13 (by decide)) hbi) (aa (bq 0 m14 O (kt 14 (by decide)) hbi) (aa (bq 0 m15 O (kt 15 (by decide)) hbi) ah)))))) (by show (12:Nat) + 4 < 1000000; decide)) (eO 1 ?_)
 refine aE 1 nd (fo (ae 1) (br (a6 (aa (bq 0 m16 O (kt 16 (by decide)) hbi) (aa (bq 0 m17 O (kt 17 (by decide)) hbi) (aa (bq 0 m18 O (kt 18 (by decide)) hbi) ah))))) (by show (16:Nat) + 3 < 1000000; decide)) (eO 1 ?_)
 show PSs _ _ (dS K [.x (exX cl c),.d (.lst (nmD c)),.un,.un] _)
 refine aE 2 nd (a6 (aa aN (aa aN (aa aN (aa aN (aa aN (aa aN (aa aN (aa aN (aa aN ah)))))))))) (eO 2 ?_)
 refine aE 2 nd (fo (ae 2) (br (a6 (aa aN (aa aN (aa aN (aa aN (aa aN (aa aN (aa aN (aa aN (aa aN ah))))))))))) (by decide)) ?_
 refine ir 2 aN ?_ (eO 2 ?_)
 · show (18:Nat) < 1000000
   decide
 show PSs _ _ (dS K [.x (exX cl c),.d (.lst (nmD c)),.d (.lst wdD),.un] _)
 refine qb 3 nd (s:=.d (.lst [.str (wordOf c)])) (qN 0 (t:=λi=>decide (c=i)) (f:=λi=>.str (wordOf i)) (qL ck (hb _ (by decide)) af (by decide) (by decide)) jP (by rw [a9]; decide) (λi hi s0 H0 fp=>a7 (aJ (ae 1) (ae 0) (ba (aA (sQ (by rw [a9] at hi; exact hi)))))) λi hi _ s0 H0 fp=>aJ (ae 2) (ae 0) (ba (aA (tG (by rw [a9] at hi; exact hi))))) (.inr ?_) ?_
 · rw [a9]
   exact congrArg (λl=>Sl.d (D.lst l)) (rO lt).symm
 show PSs _ _ (dS K [.x (exX cl c),.d (.lst (nmD c)),.d (.lst wdD),.d (.lst [.str (wordOf c)])] _)
 refine jk (PW.pt (b8 (aY (pk (hb _ (by decide)) (ae 3)) af jb) λh=>(dh (bc (a7 (rN 0 Z.vn (by decide +kernel) O (Z.val c hc) hbi)))))) rfl ?_
 exact aH (aJ (ae 3) af (ba (aA (i:=0) rfl))) rfl
end
noncomputable def ldO (x:D):Prop:=∀ t r c xs,x=.tup [t,r,c,.lst xs]->∀ y ∈ xs,stO y
noncomputable def d0 (ds:List D) (c:Nat):Prop:=∃ x,ds=[x]/\ldO x/\isL x=false/\c=6
noncomputable def b6 (ds:List D) (c:Nat):Prop:=∃ x y z,ds=[x,y,z]/\ldO x/\isL x=false/\c=6
section
variable {P:Program} {w:World} {K:PySem.W.Frag} {mg:Str->Option Value} {base:Heap} {k:Nat} {f:Addr} {fd:FuncData} {qual:Str}
theorem dH {cl:Nat->Addr} {cs:List Nat} (F:Fun K "look_ladder" qual (top 43) f fd) (hb:∀ x ∈ ak,mg x=none) (Z:Cls K mg cl cs) (h6:6 ∈ cs) (c_is_ladder3:Cal P w K mg base k "is_ladder" bG):aO P w K mg base (Hx.CXe P w cl) (k + 1) f fd ["thing"] (spX K cl d0):=by
 obtain ⟨S,hS,hx⟩:=Z.ex
 refine fnX F fA hb (by rintro _ _ ⟨_,rfl,_⟩; rfl) ?_
 rintro _ _ ⟨x,rfl,h1,h2,rfl⟩ cdv A outer s H E hr b ps lv
 refine bo (PT.nox (bc (a7 (x_call b c_is_ladder3 (aa (ae 0) ah) ⟨x,rfl,h1,rfl⟩)))) (λ_=>nG (lv 6) (Z.nm 6 (by decide)) (hx 6 h6).1 (aa aN ah)) λh=>?_
 rw [h2] at h; cases h
theorem fL {cl:Nat->Addr} (F:Fun K "table_of" qual (top 46) f fd) (hb:∀ x ∈ ak,mg x=none) (x_look_ladder:bU P w K mg base cl k "look_ladder" d0):aO P w K mg base (Hx.CXe P w cl) (k + 1) f fd ["ladder"] (spX K cl d0):=by
 refine fnX F ig hb (by rintro _ _ ⟨_,rfl,_⟩; rfl) ?_
 rintro _ _ ⟨x,rfl,h1,h2,rfl⟩ cdv A outer s H E hr b ps lv
 exact bF (bH (c:=6) (C:=false) hr ps x_look_ladder (aa (ae 0) ah) ⟨x,rfl,h1,h2,rfl⟩)
theorem jX {cl:Nat->Addr} (F:Fun K "ways" qual (top 56) f fd) (hb:∀ x ∈ ak,mg x=none) (x_look_ladder:bU P w K mg base cl k "look_ladder" d0):aO P w K mg base (Hx.CXe P w cl) (k + 1) f fd ["ladder","i","j"] (spX K cl b6):=by
 refine fnX F nH hb (by rintro _ _ ⟨_,_,_,rfl,_⟩; rfl) ?_
 rintro _ _ ⟨x,y,z,rfl,h1,h2,rfl⟩ cdv A outer s H E hr b ps lv
 exact bF (bH (c:=6) (C:=false) hr ps x_look_ladder (aa (ae 0) ah) ⟨x,rfl,h1,h2,rfl⟩)
theorem fH {cl:Nat->Addr} (F:Fun K "look_ends" qual (top 58) f fd) (hb:∀ x ∈ ak,mg x=none) (x_look_ladder:bU P w K mg base cl k "look_ladder" d0):aO P w K mg base (Hx.CXe P w cl) (k + 1) f fd ["ladder","rows","columns"] (spX K cl b6):=by
 refine fnX F gx hb (by rintro _ _ ⟨_,_,_,rfl,_⟩; rfl) ?_
 rintro _ _ ⟨x,y,z,rfl,h1,h2,rfl⟩ cdv A outer s H E hr b ps lv
 exact bF (bH (c:=6) (C:=false) hr ps x_look_ladder (aa (ae 0) ah) ⟨x,rfl,h1,h2,rfl⟩)
theorem fU {cl:Nat->Addr} (F:Fun K "families" qual (top 59) f fd) (hb:∀ x ∈ ak,mg x=none) (x_look_ends:bU P w K mg base cl k "look_ends" b6):aO P w K mg base (Hx.CXe P w cl) (k + 1) f fd ["ladder","rows","columns"] (spX K cl b6):=by
 refine fnX F iG hb (by rintro _ _ ⟨_,_,_,rfl,_⟩; rfl) ?_
 rintro _ _ ⟨x,y,z,rfl,h1,h2,rfl⟩ cdv A outer s H E hr b ps lv
 exact bF (bH (c:=6) (C:=false) hr ps x_look_ends (aa (ae 0) (aa (ae 1) (aa (ae 2) ah))) ⟨x,y,z,rfl,h1,h2,rfl⟩)
theorem cw {cl:Nat->Addr} (F:Fun K "families_counted" qual (top 61) f fd) (hb:∀ x ∈ ak,mg x=none) (x_look_ends:bU P w K mg base cl k "look_ends" b6):aO P w K mg base (Hx.CXe P w cl) (k + 1) f fd ["ladder","rows","columns"] (spX K cl b6):=by
 refine fnX F cR hb (by rintro _ _ ⟨_,_,_,rfl,_⟩; rfl) ?_
 rintro _ _ ⟨x,y,z,rfl,h1,h2,rfl⟩ cdv A outer s H E hr b ps lv
 exact bF (bH (c:=6) (C:=false) hr ps x_look_ends (aa (ae 0) (aa (ae 1) (aa (ae 2) ah))) ⟨x,y,z,rfl,h1,h2,rfl⟩)
end
noncomputable def cL (ds:List D) (r:Sl):Prop:=∃ (x:D) (v:Int),ds=[x,.int v]/\ldO x/\isL x=false/\r=.d (.str (wordOf 6))
section
variable {P:Program} {w:World} {K:PySem.W.Frag} {mg:Str->Option Value} {base:Heap} {k:Nat} {f:Addr} {fd:FuncData} {qual:Str}
theorem gO {cl:Nat->Addr} {cs:List Nat} {fw:Addr} (F:Fun K "_law_refusal" qual (top 76) f fd) (hb:∀ x ∈ ak,mg x=none) (Z:Cls K mg cl cs) (h6:6 ∈ cs) (hm:mg "_law_word" = some (.ref fw)) (hk:PySem.W.keepIn K (.ref fw)=true) (hW:∀ c ∈ cs,cc P w K mg base cl k fw c) (x_table_of:bU P w K mg base cl k "table_of" d0) (x_ways:bU P w K mg base cl k "ways" b6) (x_families:bU P w K mg base cl k "families" b6) (x_families_counted:bU P w K mg base cl k "families_counted" b6):aO P w K mg base CX0 (k + 1) f fd ["_law_thing","_law_way"] (spD K cL):=by
 obtain ⟨S,hS,hx⟩:=Z.ex
 refine fnD F dn hb (by rintro _ _ ⟨_,_,rfl,_⟩; rfl) ?_
 have nd:=dn.nd
 rintro _ _ ⟨x,v,rfl,h1,h2,rfl⟩ cdv A outer s H E b
 refine pg b nd (λpins E Ex ps=>?_) rfl hS (hx 6 h6).2 hm hk (hW 6 h6) 2
 refine gX (M:=λ_=>False) (aY (ae 1) af g9) (λ_=>?_) (λ_=>?_) λ_ z=>z.elim
 · exact bF (bH (c:=6) (C:=false) b.room ps x_table_of (aa (ae 0) ah) ⟨x,rfl,h1,h2,rfl⟩)
 refine gX (M:=λ_=>False) (aY (ae 1) af g9) (λ_=>?_) (λ_=>?_) λ_ z=>z.elim
 · exact bF (bH (c:=6) (C:=false) b.room ps x_ways (aa (ae 0) (aa af (aa af ah))) ⟨x,_,_,rfl,h1,h2,rfl⟩)
 refine gX (M:=λ_=>False) (aY (ae 1) af g9) (λ_=>?_) (λ_=>?_) λ_ z=>z.elim
 · exact bF (bH (c:=6) (C:=false) b.room ps x_families (aa (ae 0) (aa (br (a6 (aa af ah))) (aa (br (a6 (aa af ah))) ah))) ⟨x,_,_,rfl,h1,h2,rfl⟩)
 · exact bF (bH (c:=6) (C:=false) b.room ps x_families_counted (aa (ae 0) (aa (br (a6 (aa af ah))) (aa (br (a6 (aa af ah))) ah))) ⟨x,_,_,rfl,h1,h2,rfl⟩)
end
noncomputable def fG (ds:List D) (r:Sl):Prop:=∃ (x:D) (d:Bool),ds=[x,.bl d]/\ldO x/\isL x=d/\r=.d (.bl true)
section
variable {P:Program} {w:World} {K:PySem.W.Frag} {mg:Str->Option Value} {base:Heap} {k:Nat} {f:Addr} {fd:FuncData} {qual:Str}
theorem j6 (F:Fun K "_law_told" qual (top 77) f fd) (hb:∀ x ∈ ak,mg x=none) (c_is_ladder3:Cal P w K mg base k "is_ladder" bG) (c_l_refusal:Cal P w K mg base k "_law_refusal" cL):aO P w K mg base CX0 (k + 1) f fd ["_law_thing","_law_due"] (spD K fG):=by
 refine fnD F gc hb (by rintro _ _ ⟨_,_,rfl,_⟩; rfl) ?_
 have nd:=gc.nd
 rintro _ _ ⟨x,d,rfl,h1,h2,rfl⟩ cdv A outer s H E b
 have okb:∀ b:Bool,Ev.cB (.bl b):=λb=>by cases b <;> decide +kernel
 refine aE 2 nd (x_call b c_is_ladder3 (aa (ae 0) ah) ⟨x,rfl,h1,rfl⟩) ?_
 rw [h2]
 refine jk (PW.pt (b8 (bc (a7 (bW .bool b (ae 2)))) λh=>(dh (aY (ae 2) (ae 1) (nX b (okb d) (okb d)))))) ?_ ?_
 · cases d <;> rfl
 cases d with
 | true=>exact aH (sj (p:=true) (q:=true) (ae 1) λh=>nomatch h) rfl
 | false=>
   refine aH (sj (p:=false) (q:=true) (ae 1) λh=>(fF (iz (y:=.lst [.str "NoLadder",.str "NoLadder",.str "NoLadder",.str "NoLadder"]) (x:=.lst [.str "NoLadder",.str "NoLadder",.str "NoLadder",.str "NoLadder"]) ?_ ?_ (nP b (by decide +kernel) (by decide +kernel))))) rfl
   · exact br (r6 (cmp 0 (f:=λ_=>.str (wordOf 6)) b (mm b af (by decide) (by decide)) jP (by rw [a9]; decide) λl hl s0 H0 fp=>(x_call (b.comp s0 H0 _ fp) c_l_refusal (aa (ae 1) (aa (ae 0) ah)) ⟨x,_,rfl,h1,h2,rfl⟩)))
   · exact br (jU (br (a6 (aa aN ah))) af (by decide) (by decide) (by decide))
end
noncomputable def ou (c:Int) (T:Nat):List D:=[.tup [.str "side",.int 0,.tup [.int 1,.int 1]],.tup [.str "weigh",.int (T:Nat),.tup [.int 1,.int 1]]]
noncomputable def qe (c:Int) (T:Nat):List D:=ou c T++[.tup [.str "down",.int ((T:Int) - 1),.tup [.int 1,.int 1]],.tup [.str "up",.int ((T:Int) - 1),.tup [.int 1,.int 1]]]
noncomputable def oK (c:Int) (T:Nat):List D:=qe c T++[.tup [.str "weigh",.int (-1),.tup [.int 1,.int 1]],.tup [.str "weigh",.int 0,.tup [.int (-1),.int 2]],.tup [.str "weigh",.int 0,.tup [.int 2,.int 4]]]
noncomputable def oO (c:Int) (T:Nat):List D:=oK c T++[.tup [.str "weigh",.int 0,.int 1],.non,.str "weigh"]
noncomputable def pO (c:Int) (T:Nat):List D:=oO c T++[.tup [.str "weigh",.int 0,.tup [.int 1,.int 0]],.tup [.str "weigh",.bl false,.tup [.int 1,.int 1]],.tup [.str "weigh",.int 0]]
noncomputable def qm (c:Int) (T:Nat):List D:=pO c T++[.lst [.str "weigh",.int 0,.tup [.int 1,.int 1]],.tup [.str "down",.int (-1),.tup [.int 1,.int 1]]]
noncomputable def pI (c:Int) (T:Nat):List D:=qm c T++[.tup [.str "weigh",.int 0,.tup [.int 1,.int 1],.int 0],.tup [.str "weigh",.int 0,.tup [.bl true,.int 1]],.tup [.int 0,.int 0,.tup [.int 1,.int 1]],.tup [.str "weigh",.str "0",.tup [.int 1,.int 1]],.tup []]
noncomputable def qJ (c:Int) (T:Nat):List D:=pI c T++[.tup [.str "Weigh",.int 0,.tup [.int 1,.int 1]],.tup [.str "weigh ",.int 0,.tup [.int 1,.int 1]],.tup [.str "weigh",.int 0,.lst [.int 1,.int 1]]]
noncomputable def pL (c:Int) (T:Nat):List D:=qJ c T++[.tup [.str "weigh",.int 0,.tup [.int 0,.int 2]],.tup [.non,.int 0,.tup [.int 1,.int 1]]]
noncomputable def l4 (c:Int) (T:Nat):List D:=pL c T++[.tup [.str "weigh",.int ((T:Int) + (c.fdiv 26).fmod (10 ^ 39)),.tup [.int 1,.int 1]]]
noncomputable def nsX (c:Int) (T:Nat):List D:=l4 c T
noncomputable def nsD (c:Int) (T:Nat):D:=(nsX c T).getD (c.fmod 26).toNat .non
theorem iI {a b:Int} (h:0 < b):0<=a.fmod b/\a.fmod b < b:=⟨Int.fmod_nonneg_of_pos a h,Int.fmod_lt_of_pos a h⟩
theorem nZ (c:Int) (T:Nat):atI (nsX c T) (c.fmod 26)=some (nsD c T)/\nsD c T ∈ nsX c T:=by
 have h:0<=c.fmod 26/\c.fmod 26 < 26:=iI (by decide)
 have l:(nsX c T).length=26:=rfl
 unfold nsD
 obtain ⟨n,hn⟩:=Int.eq_ofNat_of_zero_le h.1
 rw [hn,Int.toNat_natCast]
 generalize nsX c T=L at l
 have hl:n < L.length:=by omega
 exact ⟨aA (by simp [hl]),by simp [hl]⟩
noncomputable def nsP (T:Nat) (x:D):Prop:=isS T x=false/\stO x
theorem ns3 {T:Nat} {u n q:D} (h1:flD u=true) (h2:Ev.cB u) (h:isS T (.tup [u,n,q])=false):nsP T (.tup [u,n,q]):=⟨h,λ_ _ _ e=>by cases e; exact ⟨h1,h2⟩⟩
theorem nsq {T:Int} {u n q:D} (h:isW q=false):isS T (.tup [u,n,q])=false:=by show (isW q && _)=false; rw [h]; rfl
theorem nsu {T:Int} {u n q:D} (h:Ev.eqD u (.str "weigh")=false) (h2:inS ["down","up"] u=false):isS T (.tup [u,n,q])=false:=by
 show (isW q && (if Ev.eqD u (.str "weigh")=true then _ else inS ["down","up"] u && _))=false
 rw [h,if_neg (by decide),h2]; exact Bool.and_false _
theorem nsw {T:Int} {u n q:D} (h:Ev.eqD u (.str "weigh")=true) (h2:aW n 0 (T - 1)=false):isS T (.tup [u,n,q])=false:=by
 show (isW q && (if Ev.eqD u (.str "weigh")=true then _ else _))=false
 rw [if_pos h,h2]; exact Bool.and_false _
theorem nsd {T:Int} {u n q:D} (h:Ev.eqD u (.str "weigh")=false) (h2:aW n 0 (T - 2)=false):isS T (.tup [u,n,q])=false:=by
 show (isW q && (if Ev.eqD u (.str "weigh")=true then _ else _ && _))=false
 rw [if_neg (by rw [h]; decide),h2,Bool.and_false]; exact Bool.and_false _
theorem nsb {i m:Int} (h:i < 0\/m < i):aW (.int i) 0 m=false:=by
 show (decide (0<=i) && decide (i<=m))=false
 rw [Bool.and_eq_false_iff]
 rcases h with h | h
 · exact .inl (decide_eq_false (by omega))
 · exact .inr (decide_eq_false (by omega))
theorem pe {c:Int} {T:Nat} {x:D} (h:x ∈ nsX c T):nsP T x:=by
 have g:0<=(c.fdiv 26).fmod (10 ^ 39):=(iI (a:=c.fdiv 26) (b:=10 ^ 39) (by decide)).1
 generalize hy:(c.fdiv 26).fmod (10 ^ 39)=y at g
 simp only [nsX,ou,qe,oK,oO,pO,qm,pI,qJ,pL,l4,hy,List.mem_append,List.mem_cons,List.not_mem_nil,or_false,or_assoc] at h
 rcases h with rfl | rfl | rfl | rfl | rfl | rfl | rfl | rfl | rfl | rfl | rfl | rfl | rfl | rfl | rfl | rfl | rfl | rfl | rfl | rfl | rfl | rfl | rfl | rfl | rfl | rfl
 · exact ns3 rfl (by decide +kernel) (nsu (by decide +kernel) (by decide +kernel))
 · exact ns3 rfl (by decide +kernel) (nsw (by decide +kernel) (nsb (by omega)))
 · exact ns3 rfl (by decide +kernel) (nsd (by decide +kernel) (nsb (by omega)))
 · exact ns3 rfl (by decide +kernel) (nsd (by decide +kernel) (nsb (by omega)))
 · exact ns3 rfl (by decide +kernel) (nsw (by decide +kernel) (nsb (by omega)))
 · exact ns3 rfl (by decide +kernel) (nsq (by decide +kernel))
 · exact ns3 rfl (by decide +kernel) (nsq (by decide +kernel))
 · exact ns3 rfl (by decide +kernel) (nsq (by decide +kernel))
 · exact ⟨rfl,λ_ _ _ e=>nomatch e⟩
 · exact ⟨rfl,λ_ _ _ e=>nomatch e⟩
 · exact ns3 rfl (by decide +kernel) (nsq (by decide +kernel))
 · exact ns3 rfl (by decide +kernel) (nsw (by decide +kernel) rfl)
 · exact ⟨rfl,λ_ _ _ e=>nomatch e⟩
 · exact ⟨rfl,λ_ _ _ e=>nomatch e⟩
 · exact ns3 rfl (by decide +kernel) (nsd (by decide +kernel) (nsb (by omega)))
 · exact ⟨rfl,λ_ _ _ e=>nomatch e⟩
 · exact ns3 rfl (by decide +kernel) (nsq (by decide +kernel))
 · exact ns3 rfl (by decide +kernel) (nsu (by decide +kernel) (by decide +kernel))
 · exact ns3 rfl (by decide +kernel) (nsw (by decide +kernel) rfl)
 · exact ⟨rfl,λ_ _ _ e=>nomatch e⟩
 · exact ns3 rfl (by decide +kernel) (nsu (by decide +kernel) (by decide +kernel))
 · exact ns3 rfl (by decide +kernel) (nsu (by decide +kernel) (by decide +kernel))
 · exact ns3 rfl (by decide +kernel) (nsq (by decide +kernel))
 · exact ns3 rfl (by decide +kernel) (nsq (by decide +kernel))
 · exact ns3 rfl (by decide +kernel) (nsu (by decide +kernel) (by decide +kernel))
 · exact ns3 rfl (by decide +kernel) (nsw (by decide +kernel) (nsb (by omega)))
noncomputable def cK (ds:List D) (r:Sl):Prop:=∃ (c:Int) (T:Nat),ds=[.int c,.int T]/\r=.d (nsD c T)
section
variable {P:Program} {w:World} {K:PySem.W.Frag} {mg:Str->Option Value} {base:Heap} {k:Nat} {f:Addr} {fd:FuncData} {qual:Str}
set_option maxHeartbeats 1000000 in
theorem gI (F:Fun K "_law_no_step" qual (top 74) f fd) (hb:∀ x ∈ ak,mg x=none):aO P w K mg base CX0 (k + 1) f fd ["_law_cell_here","_law_tracks"] (spD K cK):=by
 refine fnQ F df hb (by rintro _ _ ⟨_,_,rfl,_⟩; rfl) ?_
 rintro _ _ ⟨c,T,rfl,rfl⟩ cdv A outer s H E b
 have nd:=df.nd
 refine bE 2 nd (bN (aB (aZ (ar (aB (ar (ar aj)) aj))) (aB (aZ (aQ (ae 1) (aB (ar (ar aj)) aj))) aj))) (cV 2 ?_) (hs:=lO)
 show PQ _ _ (dS K [.d (.int c),.d (.int (T:Nat)),.d (.lst (ou c T))] _)
 refine bE 2 nd (bV (ae 2) (bN (aB (aZ (iH (aD (ae 1) af fZ) (aB (ar (ar aj)) aj))) (aB (aZ (iH (aD (ae 1) af fZ) (aB (ar (ar aj)) aj))) aj))) (by show (2:Nat) + 2 < 1000000; decide)) (cV 2 ?_) (hs:=bx)
 show PQ _ _ (dS K [.d (.int c),.d (.int (T:Nat)),.d (.lst (qe c T))] _)
 refine bE 2 nd (bV (ae 2) (bN (aB (aZ (lC (lb af) (aB (ar (ar aj)) aj))) (aB (aZ (ar (aB (lC (lb af) (ar aj)) aj))) (aB (aZ (ar (aB (ar (ar aj)) aj))) aj)))) (by show (4:Nat) + 3 < 1000000; decide)) (cV 2 ?_) (hs:=bx)
 show PQ _ _ (dS K [.d (.int c),.d (.int (T:Nat)),.d (.lst (oK c T))] _)
 refine bE 2 nd (bV (ae 2) (bN (aB (aZ (ar (ar aj))) (jE (aZ aj)))) (by show (7:Nat) + 3 < 1000000; decide)) (cV 2 ?_) (hs:=bx)
 show PQ _ _ (dS K [.d (.int c),.d (.int (T:Nat)),.d (.lst (oO c T))] _)
 refine bE 2 nd (bV (ae 2) (bN (aB (aZ (ar (aB (ar (ar aj)) aj))) (aB (aZ (qp (aB (ar (ar aj)) aj))) (aB (aZ (ar aj)) aj)))) (by show (10:Nat) + 3 < 1000000; decide)) (cV 2 ?_) (hs:=bx)
 show PQ _ _ (dS K [.d (.int c),.d (.int (T:Nat)),.d (.lst (pO c T))] _)
 refine bE 2 nd (bV (ae 2) (bN (ea (aZ (ar (aB (ar (ar aj)) aj))) (aB (aZ (lC (lb af) (aB (ar (ar aj)) aj))) aj))) (by show (13:Nat) + 2 < 1000000; decide)) (cV 2 ?_) (hs:=bx)
 show PQ _ _ (dS K [.d (.int c),.d (.int (T:Nat)),.d (.lst (qm c T))] _)
 refine bE 2 nd (bV (ae 2) (bN (aB (aZ (ar (aB (ar (ar aj)) (ar aj)))) (aB (aZ (ar (aB (qp (ar aj)) aj))) (aB (ar (ar (aB (ar (ar aj)) aj))) (aB (aZ (aZ (aB (ar (ar aj)) aj))) (aB aj aj)))))) (by show (15:Nat) + 5 < 1000000; decide)) (cV 2 ?_) (hs:=bx)
 show PQ _ _ (dS K [.d (.int c),.d (.int (T:Nat)),.d (.lst (pI c T))] _)
 refine bE 2 nd (bV (ae 2) (bN (aB (aZ (ar (aB (ar (ar aj)) aj))) (aB (aZ (ar (aB (ar (ar aj)) aj))) (aB (aZ (ar (ea (ar (ar aj)) aj))) aj)))) (by show (20:Nat) + 3 < 1000000; decide)) (cV 2 ?_) (hs:=bx)
 show PQ _ _ (dS K [.d (.int c),.d (.int (T:Nat)),.d (.lst (qJ c T))] _)
 refine bE 2 nd (bV (ae 2) (bN (aB (aZ (ar (aB (ar (ar aj)) aj))) (aB (jE (ar (aB (ar (ar aj)) aj))) aj))) (by show (23:Nat) + 2 < 1000000; decide)) ?_ (hs:=bx)
 show PQ _ _ (dS K [.d (.int c),.d (.int (T:Nat)),.o (pL c T)] _)
 refine qV 2 (si (aZ (iH (aD (ae 1) (aD (aD (ae 0) af (cC (mkD (by decide) (by decide)))) (aD af af (jh ⟨by decide,by decide,by decide⟩)) (bj (by decide))) a8) (aB (ar (ar aj)) aj)))) ?_ (cV 2 ?_)
 · show (25:Nat) < 1000000
   decide
 show PQ _ _ (dS K [.d (.int c),.d (.int (T:Nat)),.d (.lst (l4 c T))] _)
 exact oo (aJ (ae 2) (aD (ae 0) af (bj (by decide))) (ba (nZ c T).1)) rfl
end
noncomputable def qg (c:Int) (T R C:Nat) (ss:List Stp):List D:=[.tup [.int 0,.int 1,.int 1,.lst []],.tup [.int 8,.int 1,.int 1,.lst []],.tup [.int (8 + (c.fdiv 16).fmod (10 ^ 39)),.int 1,.int 1,.lst []]]
noncomputable def qh (c:Int) (T R C:Nat) (ss:List Stp):List D:=qg c T R C ss++[.tup [.int (T:Nat),.int 0,.int (C:Nat),.lst (ss.map stD)],.tup [.int (T:Nat),.int ((T:Int) + 1),.int 1,.lst (ss.map stD)]]
noncomputable def oV (c:Int) (T R C:Nat) (ss:List Stp):List D:=qh c T R C ss++[.tup [.int (T:Nat),.int (R:Nat),.int ((T:Int) + 1),.lst (ss.map stD)],.tup [.int (T:Nat),.int (R:Nat),.int 0,.lst (ss.map stD)]]
noncomputable def pK (c:Int) (T R C:Nat) (ss:List Stp):List D:=oV c T R C ss++[.tup [.int (T:Nat),.int (R:Nat),.int (C:Nat),.tup (ss.map stD)]]
noncomputable def px (c:Int) (T R C:Nat) (ss:List Stp):List D:=pK c T R C ss++[.lst [.int (T:Nat),.int (R:Nat),.int (C:Nat),.lst (ss.map stD)],.tup [.int (T:Nat),.int (R:Nat),.int (C:Nat)],.tup [.bl true,.int 1,.int 1,.lst []],.non,.str "ladder",.int 7]
noncomputable def oZ (c:Int) (T R C:Nat) (ss:List Stp):List D:=px c T R C ss++[.tup [.int (T:Nat),.int (R:Nat),.int (C:Nat),.lst (ss.map stD),.lst []],.tup [.int (T:Nat),.int (R:Nat),.int (C:Nat),.non]]
noncomputable def nlL (c:Int) (T R C:Nat) (ss:List Stp):List D:=oZ c T R C ss
noncomputable def nlD (c:Int) (T R C:Nat) (ss:List Stp):D:=(nlL c T R C ss).getD (c.fmod 16).toNat .non
theorem oi (c:Int) (T R C:Nat) (ss:List Stp):atI (nlL c T R C ss) (c.fmod 16)=some (nlD c T R C ss)/\nlD c T R C ss ∈ nlL c T R C ss:=by
 have h:0<=c.fmod 16/\c.fmod 16 < 16:=iI (by decide)
 have l:(nlL c T R C ss).length=16:=rfl
 unfold nlD
 obtain ⟨n,hn⟩:=Int.eq_ofNat_of_zero_le h.1
 rw [hn,Int.toNat_natCast]
 generalize nlL c T R C ss=L at l
 have hl:n < L.length:=by omega
 exact ⟨aA (by simp [hl]),by simp [hl]⟩
theorem nlt {t r c s:D} (h:aW t 1 7=false):isL (.tup [t,r,c,s])=false:=by show (aW t 1 7 && _)=false; rw [h]; rfl
theorem nlr {T:Int} {r c s:D} (h:aW r 1 T=false):isL (.tup [.int T,r,c,s])=false:=by
 show (_ && ((aW r 1 T && _) && _))=false; rw [h]; exact Bool.and_false _
theorem nlc {T:Int} {r c s:D} (h:aW c 1 T=false):isL (.tup [.int T,r,c,s])=false:=by
 show (_ && ((_ && aW c 1 T) && _))=false; rw [h,Bool.and_false]; exact Bool.and_false _
theorem nls {T:Int} {r c s:D} (h:iV T s=false):isL (.tup [.int T,r,c,s])=false:=by
 show (_ && (_ && iV T s))=false; rw [h,Bool.and_false,Bool.and_false]
theorem nlb {i l m:Int} (h:i < l\/m < i):aW (.int i) l m=false:=by
 show (decide (l<=i) && decide (i<=m))=false
 rw [Bool.and_eq_false_iff]
 rcases h with h | h
 · exact .inl (decide_eq_false (by omega))
 · exact .inr (decide_eq_false (by omega))
theorem qx {T:Nat} {s:Stp} (h:okS T s):stO (stD s):=λu n q e=>by
 cases e
 rcases h.2 with ⟨h,_⟩ | ⟨h | h,_⟩ <;> rw [h] <;> exact ⟨rfl,by decide +kernel⟩
theorem bM {t r c:D} {xs:List D} (h:∀ y ∈ xs,stO y):ldO (.tup [t,r,c,.lst xs]):=λ_ _ _ _ e=>by cases e; exact h
noncomputable def nlP (x:D):Prop:=isL x=false/\ldO x
theorem p9 {c:Int} {T R C:Nat} {ss:List Stp} (hs:∀ s ∈ ss,okS T s) {x:D} (h:x ∈ nlL c T R C ss):nlP x:=by
 have g:0<=(c.fdiv 16).fmod (10 ^ 39):=(iI (a:=c.fdiv 16) (b:=10 ^ 39) (by decide)).1
 have o:∀ y ∈ ss.map stD,stO y:=λy hy=>by
   obtain ⟨s,h1,rfl⟩:=List.mem_map.mp hy
   exact qx (hs s h1)
 have o0:∀ y ∈ ([]:List D),stO y:=λy hy=>nomatch hy
 generalize hy:(c.fdiv 16).fmod (10 ^ 39)=y at g
 simp only [nlL,qg,qh,oV,pK,px,oZ,hy,List.mem_append,List.mem_cons,List.not_mem_nil,or_false,or_assoc] at h
 rcases h with rfl | rfl | rfl | rfl | rfl | rfl | rfl | rfl | rfl | rfl | rfl | rfl | rfl | rfl | rfl | rfl
 · exact ⟨nlt rfl,bM o0⟩
 · exact ⟨nlt rfl,bM o0⟩
 · exact ⟨nlt (nlb (by omega)),bM o0⟩
 · exact ⟨nlr (nlb (by omega)),bM o⟩
 · exact ⟨nlr (nlb (by omega)),bM o⟩
 · exact ⟨nlc (nlb (by omega)),bM o⟩
 · exact ⟨nlc (nlb (by omega)),bM o⟩
 · exact ⟨nls rfl,λ_ _ _ _ e=>by cases e⟩
 · exact ⟨rfl,λ_ _ _ _ e=>by cases e⟩
 · exact ⟨rfl,λ_ _ _ _ e=>by cases e⟩
 · exact ⟨nlt rfl,bM o0⟩
 · exact ⟨rfl,λ_ _ _ _ e=>by cases e⟩
 · exact ⟨rfl,λ_ _ _ _ e=>by cases e⟩
 · exact ⟨rfl,λ_ _ _ _ e=>by cases e⟩
 · exact ⟨rfl,λ_ _ _ _ e=>by cases e⟩
 · exact ⟨nls rfl,λ_ _ _ _ e=>by cases e⟩
noncomputable def bR (ds:List D) (r:Sl):Prop:=∃ (c:Int) (T R C:Nat) (ss:List Stp),ds=[.int c,cA T R C ss]/\r=.d (nlD c T R C ss)
section
variable {P:Program} {w:World} {K:PySem.W.Frag} {mg:Str->Option Value} {base:Heap} {k:Nat} {f:Addr} {fd:FuncData} {qual:Str}
set_option maxHeartbeats 1000000 in
theorem eP (F:Fun K "_law_no_ladder" qual (top 75) f fd) (hb:∀ x ∈ ak,mg x=none):aO P w K mg base CX0 (k + 1) f fd ["_law_cell_here","_law_ladder_here"] (spD K bR):=by
 refine fnQ F cJ hb (by rintro _ _ ⟨_,_,_,_,_,rfl,_⟩; rfl) ?_
 rintro _ _ ⟨c,T,R,C,ss,rfl,rfl⟩ cdv A outer s H E b
 have nd:=cJ.nd
 refine oM (ae 1) (su b.calm (er 2 nd (er 3 nd (er 4 nd (er 5 nd pZ))))) ?_
 refine bE 6 nd (tu <| aD af (aD (aD (ae 0) af (cC (mkD (by decide) (by decide)))) (aD af af (jh ⟨by decide,by decide,by decide⟩)) (bj (by decide))) a8) ?_
 refine bE 7 nd (bN (aB (ar (ar (ar (ea aj aj)))) (aB (ar (ar (ar (ea aj aj)))) (aB (aQ (ae 6) (ar (ar (ea aj aj)))) aj)))) (cV 7 ?_) (hs:=lO)
 show PQ _ _ (dS K [.d (.int c),.d (cA T R C ss),.d (.int (T:Nat)),.d (.int (R:Nat)),.d (.int (C:Nat)),.d (.lst (ss.map stD)),.d (.int (8 + (c.fdiv 16).fmod (10 ^ 39))),.d (.lst (qg c T R C ss))] _)
 refine bE 7 nd (bV (ae 7) (bN (aB (aQ (ae 2) (ar (aQ (ae 4) (aQ (ae 5) aj)))) (aB (aQ (ae 2) (iH (aD (ae 2) af a8) (ar (aQ (ae 5) aj)))) aj))) (by show (3:Nat) + 2 < 1000000; decide)) (cV 7 ?_) (hs:=bx)
 show PQ _ _ (dS K [.d (.int c),.d (cA T R C ss),.d (.int (T:Nat)),.d (.int (R:Nat)),.d (.int (C:Nat)),.d (.lst (ss.map stD)),.d (.int (8 + (c.fdiv 16).fmod (10 ^ 39))),.d (.lst (qh c T R C ss))] _)
 refine bE 7 nd (bV (ae 7) (bN (aB (aQ (ae 2) (aQ (ae 3) (iH (aD (ae 2) af a8) (aQ (ae 5) aj)))) (aB (aQ (ae 2) (aQ (ae 3) (ar (aQ (ae 5) aj)))) aj))) (by show (5:Nat) + 2 < 1000000; decide)) (cV 7 ?_) (hs:=bx)
 show PQ _ _ (dS K [.d (.int c),.d (cA T R C ss),.d (.int (T:Nat)),.d (.int (R:Nat)),.d (.int (C:Nat)),.d (.lst (ss.map stD)),.d (.int (8 + (c.fdiv 16).fmod (10 ^ 39))),.d (.lst (oV c T R C ss))] _)
 refine bE 7 nd (bV (ae 7) (bN (aB (aQ (ae 2) (aQ (ae 3) (aQ (ae 4) (rp (pW b (aa (ae 5) ah) qu) aj)))) aj)) (by show (7:Nat) + 1 < 1000000; decide)) (cV 7 ?_) (hs:=bx)
 show PQ _ _ (dS K [.d (.int c),.d (cA T R C ss),.d (.int (T:Nat)),.d (.int (R:Nat)),.d (.int (C:Nat)),.d (.lst (ss.map stD)),.d (.int (8 + (c.fdiv 16).fmod (10 ^ 39))),.d (.lst (pK c T R C ss))] _)
 refine bE 7 nd (bV (ae 7) (bN (ea (aQ (ae 2) (aQ (ae 3) (aQ (ae 4) (aQ (ae 5) aj)))) (aB (aQ (ae 2) (aQ (ae 3) (aQ (ae 4) aj))) (aB (qp (ar (ar (ea aj aj)))) (jE (aZ (ar aj))))))) (by show (8:Nat) + 6 < 1000000; decide)) (cV 7 ?_) (hs:=bx)
 show PQ _ _ (dS K [.d (.int c),.d (cA T R C ss),.d (.int (T:Nat)),.d (.int (R:Nat)),.d (.int (C:Nat)),.d (.lst (ss.map stD)),.d (.int (8 + (c.fdiv 16).fmod (10 ^ 39))),.d (.lst (px c T R C ss))] _)
 refine bE 7 nd (bV (ae 7) (bN (aB (aQ (ae 2) (aQ (ae 3) (aQ (ae 4) (aQ (ae 5) (ea aj aj))))) (aB (aQ (ae 2) (aQ (ae 3) (aQ (ae 4) (jE aj)))) aj))) (by show (14:Nat) + 2 < 1000000; decide)) (cV 7 ?_) (hs:=bx)
 show PQ _ _ (dS K [.d (.int c),.d (cA T R C ss),.d (.int (T:Nat)),.d (.int (R:Nat)),.d (.int (C:Nat)),.d (.lst (ss.map stD)),.d (.int (8 + (c.fdiv 16).fmod (10 ^ 39))),.d (.lst (oZ c T R C ss))] _)
 exact oo (aJ (ae 7) (aD (ae 0) af (bj (by decide))) (ba (oi c T R C ss).1)) rfl
end
noncomputable def cF (ds:List D) (r:Sl):Prop:=∃ a b:Int,ds=[.int a,.int b]/\r=.d (.int (Int.gcd a b:Int))
noncomputable def eR (ds:List D) (r:Sl):Prop:=∃ (t b:Int) (q:Rat),ds=[.int t,.int b]/\0 < b/\Bd 8999 b/\(t:Rat)=q * (b:Rat)/\r=.d (frD q)
noncomputable def eC (ds:List D) (r:Sl):Prop:=∃ (ns:List Int) (k:Nat),ds=[.lst (ns.map .int),.int k]/\r=.d (.int (ns.getD k 0))
noncomputable def en (ds:List D) (r:Sl):Prop:=∃ n:Nat,ds=[.int n]/\n<=1000/\r=.d (.int (10 ^ n))
noncomputable def wgT (p:Int) (g:Nat):Int:=if 0 < g then p.fmod (10 ^ g) else p.fmod 7
noncomputable def wgB (p:Int) (g:Nat):Int:=if 0 < g then 1 + (p.fdiv (10 ^ g)).fmod (10 ^ g - 1) else 1 + (p.fdiv 7).fmod 4
noncomputable def wgt (p:Int) (g:Nat):Rat:=(wgT p g:Rat) / (wgB p g:Rat)
noncomputable def c9 (ds:List D) (r:Sl):Prop:=∃ (p:Int) (g:Nat),ds=[.int p,.int g]/\g<=40/\r=.d (frD (wgt p g))
theorem fm {a b:Int} (h:0 < b):0<=a.fmod b/\a.fmod b < b:=⟨Int.fmod_nonneg_of_pos a h,Int.fmod_lt_of_pos a h⟩
theorem kD {g:Nat} (h:g<=40):(10:Int) ^ g < 2 ^ 140:=by
 have h1:(10:Nat) ^ g<=10 ^ 40:=Nat.pow_le_pow_right (by decide) h
 have h2:(10:Nat) ^ 40 < 2 ^ 140:=by decide
 have:((10 ^ g:Nat):Int) < ((2 ^ 140:Nat):Int):=Int.ofNat_lt.mpr (Nat.lt_of_le_of_lt h1 h2)
 simpa using this
theorem jD {g:Nat} (h:0 < g):(10:Int)<=10 ^ g:=by
 have h1:(10:Nat) ^ 1<=10 ^ g:=Nat.pow_le_pow_right (by decide) h
 have:((10 ^ 1:Nat):Int)<=((10 ^ g:Nat):Int):=Int.ofNat_le.mpr h1
 simpa using this
theorem ic {x:Int} (h0:0<=x) (h:x < 2 ^ 140):Bd 140 x:=by
 unfold Bd
 have:(x.natAbs:Int) < ((2 ^ 140:Nat):Int):=by rw [Int.natAbs_of_nonneg h0]; simpa using h
 exact Int.ofNat_lt.mp this
theorem kS (p:Int) {g:Nat} (h:g<=40):0<=wgT p g/\Bd 140 (wgT p g)/\0 < wgB p g/\Bd 140 (wgB p g):=by
 unfold wgT wgB
 by_cases h0:0 < g
 · have h1:=kD h
   have h2:=jD h0
   have f1:=fm (a:=p) (b:=10 ^ g) (by omega)
   have f2:=fm (a:=p.fdiv (10 ^ g)) (b:=10 ^ g - 1) (by omega)
   rw [if_pos h0,if_pos h0]
   exact ⟨f1.1,ic f1.1 (by omega),by omega,ic (by omega) (by omega)⟩
 · have f1:=fm (a:=p) (b:=7) (by decide)
   have f2:=fm (a:=p.fdiv 7) (b:=4) (by decide)
   rw [if_neg h0,if_neg h0]
   exact ⟨f1.1,ic f1.1 (by omega),by omega,ic (by omega) (by omega)⟩
theorem gA (p:Int) {g:Nat} (h:g<=40):(wgT p g:Rat)=wgt p g * (wgB p g:Rat):=(Rat.div_mul_cancel (qE (kS p h).2.2.1)).symm
theorem oR (p:Int) {g:Nat} (h:g<=40):0<=(wgt p g).num/\Sq 140 (wgt p g):=by
 obtain ⟨h1,h2,h3,h4⟩:=kS p h
 refine ⟨?_,Sq.fB h3 (gA p h) h2 h4⟩
 rw [(fB h3 (gA p h)).1]
 exact Int.ediv_nonneg h1 (Int.natCast_nonneg _)
noncomputable def szP (m:Nat) (c:Int):List Int:=nums c [8,4,7,7,7,(m:Int) + 1]
noncomputable def szT (m:Nat) (c:Int):Int:=if (szP m c).getD 0 0=1 then 1 + (szP m c).getD 2 0 else 1 + (szP m c).getD 1 0
noncomputable def szR (m:Nat) (c:Int):Int:=1 + ((szP m c).getD 3 0).fmod (szT m c)
noncomputable def szC (m:Nat) (c:Int):Int:=1 + ((szP m c).getD 4 0).fmod (szT m c)
theorem mh (m:Nat) (c:Int):1<=szT m c/\szT m c<=7/\1<=szR m c/\szR m c<=szT m c/\1<=szC m c/\szC m c<=szT m c/\0<=(szP m c).getD 5 0/\(szP m c).getD 5 0<=m:=by
 have hp:∀ b ∈ ([8,4,7,7,7,(m:Int) + 1]:List Int),0 < b:=by intro b hb; simp at hb; omega
 have h1:=eo (c:=c) hp (i:=1) (by simp)
 have h2:=eo (c:=c) hp (i:=2) (by simp)
 have h5:=eo (c:=c) hp (i:=5) (by simp)
 have e1:([8,4,7,7,7,(m:Int) + 1]:List Int).getD 1 0=4:=rfl
 have e2:([8,4,7,7,7,(m:Int) + 1]:List Int).getD 2 0=7:=rfl
 have e5:([8,4,7,7,7,(m:Int) + 1]:List Int).getD 5 0=(m:Int) + 1:=rfl
 rw [e1] at h1
 rw [e2] at h2
 rw [e5] at h5
 have hT:1<=szT m c/\szT m c<=7:=by
   unfold szT szP
   split <;> omega
 have hR:=fm (a:=(szP m c).getD 3 0) (b:=szT m c) (by omega)
 have hC:=fm (a:=(szP m c).getD 4 0) (b:=szT m c) (by omega)
 have h5':0<=(szP m c).getD 5 0/\(szP m c).getD 5 0 < (m:Int) + 1:=h5
 unfold szR szC
 omega
noncomputable def dY (ds:List D) (r:Sl):Prop:=∃ (m:Nat) (c:Int),ds=[.int c,.int m]/\m<=100/\r=.d (.tup [.int (szT m c),.int (szR m c),.int (szC m c),.int ((szP m c).getD 5 0)])
noncomputable def wrd (i:Int):Str:=if i=0 then "down" else if i=1 then "up" else "weigh"
theorem pw {i:Int} (h0:0<=i) (h:i < 3):atI [D.str "down",D.str "up",D.str "weigh"] i=some (.str (wrd i)):=by
 obtain ⟨n,rfl⟩:=Int.eq_ofNat_of_zero_le h0
 rcases (by omega:n=0\/n=1\/n=2) with rfl | rfl | rfl <;> rfl
theorem et {α:Type} (a b c:α):∀ n,(List.replicate n [a,b,c]).flatten.length=3 * n
 | 0=>rfl
 | n + 1=>by rw [List.replicate_succ,List.flatten_cons,List.length_append,et a b c n]; simp; omega
theorem jO {a b c:Int} {n:Nat} {x:Int} (h:x ∈ (List.replicate n [a,b,c]).flatten):x=a\/x=b\/x=c:=by
 obtain ⟨l,h1,h2⟩:=List.mem_flatten.mp h
 rw [(List.mem_replicate.mp h1).2] at h2
 simpa using h2
theorem ku {a b c:Int}:∀ (n k:Nat),k < n->(List.replicate n [a,b,c]).flatten.getD (3 * k) 0=a/\(List.replicate n [a,b,c]).flatten.getD (3 * k + 1) 0=b/\(List.replicate n [a,b,c]).flatten.getD (3 * k + 2) 0=c
 | n + 1,0,_=>by rw [List.replicate_succ,List.flatten_cons]; exact ⟨rfl,rfl,rfl⟩
 | n + 1,k + 1,h=>by
   have:=ku (a:=a) (b:=b) (c:=c) n k (by omega)
   rw [List.replicate_succ,List.flatten_cons]
   exact this
theorem ni (a b c:Int) (n:Nat):(List.replicate n [D.int a,D.int b,D.int c]).flatten=((List.replicate n [a,b,c]).flatten).map .int:=by
 rw [List.map_flatten,List.map_replicate]; rfl
noncomputable def adB (g:Nat):Int:=10 ^ (2 * (if (g:Int) > 1 then (g:Int) else 1).toNat) * 28
noncomputable def adP (c:Int) (n g:Nat):List Int:=nums c (List.replicate n [3,7,adB g]).flatten
noncomputable def adW (ps:List Int) (T k:Nat):Str:=if wrd (ps.getD (3 * k) 0) ≠ "weigh" /\ T=1 then "weigh" else wrd (ps.getD (3 * k) 0)
noncomputable def adA (ps:List Int) (T k:Nat):Int:=if adW ps T k = "weigh" then (ps.getD (3 * k + 1) 0).fmod T else (ps.getD (3 * k + 1) 0).fmod ((T:Int) - 1)
noncomputable def adS (ps:List Int) (T g k:Nat):Stp:=(adW ps T k,(adA ps T k).toNat,wgt (ps.getD (3 * k + 2) 0) g)
theorem om {g:Nat} (h:g<=40):0 < adB g/\aK (adB g):=by
 unfold adB
 have hk:(2 * (if (g:Int) > 1 then (g:Int) else 1).toNat)<=80:=by split <;> omega
 generalize (2 * (if (g:Int) > 1 then (g:Int) else 1).toNat)=k at hk
 have h1:(10:Nat) ^ k<=10 ^ 80:=Nat.pow_le_pow_right (by decide) hk
 have h2:0 < (10:Nat) ^ k:=Nat.pow_pos (by decide)
 have e:(10:Int) ^ k * 28=((10 ^ k * 28:Nat):Int):=by simp
 rw [e]
 have h3:Bd 300 ((10 ^ k * 28:Nat):Int):=by
   unfold Bd
   rw [Int.natAbs_natCast]
   exact Nat.lt_of_le_of_lt (Nat.mul_le_mul_right 28 h1) (by decide)
 exact ⟨by omega,h3.aK (by omega) (by decide)⟩
theorem rK {c:Int} {n g k:Nat} (h:g<=40) (hk:k < n):0<=(adP c n g).getD (3 * k) 0/\(adP c n g).getD (3 * k) 0 < 3:=by
 have hp:∀ b ∈ (List.replicate n [3,7,adB g]).flatten,0 < b:=λb hb=>by
   have:=om h
   rcases jO hb with rfl | rfl | rfl <;> omega
 have:=eo (c:=c) hp (i:=3 * k) (by rw [et]; omega)
 rw [(ku n k hk).1] at this
 exact this
theorem kE {ps:List Int} {T k:Nat} (hT:1<=T):0<=adA ps T k/\(adW ps T k = "weigh" -> adA ps T k < T)/\(adW ps T k ≠ "weigh" -> 2<=T/\adA ps T k + 1 < T):=by
 unfold adA
 split
 · rename_i h
   have:=fm (a:=ps.getD (3 * k + 1) 0) (b:=T) (by omega)
   exact ⟨this.1,λ_=>this.2,λz=>absurd h z⟩
 · rename_i h
   have hT1:T ≠ 1:=λz=>h (by
     unfold adW
     split
     · rfl
     · rename_i y
       exact Decidable.byContradiction λx=>y ⟨x,z⟩)
   have:=fm (a:=ps.getD (3 * k + 1) 0) (b:=(T:Int) - 1) (by omega)
   exact ⟨this.1,λz=>absurd z h,λ_=>by omega⟩
theorem p8 (i:Int):wrd i = "weigh" \/ wrd i = "down" \/ wrd i = "up":=by
 unfold wrd
 split
 · exact .inr (.inl rfl)
 · split
   · exact .inr (.inr rfl)
   · exact .inl rfl
theorem lz {ps:List Int} {T g k:Nat} (hT:1<=T) (hg:g<=40):okS T (adS ps T g k)/\Sq 140 (adS ps T g k).2.2:=by
 obtain ⟨h1,h2,h3⟩:=kE (ps:=ps) (k:=k) hT
 have hw:=oR (ps.getD (3 * k + 2) 0) hg
 refine ⟨⟨hw.1,?_⟩,hw.2⟩
 by_cases e:adW ps T k = "weigh"
 · exact .inl ⟨e,by have:=h2 e; show (adA ps T k).toNat < T; omega⟩
 · refine .inr ⟨?_,by have:=h3 e; show (adA ps T k).toNat + 1 < T; omega⟩
   show adW ps T k = "down" \/ adW ps T k = "up"
   unfold adW at e ⊢
   split at e
   · exact absurd rfl e
   · rename_i y
     rw [if_neg y]
     exact (p8 _).resolve_left e
noncomputable def c3 (ds:List D) (r:Sl):Prop:=∃ (c:Int) (T R C n g:Nat),ds=[.int c,.int T,.int R,.int C,.int n,.int g]/\1<=T/\n<=30/\g<=40/\r=.d (cA T R C ((List.range n).map (adS (adP c n g) T g)))
theorem l6 {α:Type} (f:Nat->α) {n i:Nat} (h:i < n) (d:α):((List.range n).map f).getD i d=f i:=by simp [h]
noncomputable def drT (m:Nat) (c:Int):Nat:=(szT m c).toNat
noncomputable def drR (m:Nat) (c:Int):Nat:=(szR m c).toNat
noncomputable def drC (m:Nat) (c:Int):Nat:=(szC m c).toNat
noncomputable def drS (m:Nat) (c o:Int) (g:Nat):List Stp:=(List.range ((szP m c).getD 5 0).toNat).map (adS (adP o ((szP m c).getD 5 0).toNat g) (drT m c) g)
noncomputable def dM (ds:List D) (r:Sl):Prop:=∃ (m:Nat) (c o:Int) (g:Nat),ds=[.int c,.int o,.int m,.int g]/\g<=40/\m<=30/\r=.d (cA (drT m c) (drR m c) (drC m c) (drS m c o g))
theorem sf {m:Nat} (c o:Int) {g:Nat} (hg:g<=40) (hm:m<=30):okL (drT m c) (drR m c) (drC m c) (drS m c o g)/\(∀ i,i < (drS m c o g).length->Sq 140 ((drS m c o g).getD i ("weigh",0,0)).2.2)/\(drS m c o g).length<=m:=by
 obtain ⟨h1,h2,h3,h4,h5,h6,h7,h8⟩:=mh m c
 have hl:(drS m c o g).length=((szP m c).getD 5 0).toNat:=by simp [drS]
 have ha:∀ i,i < (drS m c o g).length->(drS m c o g).getD i ("weigh",0,0)=adS (adP o ((szP m c).getD 5 0).toNat g) (drT m c) g i:=λi hi=>by
   rw [hl] at hi
   exact l6 _ hi _
 have hT:1<=drT m c:=by unfold drT; omega
 refine ⟨⟨hT,?_,?_,?_,?_,?_,?_,λi hi=>?_⟩,λi hi=>?_,by omega⟩
 · unfold drT; omega
 · unfold drR; omega
 · unfold drT drR; omega
 · unfold drC; omega
 · unfold drT drC; omega
 · omega
 · rw [ha i hi]; exact (lz hT hg).1
 · rw [ha i hi]; exact (lz hT hg).2
section
variable {P:Program} {w:World} {K:PySem.W.Frag} {mg:Str->Option Value} {base:Heap} {k:Nat} {f:Addr} {fd:FuncData} {qual:Str}
theorem gS (F:Fun K "_law_divisor" qual (top 66) f fd) (hb:∀ x ∈ ak,mg x=none):aO P w K mg base CX0 (k + 1) f fd ["_law_one","_law_other"] (spD K cF):=by
 refine fnD F dg hb (by rintro _ _ ⟨_,_,rfl,_⟩; rfl) ?_
 rintro _ _ ⟨x,y,rfl,rfl⟩ cdv A outer s H E b
 have nd:=dg.nd
 refine aE 0 nd (cY b (aa (ae 0) ah) ib) (aE 1 nd (cY b (aa (ae 1) ah) ib) ?_)
 rw [di,di]
 refine jQ (λn t τ=>∃ (g:Nat) (s2:Sl),Nat.gcd g n=Int.gcd x y/\t=(decide ((0:Int) < n))/\τ=[.d (.int g),.d (.int n),s2]) b ⟨_,_,_,_,rfl,rfl,rfl⟩ (λn t τ h=>?_) (λn τ h=>?_) λn τ h=>?_
 · obtain ⟨g,s2,_,rfl,rfl⟩:=h
   exact aY (ae 1) af qv
 · obtain ⟨g,s2,hg,ht,rfl⟩:=h
   have hl:n ≠ 0:=λz=>by simp [z] at ht
   have e:(g:Int).fmod n=((g % n:Nat):Int):=by rw [Int.fmod_eq_emod_of_nonneg _ (by omega)]; rfl
   refine aE 2 nd (aD (ae 0) (ae 1) (bj (by omega))) ?_
   rw [e]
   refine aE 0 nd (ae 1) (aE 1 nd (ae 2) (bD ⟨g % n,_,Nat.mod_lt g (Nat.pos_of_ne_zero hl),n,_,?_,rfl,rfl⟩))
   rw [<- hg,Nat.gcd_comm n,<- Nat.gcd_rec,Nat.gcd_comm]
 · obtain ⟨g,s2,hg,ht,rfl⟩:=h
   have hl:n=0:=by have:=of_decide_eq_false ht.symm; omega
   refine aH (ae 0) ?_
   rw [<- hg,hl,Nat.gcd_zero_right]
theorem j3 (F:Fun K "_law_made" qual (top 67) f fd) (hb:∀ x ∈ ak,mg x=none) (c_l_divisor:Cal P w K mg base k "_law_divisor" cF):aO P w K mg base CX0 (k + 1) f fd ["_law_top","_law_bottom"] (spD K eR):=by
 refine fnD F gk hb (by rintro _ _ ⟨_,_,_,rfl,_⟩; rfl) ?_
 rintro _ _ ⟨t,c,q,rfl,h0,h1,hq,rfl⟩ cdv A outer s H E b
 have nd:=gk.nd
 have dv:aK (Int.gcd t c:Int):=(h1.gcd (by omega)).aK (pF (by omega)) (by decide)
 obtain ⟨e1,e2⟩:=fB h0 hq
 refine aE 2 nd (x_call b c_l_divisor (aa (ae 0) (aa (ae 1) ah)) ⟨_,_,rfl,rfl⟩) (aH (cG (aa (aD (ae 0) (ae 2) (cC dv)) (aa (aD (ae 1) (ae 2) (cC dv)) ah))) ?_)
 rw [hX,hX,<- e1,<- e2]
 rfl
theorem ke (F:Fun K "_law_cell" qual (top 64) f fd) (hb:∀ x ∈ ak,mg x=none):aO P w K mg base CX0 (k + 1) f fd ["_law_script","_law_k"] (spD K eC):=by
 refine fnD F jZ hb (by rintro _ _ ⟨_,_,rfl,_⟩; rfl) ?_
 rintro _ _ ⟨ns,n,rfl,rfl⟩ cdv A outer s H E b
 refine bo (aY (ae 1) (cY b (aa (ae 0) ah) jM) sS) (λh=>?_) λh=>?_
 · have h:=of_decide_eq_true h
   rw [List.length_map] at h
   exact aH (aJ (ae 0) (ae 1) (ba (bu (by omega) (by omega)))) rfl
 · have h:=of_decide_eq_false h
   rw [List.length_map] at h
   refine aH af ?_
   show Sl.d (.int 0)=_
   rw [getD_none (by omega)]
theorem lE (F:Fun K "_law_ten" qual (top 63) f fd) (hb:∀ x ∈ ak,mg x=none):aO P w K mg base CX0 (k + 1) f fd ["_law_many"] (spD K en):=by
 refine fnD F ia hb (by rintro _ _ ⟨_,rfl,_⟩; rfl) ?_
 rintro _ _ ⟨n,rfl,hn,rfl⟩ cdv A outer s H E b
 have nd:=ia.nd
 refine aE 1 nd af ?_
 refine je 2 (λi τ=>∃ s2,τ=[.d (.int n),.d (.int (10 ^ i)),s2]) b nd (mm b (ae 0) (by omega) (by omega)) jP ⟨_,rfl⟩ (λi hi τ h=>?_) λτ h=>?_
 · obtain ⟨s2,rfl⟩:=h
   refine aE 1 nd (aD af (ae 1) (bY (mkL (by decide)))) (bD ⟨.d (.int (i:Nat)),?_⟩)
   rw [Int.pow_succ,Int.mul_comm]
   rfl
 · obtain ⟨s2,rfl⟩:=h
   refine aH (ae 1) ?_
   rw [a9,Int.toNat_natCast]
theorem iA (F:Fun K "_law_weight" qual (top 69) f fd) (hb:∀ x ∈ ak,mg x=none) (c_l_made:Cal P w K mg base k "_law_made" eR) (c_l_ten:Cal P w K mg base k "_law_ten" en):aO P w K mg base CX0 (k + 1) f fd ["_law_part","_law_figures"] (spD K c9):=by
 refine fnD F ed hb (by rintro _ _ ⟨_,_,rfl,_⟩; rfl) ?_
 rintro _ _ ⟨p,g,rfl,hg,rfl⟩ cdv A outer s H E b
 have nd:=ed.nd
 obtain ⟨h1,h2,h3,h4⟩:=kS p hg
 have hm:=gA p hg
 refine bo (aY (ae 1) af qv) (λh=>?_) λh=>?_
 · have h0:0 < g:=by have:=of_decide_eq_true h; omega
   have t2:=jD h0
   have eT:wgT p g=p.fmod (10 ^ g):=if_pos h0
   have eB:wgB p g=1 + (p.fdiv (10 ^ g)).fmod (10 ^ g - 1):=if_pos h0
   have dv:aK ((10:Int) ^ g):=(ic (by omega) (kD hg)).aK (by omega) (by decide)
   refine aE 2 nd (x_call b c_l_ten (aa (ae 1) ah) ⟨g,rfl,by omega,rfl⟩) ?_
   exact aH (x_call b c_l_made (aa (aD (ae 0) (ae 2) (bj (by omega))) (aa (aD af (aD (aD (ae 0) (ae 2) (cC dv)) (aD (ae 2) af fZ) (bj (by omega))) a8) ah)) ⟨wgT p g,wgB p g,wgt p g,by rw [eT,eB],h3,h4.mono (by decide),hm,rfl⟩) rfl
 · have h0:g=0:=by have:=of_decide_eq_false h; omega
   subst h0
   exact aH (x_call b c_l_made (aa (aD (ae 0) af (bj (by decide))) (aa (aD af (aD (aD (ae 0) af (cC (mkD (by decide) (by decide)))) af (bj (by decide))) a8) ah)) ⟨wgT p 0,wgB p 0,wgt p 0,rfl,h3,h4.mono (by decide),hm,rfl⟩) rfl
theorem iO (F:Fun K "_law_sizes" qual (top 71) f fd) (hb:∀ x ∈ ak,mg x=none) (c_l_numbers:Cal P w K mg base k "_law_numbers" bA):aO P w K mg base CX0 (k + 1) f fd ["_law_cell_here","_law_most"] (spD K dY):=by
 refine fnD F eU hb (by rintro _ _ ⟨_,_,rfl,_⟩; rfl) ?_
 rintro _ _ ⟨m,c,rfl,hm,rfl⟩ cdv A outer s H E b
 have nd:=eU.nd
 have hok:=mh m c
 have hl:(szP m c).length=6:=fj ..
 refine aE 2 nd (x_call b c_l_numbers (aa (ae 0) (aa (br (a6 (aa af (aa af (aa af (aa af (aa af (aa (aD (ae 1) af a8) ah)))))))) ah)) ⟨c,[8,4,7,7,7,(m:Int) + 1],rfl,by simp,λb hb=>kA (by simp at hb; omega) (by simp at hb; omega),rfl⟩) (eO 2 ?_)
 refine aE 3 nd (aD af (aJ (ae 2) af (ba (bu (ns:=szP m c) (i:=1) (by decide) (by rw [hl]; decide)))) a8) ?_
 refine gX (M:=λτ=>τ=[.d (.int c),.d (.int m),.d (.lst ((szP m c).map .int)),.d (.int (szT m c))]) (aY (aJ (ae 2) af (ba (bu (ns:=szP m c) (i:=0) (by decide) (by rw [hl]; decide)))) af g9) (λh=>?_) (λh=>?_) ?_
 · refine aE 3 nd (aD af (aJ (ae 2) af (ba (bu (ns:=szP m c) (i:=2) (by decide) (by rw [hl]; decide)))) a8) (bD ?_)
   unfold szT
   rw [if_pos (show (szP m c).getD 0 0=1 from of_decide_eq_true h)]
   rfl
 · refine bD ?_
   unfold szT
   rw [if_neg (show ¬ (szP m c).getD 0 0=1 from of_decide_eq_false h)]
   rfl
 · rintro _ rfl
   exact aH (cG (aa (ae 3) (aa (aD af (aD (aJ (ae 2) af (ba (bu (ns:=szP m c) (i:=3) (by decide) (by rw [hl]; decide)))) (ae 3) (bj (by omega))) a8) (aa (aD af (aD (aJ (ae 2) af (ba (bu (ns:=szP m c) (i:=4) (by decide) (by rw [hl]; decide)))) (ae 3) (bj (by omega))) a8) (aa (aJ (ae 2) af (ba (bu (ns:=szP m c) (i:=5) (by decide) (by rw [hl]; decide)))) ah))))) rfl
theorem iD (F:Fun K "_law_ladder" qual (top 70) f fd) (hb:∀ x ∈ ak,mg x=none) (c_l_numbers:Cal P w K mg base k "_law_numbers" bA) (c_l_weight:Cal P w K mg base k "_law_weight" c9) (c_l_ten:Cal P w K mg base k "_law_ten" en):aO P w K mg base CX0 (k + 1) f fd ["_law_cell_here","_law_tracks","_law_rows","_law_columns","_law_many","_law_figures"] (spD K c3):=by
 refine fnD F dZ hb (by rintro _ _ ⟨_,_,_,_,_,_,rfl,_⟩; rfl) ?_
 rintro _ _ ⟨c,T,R,C,n,g,rfl,hT,hn,hg,rfl⟩ cdv A outer s H E b
 have nd:=dZ.nd
 have hmx:0<=(if (g:Int) > 1 then (g:Int) else 1)/\(if (g:Int) > 1 then (g:Int) else 1)<=40:=by split <;> omega
 have hB:=om hg
 have hlen:(adP c n g).length=3 * n:=by unfold adP; rw [fj,et]
 refine aE 6 nd (x_call b c_l_numbers (aa (ae 0) (aa (br (jU (br (a6 (aa af (aa af (aa (aD (x_call b c_l_ten (aa (aD af (cY b (aa af (aa (ae 5) ah)) (rj b.calm)) (bY (mkL (by decide)))) ah) ⟨2 * (if (g:Int) > 1 then (g:Int) else 1).toNat,?_,by omega,rfl⟩) af (bY (mkR (by decide)))) ah))))) (ae 4) (by omega) (by omega) ?_)) ah)) ⟨c,(List.replicate n [3,7,adB g]).flatten,?_,?_,?_,rfl⟩) ?_
 · congr 2; omega
 · simp; omega
 · rw [Int.toNat_natCast,<- ni]; rfl
 · rw [et]; omega
 · intro x hx
   rcases jO hx with rfl | rfl | rfl
   · exact kA (by decide) (by decide)
   · exact kA (by decide) (by decide)
   · exact hB
 refine eO 6 ?_
 refine aE 7 nd (a6 ah) ?_
 refine je 8 (λi τ=>∃ s8 s9 s10,τ=[.d (.int c),.d (.int T),.d (.int R),.d (.int C),.d (.int n),.d (.int g),.d (.lst ((adP c n g).map .int)),.o (((List.range i).map (adS (adP c n g) T g)).map stD),s8,s9,s10]) b nd (mm b (ae 4) (by omega) (by omega)) jP ⟨_,_,_,rfl⟩ (λi hi τ h=>?_) λτ h=>?_
 · obtain ⟨s8,s9,s10,rfl⟩:=h
   have hi:i < n:=by rw [a9] at hi; omega
   have lt3:=rK (c:=c) hg hi
   have e0:(3 * (i:Int)).toNat=3 * i:=by omega
   have e1:(3 * (i:Int) + 1).toNat=3 * i + 1:=by omega
   have e2:(3 * (i:Int) + 2).toNat=3 * i + 2:=by omega
   have k0:atI ((adP c n g).map D.int) (3 * (i:Int))=some (.int ((adP c n g).getD (3 * i) 0)):=by rw [<- e0]; exact bu (by omega) (by omega)
   have k1:atI ((adP c n g).map D.int) (3 * (i:Int) + 1)=some (.int ((adP c n g).getD (3 * i + 1) 0)):=by rw [<- e1]; exact bu (by omega) (by omega)
   have k2:atI ((adP c n g).map D.int) (3 * (i:Int) + 2)=some (.int ((adP c n g).getD (3 * i + 2) 0)):=by rw [<- e2]; exact bu (by omega) (by omega)
   obtain ⟨a1,a2,a3⟩:=kE (ps:=adP c n g) (k:=i) hT
   refine aE 9 nd (aJ (br (a6 (aa aN (aa aN (aa aN ah))))) (aJ (ae 6) (aD af (ae 8) (bY (mkL (by decide)))) (ba k0)) (ba (pw lt3.1 lt3.2))) ?_
   refine aE 10 nd (aD (aJ (ae 6) (aD (aD af (ae 8) (bY (mkL (by decide)))) af a8) (ba k1)) (ae 1) (bj (by omega))) ?_
   refine gX (M:=λτ=>τ=[.d (.int c),.d (.int T),.d (.int R),.d (.int C),.d (.int n),.d (.int g),.d (.lst ((adP c n g).map .int)),.o (((List.range i).map (adS (adP c n g) T g)).map stD),.d (.int i),.d (.str (adW (adP c n g) T i)),.d (.int (((adP c n g).getD (3 * i + 1) 0).fmod T))]) (PW.pt (rM (aY (ae 9) aN oq) λh=>(oF (aY (ae 1) af g9)))) (λh=>?_) (λh=>?_) ?_
   · refine aE 9 nd aN (bD ?_)
     have:wrd ((adP c n g).getD (3 * i) 0) ≠ "weigh" /\ T=1:=by
       simp only [Bool.and_eq_true,Bool.not_eq_true',decide_eq_true_eq,decide_eq_false_iff_not] at h
       exact ⟨h.1,by omega⟩
     unfold adW
     rw [if_pos this]
     rfl
   · refine bD ?_
     have:¬ (wrd ((adP c n g).getD (3 * i) 0) ≠ "weigh" /\ T=1):=λ⟨z1,z2⟩=>by
       rw [decide_eq_false z1,decide_eq_true (show (T:Int)=1 by omega)] at h
       cases h
     unfold adW
     rw [if_neg this]
     rfl
   · rintro _ rfl
     refine gX (M:=λτ=>τ=[.d (.int c),.d (.int T),.d (.int R),.d (.int C),.d (.int n),.d (.int g),.d (.lst ((adP c n g).map .int)),.o (((List.range i).map (adS (adP c n g) T g)).map stD),.d (.int i),.d (.str (adW (adP c n g) T i)),.d (.int (adA (adP c n g) T i))]) (aY (ae 9) aN oq) (λh=>?_) (λh=>?_) ?_
     · have h:adW (adP c n g) T i ≠ "weigh":=by simpa using h
       have:=a3 h
       refine aE 10 nd (aD (aJ (ae 6) (aD (aD af (ae 8) (bY (mkL (by decide)))) af a8) (ba k1)) (aD (ae 1) af fZ) (bj (by omega))) (bD ?_)
       unfold adA
       rw [if_neg h]
       rfl
     · have h:adW (adP c n g) T i = "weigh":=by simpa using h
       refine bD ?_
       unfold adA
       rw [if_pos h]
     · rintro _ rfl
       refine ir 7 (cG (aa (ae 9) (aa (ae 10) (aa (x_call b c_l_weight (aa (aJ (ae 6) (aD (aD af (ae 8) (bY (mkL (by decide)))) af a8) (ba k2)) (aa (ae 5) ah)) ⟨_,g,rfl,hg,rfl⟩) ah)))) ?_ (bD ⟨.d (.int i),.d (.str (adW (adP c n g) T i)),.d (.int (adA (adP c n g) T i)),?_⟩)
       · rw [List.length_map,List.length_map,List.length_range]; omega
       · rw [List.range_succ,List.map_append,List.map_append]
         have:((adA (adP c n g) T i).toNat:Int)=adA (adP c n g) T i:=Int.toNat_of_nonneg a1
         show _=[_,_,_,_,_,_,_,Sl.o (_++[D.tup [.str _,.int ((adA (adP c n g) T i).toNat:Int),frD _]]),_,_,_]
         rw [this]
         rfl
 · obtain ⟨s8,s9,s10,rfl⟩:=h
   rw [a9,Int.toNat_natCast]
   exact aH (cG (aa (ae 1) (aa (ae 2) (aa (ae 3) (aa (k7 7) ah))))) rfl
theorem i7 (F:Fun K "_law_drawn" qual (top 72) f fd) (hb:∀ x ∈ ak,mg x=none) (c_l_sizes:Cal P w K mg base k "_law_sizes" dY) (c_l_ladder:Cal P w K mg base k "_law_ladder" c3):aO P w K mg base CX0 (k + 1) f fd ["_law_one","_law_other","_law_most","_law_figures"] (spD K dM):=by
 refine fnD F eN hb (by rintro _ _ ⟨_,_,_,_,rfl,_⟩; rfl) ?_
 rintro _ _ ⟨m,c,o,g,rfl,hg,hm,rfl⟩ cdv A outer s H E b
 have nd:=eN.nd
 obtain ⟨h1,h2,h3,h4,h5,h6,h7,h8⟩:=mh m c
 refine aE 4 nd (x_call b c_l_sizes (aa (ae 0) (aa (ae 2) ah)) ⟨m,c,rfl,by omega,rfl⟩) ?_
 refine aH (x_call b c_l_ladder (aa (ae 1) (aa (aJ (ae 4) af (aL (aA (i:=0) rfl))) (aa (aJ (ae 4) af (aL (aA (i:=1) rfl))) (aa (aJ (ae 4) af (aL (aA (i:=2) rfl))) (aa (aJ (ae 4) af (aL (aA (i:=3) rfl))) (aa (ae 3) ah)))))) ⟨o,drT m c,drR m c,drC m c,((szP m c).getD 5 0).toNat,g,?_,?_,?_,hg,rfl⟩) rfl
 · unfold drT drR drC
   rw [Int.toNat_of_nonneg (by omega),Int.toNat_of_nonneg (by omega),Int.toNat_of_nonneg (by omega),Int.toNat_of_nonneg (by omega)]
 · unfold drT; omega
 · omega
end
noncomputable def cpN (T R C:Nat) (ss:List Stp):Nd:=.t [.d (.int T),.d (.int R),.d (.int C),.l ((ss.map stD).map .d)]
noncomputable def c8 (ds:List D) (r:Sl):Prop:=∃ (T R C:Nat) (ss:List Stp),ds=[cA T R C ss]/\r=.n (cpN T R C ss)
mutual
theorem iC:∀ x:D,Ev.eqD x x=true
 | .non=>by rw [Ev.eqD]
 | .bl a=>by simp [Ev.eqD]
 | .int a=>by simp [Ev.eqD]
 | .str a=>by simp [Ev.eqD]
 | .tup xs=>by rw [Ev.eqD]; exact dU xs
 | .lst xs=>by rw [Ev.eqD]; exact dU xs
 | .box x=>by rw [Ev.eqD]
theorem dU:∀ xs:List D,Ev.eE xs xs=true
 | []=>by rw [Ev.eE]
 | x :: xs=>by rw [Ev.eE,iC x,dU xs]; rfl
end
theorem qD {T:Nat} {s:Stp} (h:okS T s):Ev.cln (stD s)=true/\Ev.dep (stD s)<=2:=by
 obtain ⟨u,n,q⟩:=s
 have hu:PyData.strOk u=true:=by
   rcases h.2 with z | z
   · obtain rfl:u = "weigh":=z.1
     decide +kernel
   · rcases z.1 with y | y
     · obtain rfl:u = "down":=y
       decide +kernel
     · obtain rfl:u = "up":=y
       decide +kernel
 simp [stD,frD,Ev.cln,Ev.dN,Ev.dep,Ev.eJ,hu]
theorem jC {T:Nat}:∀ (ss:List Stp),(∀ s ∈ ss,okS T s)->Ev.dN (ss.map stD)=true/\Ev.eJ (ss.map stD)<=2
 | [],_=>by simp [Ev.dN,Ev.eJ]
 | s :: ss,h=>by
   obtain ⟨h1,h2⟩:=qD (h s (List.mem_cons_self ..))
   obtain ⟨h3,h4⟩:=jC ss λs hs=>h s (List.mem_cons_of_mem _ hs)
   rw [List.map_cons,Ev.dN,Ev.eJ,h1,h3]
   exact ⟨rfl,by omega⟩
theorem okL.mem {T R C:Nat} {ss:List Stp} (h:okL T R C ss):∀ s ∈ ss,okS T s:=λs hs=>by
 obtain ⟨i,hi,rfl⟩:=List.getElem_of_mem hs
 have:=h.st i hi
 simpa [hi] using this
theorem kO {T R C:Nat} {ss:List Stp} (h:okL T R C ss):Ev.cB (cA T R C ss):=by
 obtain ⟨h1,h2⟩:=jC ss h.mem
 unfold cA Ev.cB
 simp only [Ev.cln,Ev.dN,Ev.dep,Ev.eJ,h1]
 refine ⟨rfl,by omega⟩
theorem gZ (xs:List D):iL (xs.map .d)=xs:=by
 induction xs with
 | nil=>rfl
 | cons x xs ih=>rw [List.map_cons,iL,ndD,ih]
theorem sk (T R C:Nat) (ss:List Stp):ndD (cpN T R C ss)=cA T R C ss:=by
 unfold cpN cA
 simp only [ndD,iL,gZ]
theorem oY {T:Nat} {s:Stp} (h:okS T s):isS T (stD s)=true:=by
 have hw:isW (frD s.2.2)=true:=by
   have:ft (frD s.2.2)=true:=nK _
   show ((decide _ && decide _) && decide (s.2.2.num ≥ 0))=true
   rw [show (decide ((1:Int)<=(s.2.2.den:Nat)) && decide ((Int.gcd s.2.2.num (s.2.2.den:Nat):Int)=1))=true from this,decide_eq_true h.1]
   rfl
 show (isW (frD s.2.2) && (if Ev.eqD (.str s.1) (.str "weigh")=true then aW (.int (s.2.1:Nat)) 0 ((T:Int) - 1) else inS ["down","up"] (.str s.1) && aW (.int (s.2.1:Nat)) 0 ((T:Int) - 2)))=true
 rw [hw]
 rcases h.2 with ⟨e,h⟩ | ⟨e,h⟩
 · rw [e,if_pos (by decide +kernel)]
   show (true && (decide (0<=((s.2.1:Nat):Int)) && decide (((s.2.1:Nat):Int)<=(T:Int) - 1)))=true
   rw [decide_eq_true (by omega),decide_eq_true (by omega)]; rfl
 · have hb:aW (.int (s.2.1:Nat)) 0 ((T:Int) - 2)=true:=by
     show (decide (0<=((s.2.1:Nat):Int)) && decide (((s.2.1:Nat):Int)<=(T:Int) - 2))=true
     rw [decide_eq_true (by omega),decide_eq_true (by omega)]; rfl
   rw [hb]
   rcases e with e | e <;> rw [e,if_neg (by decide +kernel)] <;> decide +kernel
theorem btI {i l m:Int} (h:l<=i/\i<=m):aW (.int i) l m=true:=by
 show (decide (l<=i) && decide (i<=m))=true
 rw [decide_eq_true h.1,decide_eq_true h.2]; rfl
theorem kI {T R C:Nat} (h1:1<=T) (h2:T<=7) (h3:1<=R) (h4:R<=T) (h5:1<=C) (h6:C<=T) (s:D):isL (.tup [.int T,.int R,.int C,s])=iV T s:=by
 show (aW (.int T) 1 7 && ((aW (.int R) 1 T && aW (.int C) 1 T) && iV T s))=_
 rw [btI (by omega),btI (by omega),btI (by omega)]; rfl
theorem ql {T R C:Nat} {ss:List Stp} (h:okL T R C ss):isL (cA T R C ss)=true:=by
 refine (kI h.t1 h.t7 h.r1 h.rT h.c1 h.cT _).trans ?_
 show (decide ((ss.map stD).length<=400) && (ss.map stD).all (isS T))=true
 rw [decide_eq_true (by rw [List.length_map]; exact h.len),List.all_eq_true.mpr]; rfl
 intro x hx
 obtain ⟨s,hs,rfl⟩:=List.mem_map.mp hx
 exact oY (h.mem s hs)
theorem mH {T R C:Nat} {ss:List Stp} (h:okL T R C ss):ldO (cA T R C ss):=bM λy hy=>by
 obtain ⟨s,hs,rfl⟩:=List.mem_map.mp hy
 exact qx (h.mem s hs)
theorem rF {α β:Type} (g:α->β) (x:α):∀ (m:Nat) (ys:List α),(ys.map g).insertIdx m (g x)=(ys.insertIdx m x).map g
 | 0,_=>rfl
 | m + 1,[]=>rfl
 | m + 1,y :: ys=>by rw [List.map_cons,List.insertIdx_succ_cons,List.insertIdx_succ_cons,List.map_cons,rF g x m ys]
theorem jg {α:Type} {x z:α}:∀ {m:Nat} {ys:List α},z ∈ ys.insertIdx m x->z=x\/z ∈ ys
 | 0,_,h=>(List.mem_cons.mp h)
 | m + 1,[],h=>nomatch h
 | m + 1,y :: ys,h=>by
   rw [List.insertIdx_succ_cons] at h
   rcases List.mem_cons.mp h with h | h
   · exact .inr (h ▸ List.mem_cons_self ..)
   · exact (jg h).imp id (List.mem_cons_of_mem _)
theorem l3 {α:Type} {x:α}:∀ {m:Nat} {ys:List α},m<=ys.length->x ∈ ys.insertIdx m x
 | 0,_,_=>List.mem_cons_self ..
 | m + 1,[],h=>absurd h (Nat.not_succ_le_zero _)
 | m + 1,y :: ys,h=>by
   rw [List.insertIdx_succ_cons]
   exact List.mem_cons_of_mem _ (l3 (by simpa using h))
theorem nk {T R C:Nat} {ss:List Stp} (h:okL T R C ss) {x:D} (hx:nsP T x) {m:Nat} (hm:m<=ss.length):nlP (.tup [.int T,.int R,.int C,.lst ((ss.map stD).insertIdx m x)]):=by
 refine ⟨nls ?_,bM λy hy=>?_⟩
 · show (_ && List.all _ (isS T))=false
   rw [Bool.and_eq_false_iff]
   refine .inr (Bool.eq_false_iff.mpr λz=>?_)
   have:=List.all_eq_true.mp z x (l3 (by rw [List.length_map]; exact hm))
   rw [hx.1] at this
   cases this
 · rcases jg hy with rfl | hy
   · exact hx.2
   · obtain ⟨s,hs,rfl⟩:=List.mem_map.mp hy
     exact qx (h.mem s hs)
noncomputable def st1:D:=.tup [.str "weigh",.int 0,.tup [.int 1,.int 1]]
theorem oQ (n:Nat):(List.replicate n [st1]).flatten.length=n:=by simp
theorem kG {n:Nat} {y:D} (h:y ∈ (List.replicate n [st1]).flatten):y=st1:=by
 obtain ⟨l,h1,h2⟩:=List.mem_flatten.mp h
 rw [(List.mem_replicate.mp h1).2] at h2
 exact List.mem_singleton.mp h2
theorem rh (n:Nat):isL (.tup [.int 1,.int 1,.int 1,.lst (List.replicate n [st1]).flatten])=decide (n<=400):=by
 refine (kI (T:=1) (R:=1) (C:=1) (by decide) (by decide) (by decide) (by decide) (by decide) (by decide) _).trans ?_
 show (decide (_<=400) && List.all _ (isS 1))=_
 rw [oQ,List.all_eq_true.mpr,Bool.and_true]
 intro x hx
 rw [kG hx]
 decide +kernel
theorem rD (n:Nat):ldO (.tup [.int 1,.int 1,.int 1,.lst (List.replicate n [st1]).flatten]):=bM λy hy=>by
 rw [kG hy]
 exact λ_ _ _ e=>by cases e; exact ⟨rfl,by decide +kernel⟩
theorem sR:aK ((10:Int) ^ 50):=(show Bd 170 ((10:Int) ^ 50) by unfold Bd; decide).aK (by decide) (by decide)
noncomputable def jv (ds:List D) (r:Sl):Prop:=∃ ns:List Int,ns.length<=63/\ds=[.lst (ns.map .int)]/\r=.d (.bl true)
section
variable {P:Program} {w:World} {K:PySem.W.Frag} {mg:Str->Option Value} {base:Heap} {k:Nat} {f:Addr} {fd:FuncData} {qual:Str}
theorem g0 (F:Fun K "_law_copied" qual (top 73) f fd) (hb:∀ x ∈ ak,mg x=none):aO P w K mg base CX0 (k + 1) f fd ["_law_ladder_here"] (spD K c8):=by
 refine fnD F iy hb (by rintro _ _ ⟨_,_,_,_,rfl,_⟩; rfl) ?_
 rintro _ _ ⟨T,R,C,ss,rfl,rfl⟩ cdv A outer s H E b
 exact aH (kL (cM (aJ (ae 0) af (aL (aA (i:=0) rfl))) rfl (cM (aJ (ae 0) af (aL (aA (i:=1) rfl))) rfl (cM (aJ (ae 0) af (aL (aA (i:=2) rfl))) rfl (cM (pW b (aa (aJ (ae 0) af (aL (aA (i:=3) rfl))) ah) lI) rfl og))))) rfl
set_option maxHeartbeats 1000000 in
theorem oH (F:Fun K "law" qual (top 78) f fd) (hb:∀ x ∈ ak,mg x=none) (c_l_drawn:Cal P w K mg base k "_law_drawn" dM) (c_l_copied:Cal P w K mg base k "_law_copied" c8) (c_l_numbers:Cal P w K mg base k "_law_numbers" bA) (c_l_no_ladder:Cal P w K mg base k "_law_no_ladder" bR) (c_l_cell:Cal P w K mg base k "_law_cell" eC) (c_l_told:Cal P w K mg base k "_law_told" fG) (c_l_no_step:Cal P w K mg base k "_law_no_step" cK):aO P w K mg base CX0 (k + 1) f fd ["_law_script"] (spD K jv):=by
 refine fnD F kR hb (by rintro _ _ ⟨_,_,rfl,_⟩; rfl) ?_
 rintro _ _ ⟨ns,hn,rfl,rfl⟩ cdv A outer s H E b
 have nd:=kR.nd
 have ex:∃ ms:List Int,ms.length<=64/\[D.int (ns.getD 0 0)]++Hy.cutD (ns.map D.int) (some 2) (some 14)=ms.map D.int:=by
   refine ⟨ns.getD 0 0 :: ((ns.take 14).drop 2),by simp; omega,?_⟩
   rw [show (2:Int)=((2:Nat):Int) from rfl,show (14:Int)=((14:Nat):Int) from rfl,nc,<- List.map_take,<- List.map_drop]
   rfl
 obtain ⟨ms,hms,ems⟩:=ex
 have eqT:Ev.cB st1:=by decide +kernel
 refine je 1 (g:=λi=>.int (ms.getD i 0)) (λi τ=>∃ s1 s2 s3 s4 s5 s6,τ=[.d (.lst (ns.map .int)),s1,s2,s3,s4,s5,s6,.un]) b nd (jc (br (fo (br (a6 (aa (x_call b c_l_cell (aa (ae 0) (aa af ah)) ⟨ns,0,rfl,rfl⟩) ah))) (br (tj (ae 0) (mn af) (mn af))) ?_))) ?_ ⟨.un,.un,.un,.un,.un,.un,rfl⟩ (λi hi τ h=>?_) λτ h=>?_
 · have:=congrArg List.length ems
   rw [List.length_append,List.length_map] at this
   show [D.int (ns.getD 0 0)].length + _ < _
   omega
 · intro i h
   show ([D.int (ns.getD 0 0)]++Hy.cutD (ns.map D.int) (some 2) (some 14))[i]=_
   simp only [ems]
   have h:i < ms.length:=by
     have h:i < ([D.int (ns.getD 0 0)]++Hy.cutD (ns.map D.int) (some 2) (some 14)).length:=h
     rw [ems,List.length_map] at h
     exact h
   simp [h]
 · obtain ⟨s1,s2,s3,s4,s5,s6,rfl⟩:=h
   generalize ms.getD i 0=c
   refine aE 2 nd (x_call b c_l_drawn (aa (aD (x_call b c_l_cell (aa (ae 0) (aa af ah)) ⟨ns,1,rfl,rfl⟩) (ae 1) a8) (aa (ae 1) (aa af (aa af ah)))) ⟨20,_,_,0,rfl,by decide,by decide,rfl⟩) ?_
   obtain ⟨ok,_,l20⟩:=sf (m:=20) (ns.getD 1 0 + c) c (g:=0) (by decide) (by decide)
   generalize drT 20 (ns.getD 1 0 + c)=T at ok ⊢
   generalize drR 20 (ns.getD 1 0 + c)=R at ok ⊢
   generalize drC 20 (ns.getD 1 0 + c)=C at ok ⊢
   generalize drS 20 (ns.getD 1 0 + c) c 0=ss at ok l20 ⊢
   have fzc:fzD (.n (cpN T R C ss))=some (cA T R C ss):=congrArg some (sk T R C ss)
   refine aE 3 nd (x_call b c_l_copied (aa (ae 2) ah) ⟨T,R,C,ss,rfl,rfl⟩) ?_
   refine jk (PW.pt (b8 (bc (a7 (x_call b c_l_told (aa (ae 2) (aa cx ah)) ⟨_,true,rfl,mH ok,ql ok,rfl⟩))) λh=>(dh (aY (ae 2) (k7 3 (s:=.n (cpN T R C ss)) (hx:=fzc)) (nX b (kO ok) (kO ok)))))) ?_ ?_
   · rw [iC]; rfl
   have pb:∀ b ∈ ([2,10 ^ 50,21]:List Int),0 < b/\aK b:=by
     intro b hb
     simp only [List.mem_cons,List.not_mem_nil,or_false] at hb
     rcases hb with rfl | rfl | rfl
     · exact kA (by omega) (by omega)
     · exact ⟨by decide,sR⟩
     · exact kA (by omega) (by omega)
   refine aE 4 nd (br (x_call b c_l_numbers (aa (aD (ae 1) af a8) (aa (br (a6 (aa af (aa (aD af af (jh ⟨by decide,by decide,by decide⟩)) (aa af ah))))) ah)) ⟨c + 7,[2,10 ^ 50,21],rfl,by decide,pb,rfl⟩)) ?_
   have len3:(nums (c + 7) [2,10 ^ 50,21]).length=3:=fj ..
   generalize nums (c + 7) [2,10 ^ 50,21]=ps at len3
   have a0:atI (ps.map D.int) 0=some (.int (ps.getD 0 0)):=bu (i:=0) (by decide) (by rw [len3]; decide)
   have a1:atI (ps.map D.int) 1=some (.int (ps.getD 1 0)):=bu (i:=1) (by decide) (by rw [len3]; decide)
   have a2:atI (ps.map D.int) 2=some (.int (ps.getD 2 0)):=bu (i:=2) (by decide) (by rw [len3]; decide)
   refine aE 5 nd (x_call b c_l_no_ladder (aa (aJ (ae 4) af (ba a1)) (aa (ae 2) ah)) ⟨_,T,R,C,ss,rfl,rfl⟩) ?_
   have n1:nlP (nlD (ps.getD 1 0) T R C ss):=p9 ok.mem (oi ..).2
   generalize nlD (ps.getD 1 0) T R C ss=y at n1 ⊢
   refine gX (M:=λτ=>∃ z s6,nlP z/\τ=[.d (.lst (ns.map .int)),.d (.int c),.d (cA T R C ss),.n (cpN T R C ss),.d (.lst (ps.map .int)),.d z,s6,.un]) (aY (aJ (ae 4) af (ba a0)) af g9) (λh=>?_) (λh=>bD ⟨y,_,n1,rfl⟩) ?_
   · have hl:(ss.map stD).length=ss.length:=List.length_map ..
     refine aE 6 nd (aD (aJ (ae 4) af (ba a2)) (aD (cY b (aa (aJ (ae 2) af (aL (aA (i:=3) rfl))) ah) jM) af a8) (bj (by omega))) ?_
     have fm:=iI (a:=ps.getD 2 0) (b:=((ss.map stD).length:Int) + 1) (by omega)
     obtain ⟨m,em⟩:=Int.eq_ofNat_of_zero_le fm.1
     rw [em] at fm ⊢
     have hm:m<=ss.length:=by omega
     refine aE 5 nd (kL (cM (aJ (ae 2) af (aL (aA (i:=0) rfl))) rfl (cM (aJ (ae 2) af (aL (aA (i:=1) rfl))) rfl (cM (aJ (ae 2) af (aL (aA (i:=2) rfl))) rfl (cM (pW b (aa (aJ (ae 2) af (aL (aA (i:=3) rfl))) ah) lI) rfl og))))) ?_
     have nx:nsP T (nsD (ps.getD 1 0) T):=pe (nZ ..).2
     refine o8 (i:=5) (t:=cpN T R C ss) (m:=m) (pS (qK 5) af rfl rfl (m:=3) rfl) (ae 6) (x_call b c_l_no_step (aa (aJ (ae 4) af (ba a1)) (aa (aJ (ae 2) af (aL (aA (i:=0) rfl))) ah)) ⟨_,T,rfl,rfl⟩) rfl rfl ?_ ?_ (eO 5 (x:=.tup [.int T,.int R,.int C,.lst ((ss.map stD).insertIdx m (nsD (ps.getD 1 0) T))]) (bD ⟨_,_,nk ok nx hm,rfl⟩) (hx:=?_))
     · rw [List.length_map,List.length_map]; exact hm
     · rw [List.length_map,List.length_map]; omega
     · rw [rF]
       show some (D.tup [.int T,.int R,.int C,.lst (iL _)])=_
       rw [gZ]
   · rintro _ ⟨z,s6',n2,rfl⟩
     refine jk (bc (a7 (x_call b c_l_told (aa (ae 5) (aa cx ah)) ⟨z,false,rfl,n2.2,n2.1,rfl⟩))) rfl (bD ⟨_,_,_,_,_,_,rfl⟩)
 · obtain ⟨s1,s2,s3,s4,s5,s6,rfl⟩:=h
   refine bo (aY (aD (x_call b c_l_cell (aa (ae 0) (aa af ah)) ⟨ns,1,rfl,rfl⟩) af (bj (by decide))) af g9) (λh=>?_) λh=>aH cx rfl
   refine aE 7 nd (cG (aa aN (aa af (aa (cG (aa af (aa af ah))) ah)))) ?_
   show PSs _ _ (dS K [_,_,_,_,_,_,_,.d st1] _)
   exact aH (d8 (x_call b c_l_told (aa (cG (aa af (aa af (aa af (aa (br (jU (br (a6 (aa (ae 7) ah))) af (by decide) (by decide) (by decide))) ah))))) (aa cx ah)) ⟨_,true,rfl,rD _,(rh _).trans (by decide),rfl⟩) λh=>(fF (x_call b c_l_told (aa (cG (aa af (aa af (aa af (aa (br (jU (br (a6 (aa (ae 7) ah))) af (by decide) (by decide) (by decide))) ah))))) (aa cx ah)) ⟨_,false,rfl,rD _,(rh _).trans (by decide),rfl⟩))) rfl
end
end K18
namespace K18
open PySem PySem.Spec PyProof.Rows L2 Hy
set_option maxHeartbeats 0 in
theorem all_mk {l:PySem.W.OpenLaw} {w:World} {K:PySem.W.Frag} {h:Heap} {mg:Str->Option Value} {fa f0 f1 f2 f3 f4 f5 f6 f7 f8 f9 f10 f11 f12 f13 f14 f15 f16 f17 f18 f19 f20 f21 f22 f23 f24 f25 f26 f27 f28 f29 f30 f31 f32 f33 f34 f35 f36 f37 f38 f39 f40 f41 f42 f43 f44 f45 f46 f47 f48 f49:Addr} {t0 t1 t2:Tok} {SM:Addr} {ddS:Option Addr} {slS:Array (Option Value)} {cdS:ClassData} {oNS:Obj} {C0 C1 C2 C3 C4 C5 C6 C7 C8 C9 C10 C11 C12 C13 C14 C15 C16 C17 C18:Addr} {dd0:Option Addr} {kd0:ClassData} {sl0x:Array (Option Value)} {dd1:Option Addr} {kd1:ClassData} {sl1x:Array (Option Value)} {dd2:Option Addr} {kd2:ClassData} {sl2x:Array (Option Value)} {dd3:Option Addr} {kd3:ClassData} {sl3x:Array (Option Value)} {dd4:Option Addr} {kd4:ClassData} {sl4x:Array (Option Value)} {dd5:Option Addr} {kd5:ClassData} {sl5x:Array (Option Value)} {nm6 qn6:Str} {N6:Addr} {bs6 sub6:List Value} {hd6 ab6:Bool} {sn6:List Str} {col6:Option Bool} {dd6:Option Addr} {ka6 kb6 kc6 kd6 ke6:Option Value} {oN6:Obj} {dd7:Option Addr} {kd7:ClassData} {sl7x:Array (Option Value)} {dd8:Option Addr} {kd8:ClassData} {sl8x:Array (Option Value)} {dd9:Option Addr} {kd9:ClassData} {sl9x:Array (Option Value)} {dd10:Option Addr} {kd10:ClassData} {sl10x:Array (Option Value)} {dd11:Option Addr} {kd11:ClassData} {sl11x:Array (Option Value)} {dd12:Option Addr} {kd12:ClassData} {sl12x:Array (Option Value)} {dd13:Option Addr} {kd13:ClassData} {sl13x:Array (Option Value)} {dd14:Option Addr} {kd14:ClassData} {sl14x:Array (Option Value)} {dd15:Option Addr} {kd15:ClassData} {sl15x:Array (Option Value)} {dd16:Option Addr} {kd16:ClassData} {sl16x:Array (Option Value)} {dd17:Option Addr} {kd17:ClassData} {sl17x:Array (Option Value)} {dd18:Option Addr} {kd18:ClassData} {sl18x:Array (Option Value)} (X:K.In h) (G:h.Ns mainGlobals mg) (hfa:mg "law" = some (.ref fa))
   (h0:Dfn K "_law_numbers" (top 65) f0) (h1:Dfn K "_law_sizes" (top 71) f1) (h2:Dfn K "_law_divisor" (top 66) f2) (h3:Dfn K "_law_made" (top 67) f3) (h4:Dfn K "_law_ten" (top 63) f4) (h5:Dfn K "_law_weight" (top 69) f5) (h6:Dfn K "_law_ladder" (top 70) f6) (h7:Dfn K "_law_drawn" (top 72) f7) (h8:Dfn K "_law_copied" (top 73) f8) (h9:Dfn K "_law_no_ladder" (top 75) f9) (h10:Dfn K "_law_cell" (top 64) f10) (h11:Dfn K "is_whole" (top 22) f11) (h12:Dfn K "is_between" (top 23) f12) (h13:Dfn K "common_divisor" (top 25) f13) (h14:Dfn K "is_fraction" (top 24) f14) (h15:Dfn K "is_weight" (top 40) f15) (h16:Dfn K "is_step" (top 41) f16) (h17:Dfn K "is_ladder" (top 42) f17) (h18:Dfn K "look_ladder" (top 43) f18) (h19:Dfn K "column_of" (top 36) f19) (h20:Dfn K "columns_of" (top 35) f20) (h21:Dfn K "first_sums" (top 47) f21) (h22:Dfn K "shared_divisor" (top 26) f22) (h23:Dfn K "weighed_sums" (top 49) f23) (h24:Dfn K "added_sums" (top 50) f24) (h25:Dfn K "in_lowest_terms" (top 27) f25) (h26:p6 K "fraction" (top 28) f26 (1)) (h27:Dfn K "told_sums" (top 48) f27) (h28:Dfn K "rung_end" (top 45) f28) (h29:Dfn K "rung_start" (top 44) f29) (h30:Dfn K "table_of" (top 46) f30) (h31:Dfn K "_law_word" (top 68) f31) (h32:Dfn K "way_on" (top 55) f32) (h33:Dfn K "choices_of" (top 34) f33) (h34:Dfn K "next_places" (top 51) f34) (h35:Dfn K "counts_ahead" (top 52) f35) (h36:Dfn K "longer_trails" (top 54) f36) (h37:Dfn K "trails" (top 53) f37) (h38:Dfn K "ways" (top 56) f38) (h39:Dfn K "is_rising" (top 32) f39) (h40:Dfn K "is_choice" (top 31) f40) (h41:Dfn K "look_choices" (top 33) f41) (h42:Dfn K "look_ends" (top 58) f42) (h43:Dfn K "family_on" (top 60) f43) (h44:Dfn K "families" (top 59) f44) (h45:Dfn K "families_counted" (top 61) f45) (h46:Dfn K "_law_refusal" (top 76) f46) (h47:Dfn K "_law_told" (top 77) f47) (h48:Dfn K "_law_no_step" (top 74) f48) (h49:Dfn K "law" (top 78) f49) (hz:nsL K ak) (z0:PySem.W.nsIn K mainGlobals "MOST" = some (some (.int 7 t0))) (z1:PySem.W.nsIn K mainGlobals "MOST_STEPS" = some (some (.int 400 t1))) (z2:PySem.W.nsIn K mainGlobals "MOST_LISTED" = some (some (.int 3000 t2))) (aS:PySem.W.nsIn K mainGlobals "SmoothError" = some (some (.ref SM))) (lS:K.lookup SM=some ⟨.type "type",ddS,.cls cdS,slS⟩) (nS:K.lookup cdS.ns=some oNS) (oS:Hx.nsO oNS=true) (iS:PySem.W.nsIn K cdS.ns "__init__" = some none) (bS:PySem.W.subIn K (.ref SM) (.type "BaseException")=some true) (zV:PySem.W.nsIn K mainGlobals "ValueError" = some none) (gG:PySem.W.specialIn K (.builtin "object.__class__") "__get__" = some (some (.builtin "getset_descriptor.__get__"))) (gT:PySem.W.takesIn K (.builtin "object.__class__")=some true) (x0:PySem.W.nsIn K mainGlobals "NoFraction" = some (some (.ref C0))) (x1:PySem.W.nsIn K mainGlobals "NoTable" = some (some (.ref C1))) (x2:PySem.W.nsIn K mainGlobals "NoChoice" = some (some (.ref C2))) (x3:PySem.W.nsIn K mainGlobals "NoSquare" = some (some (.ref C3))) (x4:PySem.W.nsIn K mainGlobals "NoFit" = some (some (.ref C4))) (x5:PySem.W.nsIn K mainGlobals "NoUndoing" = some (some (.ref C5))) (x6:PySem.W.nsIn K mainGlobals "NoLadder" = some (some (.ref C6))) (x7:PySem.W.nsIn K mainGlobals "TooMany" = some (some (.ref C7))) (x8:PySem.W.nsIn K mainGlobals "NoPaper" = some (some (.ref C8))) (x9:PySem.W.nsIn K mainGlobals "NoRow" = some (some (.ref C9))) (x10:PySem.W.nsIn K mainGlobals "NoStairs" = some (some (.ref C10))) (x11:PySem.W.nsIn K mainGlobals "NoNumber" = some (some (.ref C11))) (x12:PySem.W.nsIn K mainGlobals "NoCorner" = some (some (.ref C12))) (x13:PySem.W.nsIn K mainGlobals "NoName" = some (some (.ref C13))) (x14:PySem.W.nsIn K mainGlobals "NoStep" = some (some (.ref C14))) (x15:PySem.W.nsIn K mainGlobals "NoWeight" = some (some (.ref C15))) (x16:PySem.W.nsIn K mainGlobals "NoDeed" = some (some (.ref C16))) (x17:PySem.W.nsIn K mainGlobals "NoText" = some (some (.ref C17))) (x18:PySem.W.nsIn K mainGlobals "NoWord" = some (some (.ref C18))) (w6:K.lookup C6=some (excClassObj nm6 qn6 C6 N6 bs6 (.ref SM :: Hx.bmV) hd6 sn6 sub6 ab6 col6 dd6 ka6 kb6 kc6 kd6 ke6 "ValueError.__new__")) (v6:K.lookup N6=some oN6) (o6:Hx.nsO oN6=true) (i6:PySem.W.nsIn K N6 "__init__" = some none) (ga6:PySem.W.findIn K (.ref C6) "__getattribute__" = some (some (.builtin "BaseException.__getattribute__"))) (gb6:PySem.W.findIn K (.ref C6) "__getattr__" = some none) (gc6:PySem.W.findIn K (.ref C6) "__class__" = some (some (.builtin "object.__class__"))) (gd6:PySem.W.mroIn K C6 (.type "object")=some true) (ge6:PySem.W.mroIn K C6 (.type "BaseException")=some true) (sS6:PySem.W.subIn K (.ref C6) (.ref SM)=some true) (nx6:(Value.ref C6 == Value.ref SM)=false) (sV6:PySem.W.subIn K (.ref C6) (.type "ValueError")=some true) (s6_0:PySem.W.subIn K (.ref C6) (.ref C0)=some false) (n6_0:(Value.ref C6 == Value.ref C0)=false) (s6_1:PySem.W.subIn K (.ref C6) (.ref C1)=some false) (n6_1:(Value.ref C6 == Value.ref C1)=false) (s6_2:PySem.W.subIn K (.ref C6) (.ref C2)=some false) (n6_2:(Value.ref C6 == Value.ref C2)=false) (s6_3:PySem.W.subIn K (.ref C6) (.ref C3)=some false) (n6_3:(Value.ref C6 == Value.ref C3)=false) (s6_4:PySem.W.subIn K (.ref C6) (.ref C4)=some false) (n6_4:(Value.ref C6 == Value.ref C4)=false) (s6_5:PySem.W.subIn K (.ref C6) (.ref C5)=some false) (n6_5:(Value.ref C6 == Value.ref C5)=false) (s6_7:PySem.W.subIn K (.ref C6) (.ref C7)=some false) (n6_7:(Value.ref C6 == Value.ref C7)=false) (s6_8:PySem.W.subIn K (.ref C6) (.ref C8)=some false) (n6_8:(Value.ref C6 == Value.ref C8)=false) (s6_9:PySem.W.subIn K (.ref C6) (.ref C9)=some false) (n6_9:(Value.ref C6 == Value.ref C9)=false) (s6_10:PySem.W.subIn K (.ref C6) (.ref C10)=some false) (n6_10:(Value.ref C6 == Value.ref C10)=false) (s6_11:PySem.W.subIn K (.ref C6) (.ref C11)=some false) (n6_11:(Value.ref C6 == Value.ref C11)=false) (s6_12:PySem.W.subIn K (.ref C6) (.ref C12)=some false) (n6_12:(Value.ref C6 == Value.ref C12)=false) (s6_13:PySem.W.subIn K (.ref C6) (.ref C13)=some false) (n6_13:(Value.ref C6 == Value.ref C13)=false) (s6_14:PySem.W.subIn K (.ref C6) (.ref C14)=some false) (n6_14:(Value.ref C6 == Value.ref C14)=false) (s6_15:PySem.W.subIn K (.ref C6) (.ref C15)=some false) (n6_15:(Value.ref C6 == Value.ref C15)=false) (s6_16:PySem.W.subIn K (.ref C6) (.ref C16)=some false) (n6_16:(Value.ref C6 == Value.ref C16)=false) (s6_17:PySem.W.subIn K (.ref C6) (.ref C17)=some false) (n6_17:(Value.ref C6 == Value.ref C17)=false) (s6_18:PySem.W.subIn K (.ref C6) (.ref C18)=some false) (n6_18:(Value.ref C6 == Value.ref C18)=false) (w0:K.lookup C0=some ⟨.type "type",dd0,.cls kd0,sl0x⟩) (w1:K.lookup C1=some ⟨.type "type",dd1,.cls kd1,sl1x⟩) (w2:K.lookup C2=some ⟨.type "type",dd2,.cls kd2,sl2x⟩) (w3:K.lookup C3=some ⟨.type "type",dd3,.cls kd3,sl3x⟩) (w4:K.lookup C4=some ⟨.type "type",dd4,.cls kd4,sl4x⟩) (w5:K.lookup C5=some ⟨.type "type",dd5,.cls kd5,sl5x⟩) (w7:K.lookup C7=some ⟨.type "type",dd7,.cls kd7,sl7x⟩) (w8:K.lookup C8=some ⟨.type "type",dd8,.cls kd8,sl8x⟩) (w9:K.lookup C9=some ⟨.type "type",dd9,.cls kd9,sl9x⟩) (w10:K.lookup C10=some ⟨.type "type",dd10,.cls kd10,sl10x⟩) (w11:K.lookup C11=some ⟨.type "type",dd11,.cls kd11,sl11x⟩) (w12:K.lookup C12=some ⟨.type "type",dd12,.cls kd12,sl12x⟩) (w13:K.lookup C13=some ⟨.type "type",dd13,.cls kd13,sl13x⟩) (w14:K.lookup C14=some ⟨.type "type",dd14,.cls kd14,sl14x⟩) (w15:K.lookup C15=some ⟨.type "type",dd15,.cls kd15,sl15x⟩) (w16:K.lookup C16=some ⟨.type "type",dd16,.cls kd16,sl16x⟩) (w17:K.lookup C17=some ⟨.type "type",dd17,.cls kd17,sl17x⟩) (w18:K.lookup C18=some ⟨.type "type",dd18,.cls kd18,sl18x⟩) :
   ∃ fd:FuncData,(∀ (s:Shared) (v:Value),BindsTo s fd ⟨[v],[]⟩ [("_law_script",v)])/\∀ base:Heap,K.In base->base.Ns mainGlobals mg->aO l.prog w K mg base CX0 11 fa fd ["_law_script"] (spD K jv):=by
 have hb:=hz.none X G
 have y_MOST:∃ t,mg "MOST" = some (.int 7 t):=⟨_,PySem.W.mg_of X G z0⟩
 have y_MOST_STEPS:∃ t,mg "MOST_STEPS" = some (.int 400 t):=⟨_,PySem.W.mg_of X G z1⟩
 have y_MOST_LISTED:∃ t,mg "MOST_LISTED" = some (.int 3000 t):=⟨_,PySem.W.mg_of X G z2⟩
 have E6:Hx.bL K C6:=⟨by unfold PySem.W.clsIn; rw [w6]; rfl,ga6,gb6,gc6,gG,gT,gd6,ge6⟩
 have Y6:Hx.nJ K C6 SM:=⟨⟨_,_,_,_,_,_,_,_,_,_,_,_,_,_,_,_,w6,v6,o6,i6⟩,⟨_,_,_,_,_,lS,nS,oS,iS⟩,E6⟩
 have Z:Cls K mg (λc=>([C0,C1,C2,C3,C4,C5,C6,C7,C8,C9,C10,C11,C12,C13,C14,C15,C16,C17,C18]:List Addr).getD c 0) [6]:=by
   refine ⟨by decide,⟨SM,PySem.W.mg_of X G aS,?_⟩,?_,?_,?_,PySem.W.mg_none_of X G zV⟩
   · intro c hc
     simp only [List.mem_cons,List.not_mem_nil,or_false] at hc
     rcases hc with rfl
     · exact ⟨Y6,pM bS (aX nx6 lS sS6).1⟩
   · intro i hi
     rcases (by omega:i=0\/i=1\/i=2\/i=3\/i=4\/i=5\/i=6\/i=7\/i=8\/i=9\/i=10\/i=11\/i=12\/i=13\/i=14\/i=15\/i=16\/i=17\/i=18) with rfl | rfl | rfl | rfl | rfl | rfl | rfl | rfl | rfl | rfl | rfl | rfl | rfl | rfl | rfl | rfl | rfl | rfl | rfl
     · exact PySem.W.mg_of X G x0
     · exact PySem.W.mg_of X G x1
     · exact PySem.W.mg_of X G x2
     · exact PySem.W.mg_of X G x3
     · exact PySem.W.mg_of X G x4
     · exact PySem.W.mg_of X G x5
     · exact PySem.W.mg_of X G x6
     · exact PySem.W.mg_of X G x7
     · exact PySem.W.mg_of X G x8
     · exact PySem.W.mg_of X G x9
     · exact PySem.W.mg_of X G x10
     · exact PySem.W.mg_of X G x11
     · exact PySem.W.mg_of X G x12
     · exact PySem.W.mg_of X G x13
     · exact PySem.W.mg_of X G x14
     · exact PySem.W.mg_of X G x15
     · exact PySem.W.mg_of X G x16
     · exact PySem.W.mg_of X G x17
     · exact PySem.W.mg_of X G x18
   · intro c hc i hi
     simp only [List.mem_cons,List.not_mem_nil,or_false] at hc
     rcases hc with rfl
     · rcases (by omega:i=0\/i=1\/i=2\/i=3\/i=4\/i=5\/i=6\/i=7\/i=8\/i=9\/i=10\/i=11\/i=12\/i=13\/i=14\/i=15\/i=16\/i=17\/i=18) with rfl | rfl | rfl | rfl | rfl | rfl | rfl | rfl | rfl | rfl | rfl | rfl | rfl | rfl | rfl | rfl | rfl | rfl | rfl
       · exact (aX n6_0 w0 s6_0).2
       · exact (aX n6_1 w1 s6_1).2
       · exact (aX n6_2 w2 s6_2).2
       · exact (aX n6_3 w3 s6_3).2
       · exact (aX n6_4 w4 s6_4).2
       · exact (aX n6_5 w5 s6_5).2
       · exact kB
       · exact (aX n6_7 w7 s6_7).2
       · exact (aX n6_8 w8 s6_8).2
       · exact (aX n6_9 w9 s6_9).2
       · exact (aX n6_10 w10 s6_10).2
       · exact (aX n6_11 w11 s6_11).2
       · exact (aX n6_12 w12 s6_12).2
       · exact (aX n6_13 w13 s6_13).2
       · exact (aX n6_14 w14 s6_14).2
       · exact (aX n6_15 w15 s6_15).2
       · exact (aX n6_16 w16 s6_16).2
       · exact (aX n6_17 w17 s6_17).2
       · exact (aX n6_18 w18 s6_18).2
   · intro c hc
     simp only [List.mem_cons,List.not_mem_nil,or_false] at hc
     rcases hc with rfl
     · exact mD sV6
 obtain ⟨a,⟨oc,od,kV,dc,pm,an,cd,ct,sl,l0,c⟩,r⟩:=h49
 cases hfa.symm.trans (PySem.W.mg_of X G a)
 refine ⟨PySem.W.fnOf "law" "law" (bI (top 78)) (a4 (top 78)) (ai (top 78)) .none kV dc pm an cd ct,λs v=>.of_eq rfl,λbase _ _=>?_⟩
 have c_l_numbers:Cal l.prog w K mg base 1 "_law_numbers" bA:=h0.cal (ps:=["_law_cell_here","_law_bases"]) X G (λ_ _ _ _ _ _=>Hy.bd2 λ_ _=>rfl) λ_ F=>gJ (k:=0) F hb
 have c_l_sizes:Cal l.prog w K mg base 2 "_law_sizes" dY:=h1.cal (ps:=["_law_cell_here","_law_most"]) X G (λ_ _ _ _ _ _=>Hy.bd2 λ_ _=>rfl) λ_ F=>iO (k:=1) F hb c_l_numbers
 have c_l_divisor:Cal l.prog w K mg base 1 "_law_divisor" cF:=h2.cal (ps:=["_law_one","_law_other"]) X G (λ_ _ _ _ _ _=>Hy.bd2 λ_ _=>rfl) λ_ F=>gS (k:=0) F hb
 have c_l_made:Cal l.prog w K mg base 2 "_law_made" eR:=h3.cal (ps:=["_law_top","_law_bottom"]) X G (λ_ _ _ _ _ _=>Hy.bd2 λ_ _=>rfl) λ_ F=>j3 (k:=1) F hb c_l_divisor
 have c_l_ten:Cal l.prog w K mg base 1 "_law_ten" en:=h4.cal (ps:=["_law_many"]) X G (λ_ _ _ _ _ _=>Hy.bd1 λ_=>rfl) λ_ F=>lE (k:=0) F hb
 have c_l_weight:Cal l.prog w K mg base 3 "_law_weight" c9:=h5.cal (ps:=["_law_part","_law_figures"]) X G (λ_ _ _ _ _ _=>Hy.bd2 λ_ _=>rfl) λ_ F=>iA (k:=2) F hb c_l_made (c_l_ten.mono (by decide))
 have c_l_ladder:Cal l.prog w K mg base 4 "_law_ladder" c3:=h6.cal (ps:=["_law_cell_here","_law_tracks","_law_rows","_law_columns","_law_many","_law_figures"]) X G (λ_ _ _ _ _ _=>Hy.bd6 λ_ _ _ _ _ _=>rfl) λ_ F=>iD (k:=3) F hb (c_l_numbers.mono (by decide)) c_l_weight (c_l_ten.mono (by decide))
 have c_l_drawn:Cal l.prog w K mg base 5 "_law_drawn" dM:=h7.cal (ps:=["_law_one","_law_other","_law_most","_law_figures"]) X G (λ_ _ _ _ _ _=>Hy.bd4 λ_ _ _ _=>rfl) λ_ F=>i7 (k:=4) F hb (c_l_sizes.mono (by decide)) c_l_ladder
 have c_l_copied:Cal l.prog w K mg base 1 "_law_copied" c8:=h8.cal (ps:=["_law_ladder_here"]) X G (λ_ _ _ _ _ _=>Hy.bd1 λ_=>rfl) λ_ F=>g0 (k:=0) F hb
 have c_l_no_ladder:Cal l.prog w K mg base 1 "_law_no_ladder" bR:=h9.cal (ps:=["_law_cell_here","_law_ladder_here"]) X G (λ_ _ _ _ _ _=>Hy.bd2 λ_ _=>rfl) λ_ F=>eP (k:=0) F hb
 have c_l_cell:Cal l.prog w K mg base 1 "_law_cell" eC:=h10.cal (ps:=["_law_script","_law_k"]) X G (λ_ _ _ _ _ _=>Hy.bd2 λ_ _=>rfl) λ_ F=>ke (k:=0) F hb
 have c_is_whole:Cal l.prog w K mg base 1 "is_whole" cq:=h11.cal (ps:=["thing"]) X G (λ_ _ _ _ _ _=>Hy.bd1 λ_=>rfl) λ_ F=>ie (k:=0) F hb
 have c_is_betweenA:Cal l.prog w K mg base 2 "is_between" bz:=h12.cal (ps:=["thing","least","most"]) X G (λ_ _ _ _ _ _=>Hy.bd3 λ_ _ _=>rfl) λ_ F=>eK (k:=1) F hb  (c_is_whole.mono (by decide))
 have c_common_divisor:Cal l.prog w K mg base 1 "common_divisor" bt:=h13.cal (ps:=["one","other"]) X G (λ_ _ _ _ _ _=>Hy.bd2 λ_ _=>rfl) λ_ F=>dk (k:=0) F hb
 have c_is_fraction:Cal l.prog w K mg base 2 "is_fraction" bT:=h14.cal (ps:=["thing"]) X G (λ_ _ _ _ _ _=>Hy.bd1 λ_=>rfl) λ_ F=>eD (k:=1) F hb c_is_whole c_common_divisor
 have c_is_weight2:Cal l.prog w K mg base 3 "is_weight" cu:=h15.cal (ps:=["thing"]) X G (λ_ _ _ _ _ _=>Hy.bd1 λ_=>rfl) λ_ F=>fK (k:=2) F hb  (c_is_fraction.mono (by decide))
 have c_is_step2:Cal l.prog w K mg base 4 "is_step" cZ:=h16.cal (ps:=["thing","tracks"]) X G (λ_ _ _ _ _ _=>Hy.bd2 λ_ _=>rfl) λ_ F=>il (k:=3) F hb  (c_is_betweenA.mono (by decide)) (c_is_weight2.mono (by decide))
 have c_is_ladder3:Cal l.prog w K mg base 5 "is_ladder" bG:=h17.cal (ps:=["thing"]) X G (λ_ _ _ _ _ _=>Hy.bd1 λ_=>rfl) λ_ F=>fP (k:=4) F hb y_MOST y_MOST_STEPS (c_is_betweenA.mono (by decide)) (c_is_step2.mono (by decide))
 have x_look_ladder:bU l.prog w K mg base (λc=>([C0,C1,C2,C3,C4,C5,C6,C7,C8,C9,C10,C11,C12,C13,C14,C15,C16,C17,C18]:List Addr).getD c 0) 6 "look_ladder" d0:=h18.kl (ps:=["thing"]) X G (λ_ _ _ _ _ _=>Hy.bd1 λ_=>rfl) λ_ F=>dH (k:=5) F hb Z (by decide) (c_is_ladder3.mono (by decide))
 have x_table_of:bU l.prog w K mg base (λc=>([C0,C1,C2,C3,C4,C5,C6,C7,C8,C9,C10,C11,C12,C13,C14,C15,C16,C17,C18]:List Addr).getD c 0) 7 "table_of" d0:=h30.kl (ps:=["ladder"]) X G (λ_ _ _ _ _ _=>Hy.bd1 λ_=>rfl) λ_ F=>fL (k:=6) F hb  (x_look_ladder.mono (by decide))
 obtain ⟨fdw,Fw,mw,kw,bw⟩:=h31.fn (ps:=["_law_e"]) X G (λ_ _ _ _ _ _=>Hy.bd1 λ_=>rfl)
 have Ww:∀ c ∈ [6],cc l.prog w K mg base (λc=>([C0,C1,C2,C3,C4,C5,C6,C7,C8,C9,C10,C11,C12,C13,C14,C15,C16,C17,C18]:List Addr).getD c 0) 1 f31 c:=λc hc=>ki (k:=0) Fw hb bw Z hc
 have x_ways:bU l.prog w K mg base (λc=>([C0,C1,C2,C3,C4,C5,C6,C7,C8,C9,C10,C11,C12,C13,C14,C15,C16,C17,C18]:List Addr).getD c 0) 7 "ways" b6:=h38.kl (ps:=["ladder","i","j"]) X G (λ_ _ _ _ _ _=>Hy.bd3 λ_ _ _=>rfl) λ_ F=>jX (k:=6) F hb  (x_look_ladder.mono (by decide))
 have x_look_ends:bU l.prog w K mg base (λc=>([C0,C1,C2,C3,C4,C5,C6,C7,C8,C9,C10,C11,C12,C13,C14,C15,C16,C17,C18]:List Addr).getD c 0) 7 "look_ends" b6:=h42.kl (ps:=["ladder","rows","columns"]) X G (λ_ _ _ _ _ _=>Hy.bd3 λ_ _ _=>rfl) λ_ F=>fH (k:=6) F hb  (x_look_ladder.mono (by decide))
 have x_families:bU l.prog w K mg base (λc=>([C0,C1,C2,C3,C4,C5,C6,C7,C8,C9,C10,C11,C12,C13,C14,C15,C16,C17,C18]:List Addr).getD c 0) 8 "families" b6:=h44.kl (ps:=["ladder","rows","columns"]) X G (λ_ _ _ _ _ _=>Hy.bd3 λ_ _ _=>rfl) λ_ F=>fU (k:=7) F hb  (x_look_ends.mono (by decide))
 have x_families_counted:bU l.prog w K mg base (λc=>([C0,C1,C2,C3,C4,C5,C6,C7,C8,C9,C10,C11,C12,C13,C14,C15,C16,C17,C18]:List Addr).getD c 0) 8 "families_counted" b6:=h45.kl (ps:=["ladder","rows","columns"]) X G (λ_ _ _ _ _ _=>Hy.bd3 λ_ _ _=>rfl) λ_ F=>cw (k:=7) F hb  (x_look_ends.mono (by decide))
 have c_l_refusal:Cal l.prog w K mg base 9 "_law_refusal" cL:=h46.cal (ps:=["_law_thing","_law_way"]) X G (λ_ _ _ _ _ _=>Hy.bd2 λ_ _=>rfl) λ_ F=>gO (k:=8) F hb Z (by decide) mw kw (λc hc=>(Ww c hc).mono (by decide)) (x_table_of.mono (by decide)) (x_ways.mono (by decide)) (x_families.mono (by decide)) (x_families_counted.mono (by decide))
 have c_l_told:Cal l.prog w K mg base 10 "_law_told" fG:=h47.cal (ps:=["_law_thing","_law_due"]) X G (λ_ _ _ _ _ _=>Hy.bd2 λ_ _=>rfl) λ_ F=>j6 (k:=9) F hb  (c_is_ladder3.mono (by decide)) (c_l_refusal.mono (by decide))
 have c_l_no_step:Cal l.prog w K mg base 1 "_law_no_step" cK:=h48.cal (ps:=["_law_cell_here","_law_tracks"]) X G (λ_ _ _ _ _ _=>Hy.bd2 λ_ _=>rfl) λ_ F=>gI (k:=0) F hb
 exact oH (k:=10) (lq l0 c r) hb (c_l_drawn.mono (by decide)) (c_l_copied.mono (by decide)) (c_l_numbers.mono (by decide)) (c_l_no_ladder.mono (by decide)) (c_l_cell.mono (by decide)) c_l_told (c_l_no_step.mono (by decide))
theorem walk {l:PySem.W.OpenLaw} {q:Program} {loose:List Str} {XP:(Str->Option Value)->Heap->Prop} {YP:World->Heap->Prop} {d:DefRec} {K:Params->PySem.W.Frag} (hn:l.most=some 63) (hdf:d.params.defaults=[])
   (hY:∀ (w:World) (h:Heap),YP w h->(K w.params).In h)
   (F:∀ (w:World) (mg:Str->Option Value) (fa:Addr) (h:Heap),(K w.params).In h->h.Ns mainGlobals mg->mg d.name=some (.ref fa) ->
     ∃ fd:FuncData,(∀ (s:Shared) (u:Value),BindsTo s fd ⟨[u],[]⟩ [("_law_script",u)])/\∀ base:Heap,(K w.params).In base->base.Ns mainGlobals mg->aO l.prog w (K w.params) mg base CX0 11 fa fd ["_law_script"] (spD (K w.params) jv)) :
   PySem.W.WalkO q loose XP YP l.row.toRowW d [] (λf vs=>PySem.call f vs):=
 L2.mV (n:=63) (k:=11) (x:="_law_script") (CX:=λ_=>CX0) (sp:=λw=>spD (K w.params) jv) hn (by decide) hdf ⟨rfl,by decide,by decide⟩ hY F
   (λw H a ns hl _ hS=>nB (λns h=>⟨ns,h,rfl,rfl⟩) H a ns hl hS) λ_ _ _ _ _ z=>z
end K18
open PySem PySem.W PyProof.Rows
namespace PySem.W.Fast
theorem tw9211042708294943784:True:=⟨⟩
theorem tw846460372932238444:True:=⟨⟩
theorem tw18018968275602680000:True:=⟨⟩
theorem tw9618010654013910713:True:=⟨⟩
theorem tw1994780619303168005:True:=⟨⟩
theorem tw6198525066531641092:True:=⟨⟩
theorem tw1575566883795938284:True:=⟨⟩
theorem tw15856605360447330288:True:=⟨⟩
theorem tw12905471451822260913:True:=⟨⟩
theorem tw11325996777768340209:True:=⟨⟩
theorem tw8230181581413320015:True:=⟨⟩
theorem tw3336560168163323915:True:=⟨⟩
theorem tw7922708988494123468:True:=⟨⟩
theorem tw4320412764866232953:True:=⟨⟩
theorem tw5457567873515176957:True:=⟨⟩
theorem tw18093243973635969054:True:=⟨⟩
theorem tw3060312322018554676:True:=⟨⟩
theorem tw5018144622496613374:True:=⟨⟩
theorem tw2431410489381799850:True:=⟨⟩
theorem tw864250292945680049:True:=⟨⟩
theorem tw7361040990615853306:True:=⟨⟩
theorem tw12701782735673725714:True:=⟨⟩
theorem tw6017375837181044565:True:=⟨⟩
theorem tw11100099494014821182:True:=⟨⟩
theorem tw4398145882113868032:True:=⟨⟩
theorem tw15377841701026192378:True:=⟨⟩
theorem tw6734116408560441243:True:=⟨⟩
theorem tw5744338934451351686:True:=⟨⟩
theorem tw8115751965042948884:True:=⟨⟩
theorem tw4877696622265931322:True:=⟨⟩
theorem tw8585672526314008587:True:=⟨⟩
theorem tw8591529827593883490:True:=⟨⟩
theorem tw5209625797150150636:True:=⟨⟩
theorem tw2330483326986980933:True:=⟨⟩
theorem tw13264683400177259525:True:=⟨⟩
theorem tw6409945467166776733:True:=⟨⟩
theorem tw13242068515720922928:True:=⟨⟩
theorem tw12330992958611860921:True:=⟨⟩
theorem tw9441008241582939877:True:=⟨⟩
theorem tw13087185850394023062:True:=⟨⟩
theorem tw6224667785371989084:True:=⟨⟩
theorem tw12106934247260531276:True:=⟨⟩
theorem tw1287023900185690361:True:=⟨⟩
theorem tw5366403057732623439:True:=⟨⟩
theorem tw2056512477515511583:True:=⟨⟩
theorem tw13686833223265757888:True:=⟨⟩
theorem tw13375624940790597997:True:=⟨⟩
theorem tw15019182015035450514:True:=⟨⟩
theorem tw12036430049271397942:True:=⟨⟩
theorem tw7693115540692911043:True:=⟨⟩
theorem tw17778262731174959222:True:=⟨⟩
theorem tw11577789131673668638:True:=⟨⟩
theorem tw16845985671124733516:True:=⟨⟩
theorem tw1916166045616018858:True:=⟨⟩
theorem tw11022074469601715290:True:=⟨⟩
theorem tw4252744699108359782:True:=⟨⟩
theorem tw12535876346840929994:True:=⟨⟩
theorem tw12448065947688479059:True:=⟨⟩
theorem tw17541475868712577928:True:=⟨⟩
theorem tw3520145130998357163:True:=⟨⟩
theorem tw14247069007387014206:True:=⟨⟩
theorem tw13402881402435320854:True:=⟨⟩
theorem tw16906389051908488014:True:=⟨⟩
theorem tw7816420751976717436:True:=⟨⟩
theorem tw151785179589022781:True:=⟨⟩
theorem tw18074549868885746613:True:=⟨⟩
theorem tw12022354870358251230:True:=⟨⟩
theorem tw1529731773032407992:True:=⟨⟩
theorem tw2474401112301441950:True:=⟨⟩
theorem tw7488795443221985128:True:=⟨⟩
theorem tw12256396806296129691:True:=⟨⟩
theorem tw585686779412842629:True:=⟨⟩
theorem tw15680533816925897766:True:=⟨⟩
theorem tw7317654337840245794:True:=⟨⟩
theorem tw2616466442248747671:True:=⟨⟩
theorem tw8085125593714292754:True:=⟨⟩
theorem tw16491304263555398992:True:=⟨⟩
theorem tw10769788139119657631:True:=⟨⟩
theorem tw13172519862259682646:True:=⟨⟩
theorem tw1926822021071504736:True:=⟨⟩
theorem tw2743214518403487170:True:=⟨⟩
theorem tw15156241702741131217:True:=⟨⟩
theorem tw150363142747625314:True:=⟨⟩
theorem tw12349735434980495098:True:=⟨⟩
theorem tw15598084401445732148:True:=⟨⟩
theorem tw16346300444588566093:True:=⟨⟩
theorem tw776864449079911451:True:=⟨⟩
theorem tw3809297837164501103:True:=⟨⟩
theorem tw12833775288707230645:True:=⟨⟩
theorem tw11874714697678298126:True:=⟨⟩
theorem tw14957993619025554932:True:=⟨⟩
theorem tw13856114524525948078:True:=⟨⟩
end PySem.W.Fast
set_option maxRecDepth 100000 in
set_option maxHeartbeats 0 in
theorem PySem.Challenge.cw_signsmooth_k18_ladders_known_holds : PySem.Challenge.rw_signsmooth_k18_ladders_known.Holds := by
 w_on; o_law; k_head; (case hw=>w_witness2)
 k_fill
 refine K18.walk (l:=PySem.Challenge.rw_signsmooth_k18_ladders_known) rfl rfl (λw h Y=>PySem.W.kIn_of Y) ?F
 case F=>
   intro w mg fa h KX G hmg
   refine' K18.all_mk KX G hmg (.of ?_ ?_ ?_ ?_) (.of ?_ ?_ ?_ ?_) (.of ?_ ?_ ?_ ?_) (.of ?_ ?_ ?_ ?_) (.of ?_ ?_ ?_ ?_) (.of ?_ ?_ ?_ ?_) (.of ?_ ?_ ?_ ?_) (.of ?_ ?_ ?_ ?_) (.of ?_ ?_ ?_ ?_) (.of ?_ ?_ ?_ ?_) (.of ?_ ?_ ?_ ?_) (.of ?_ ?_ ?_ ?_) (.of ?_ ?_ ?_ ?_) (.of ?_ ?_ ?_ ?_) (.of ?_ ?_ ?_ ?_) (.of ?_ ?_ ?_ ?_) (.of ?_ ?_ ?_ ?_) (.of ?_ ?_ ?_ ?_) (.of ?_ ?_ ?_ ?_) (.of ?_ ?_ ?_ ?_) (.of ?_ ?_ ?_ ?_) (.of ?_ ?_ ?_ ?_) (.of ?_ ?_ ?_ ?_) (.of ?_ ?_ ?_ ?_) (.of ?_ ?_ ?_ ?_) (.of ?_ ?_ ?_ ?_) (.of ?_ ?_ ?_ ?_ ?_) (.of ?_ ?_ ?_ ?_) (.of ?_ ?_ ?_ ?_) (.of ?_ ?_ ?_ ?_) (.of ?_ ?_ ?_ ?_) (.of ?_ ?_ ?_ ?_) (.of ?_ ?_ ?_ ?_) (.of ?_ ?_ ?_ ?_) (.of ?_ ?_ ?_ ?_) (.of ?_ ?_ ?_ ?_) (.of ?_ ?_ ?_ ?_) (.of ?_ ?_ ?_ ?_) (.of ?_ ?_ ?_ ?_) (.of ?_ ?_ ?_ ?_) (.of ?_ ?_ ?_ ?_) (.of ?_ ?_ ?_ ?_) (.of ?_ ?_ ?_ ?_) (.of ?_ ?_ ?_ ?_) (.of ?_ ?_ ?_ ?_) (.of ?_ ?_ ?_ ?_) (.of ?_ ?_ ?_ ?_) (.of ?_ ?_ ?_ ?_) (.of ?_ ?_ ?_ ?_) (.of ?_ ?_ ?_ ?_) ⟨?_,?_,?_,?_,?_,?_,?_,?_,?_,?_,?_,?_,?_,?_,?_,?_,?_,?_,trivial⟩ ?_ ?_ ?_ ?_ ?_ ?_ ?_ ?_ ?_ ?_ ?_ ?_ ?_ ?_ ?_ ?_ ?_ ?_ ?_ ?_ ?_ ?_ ?_ ?_ ?_ ?_ ?_ ?_ ?_ ?_ ?_ ?_ ?_ ?_ ?_ ?_ ?_ ?_ ?_ ?_ ?_ ?_ ?_ ?_ ?_ ?_ ?_ ?_ ?_ ?_ ?_ ?_ ?_ ?_ ?_ ?_ ?_ ?_ ?_ ?_ ?_ ?_ ?_ ?_ ?_ ?_ ?_ ?_ ?_ ?_ ?_ ?_ ?_ ?_ ?_ ?_ ?_ ?_ ?_ ?_ ?_ ?_ ?_ ?_ ?_ ?_ ?_ ?_ ?_ ?_ ?_ ?_ ?_ ?_ ?_ ?_ ?_
   all_goals try k_is
   all_goals first | rfl | decide
#print axioms PySem.Challenge.cw_signsmooth_k18_ladders_known_holds
