import PyProof.Rows.All
import Wide.All
import OpenK.AllK
import Wide.FinOn
import Lean
import PyProof.EqAt
import PyProof.EqKinds
import PyProof.TupleCall
import PyProof.DictKeyH
import PyProof.DictFindH
import PyProof.StrCalls2
import PyProof.StrCalls3
import PyProof.StrCalls
import PyProof.StrWalks
import PyProof.FString
import KE.KIntText
import PyProof.FitsReplace
import PyProof.StrLawsTight
import PyProof.StrLawsOcc
import PyProof.StrBlockI
import PyProof.SliceStr2
import PyProof.StrLawsChain
import PyProof.StrLaws
import PyProof.Rows.StrJoinMade
import PyProof.StrLawsIdx
import PyProof.StrLawsJoin
import PySem.Challenge.RW_signsmooth_k72_texts_of_tables
set_option genSizeOf false
set_option bootstrap.genMatcherCode false
set_option Elab.async false
set_option linter.all false
set_option maxRecDepth 100000
set_option exponentiation.threshold 4000
namespace Hx
open PySem PySem.Spec PyProof.Rows
theorem e7:entryFor table "proto.unchain" = some Builtin.«proto.unchain»:=entryFor_of_tree (by kernel_rfl)
section
variable {prog:Program} {w:World} {A:Around} {E:Value->Shared->Prop} {s:Shared}
theorem g8 {α:Type} {a h:Addr} {oa oh:Obj} {us vs:Array Value} {Q:α->Shared->Prop} (hh:A.handled=some (.ref h)) (hne:h ≠ a) (ha:s.heap.get? a=some oa) (hda:oa.data=.fields us) (hsz:2 < us.size)
   (ho:s.heap.get? h=some oh) (hd:oh.data=.fields vs) (h2:vs[2]?=some .none)
   (q:E (.ref a) { s with heap:=s.heap.update a (Obj.mapFields (·.setIfInBounds 2 (.ref h))) }):wpAny (model prog w) A (raiseNew (.ref a):Sem α) Q E s:=by
 unfold raiseNew; refine wpAny_bind (wpAny_handled ?_); rw [hh]
 dsimp only
 rw [if_pos (show (Value.ref h != Value.ref a)=true by simp [hne])]
 refine wpAny_bind (wpAny_holding (wpAny_runValue (codeAny_builtin e7 ?_)))
 unfold Builtin.«proto.unchain»
 dsimp only
 refine wpAny_bind (wpAny_field ho hd h2 ?_)
 rw [if_pos (show (Value.none == Value.none)=true by decide)]
 refine wpAny_pure ?_
 show wpAny _ A (do let _ <- updateField a 2 (.ref h); throw (Value.ref a)) _ _ _
 unfold updateField
 refine wpAny_bind (wpAny_bind (wpAny_load ha ?_))
 rw [hda]
 dsimp only
 rw [if_pos hsz]
 exact wpAny_update ha (wpAny_throw q)
theorem iA {r h:Addr} {v left step:Int} {oh:Obj} {vs:Array Value} {Q:Option Value->Shared->Prop} (hh:A.handled=some (.ref h)) (ho:s.heap.get? h=some oh) (hd:oh.data=.fields vs) (h2:vs[2]?=some .none)
   (hr:IsRangeIter s.heap r v left step) (hl:left<=0) (k:∀ h',Heap.ExtBut r s.heap h'->Q none { s with heap:=h' }):wpAny (model prog w) A (pyNext (.ref r)) Q E s:=by
 have ty:s.TypeIs (.ref r) "range_iterator":=⟨_,hr,rfl⟩
 have hlt:=Heap.lt_size ho
 have fl:∀ {α:Type} {B:Around} {F:Value->Shared->Prop} {R:α->Shared->Prop} (i:Nat) (y:Int) {f:Value->Sem α},(#[rawInt v,rawInt left,rawInt step]:Array Value)[i]?=some (rawInt y)->wpAny (model prog w) B (f (rawInt y)) R F s->wpAny (model prog w) B (field (.ref r) i >>= f) R F s:=by
   intro α B F R i y f e q
   exact wpAny_bind (wpAny_field hr rfl e q)
 unfold pyNext
 refine wpAny_bind (wpAny_attempt (wpAny_callSpecial?_slot (name:=Str.ofString "__next__") ty F.slot_range_iterator_next (wpAny_call_entry F.slot_range_iterator_next ty F.entry_range_iterator_next (fl 0 v rfl (fl 1 left rfl (fl 2 step rfl ?_))) (F.args_range_iterator_next_1 _))))
 show wpAny (model prog w) A.in1 (if left<=0 then _ else _) _ _ s
 rw [if_pos hl]
 refine wpAny_bind (wpAny_rule (wpAny_bind ?_))
 show wpAny _ _ (do let e <- newExc (.type "StopIteration") []; _) _ _ _
 refine wpAny_bind ?_
 simp only [newExc,newTuple]
 refine wpAny_bind (wpAny_newObj_type (wpAny_bind (m:=firstArgMember _ _) (wpAny_of_eq (a:=.none) (by first | rfl | (simp only [firstArgMember]; rfl)) (wpAny_newObj_type ?_ (by size_fits)))) (by size_fits))
 have hg:((s.heap.push { cls:=.type "tuple",data:=.seq ([]:List Value).toArray }).push { cls:=.type "StopIteration",data:=.fields (#[Value.ref s.heap.objs.size,.none,.none,.none,.bool false,.none]++ownMembersOf (.type "StopIteration") []) }).get? (s.heap.push { cls:=.type "tuple",data:=.seq ([]:List Value).toArray }).objs.size
     = some { cls:=.type "StopIteration",data:=.fields (#[Value.ref s.heap.objs.size,.none,.none,.none,.bool false,.none]++ownMembersOf (.type "StopIteration") []) }:=Heap.get?_push_size _ rfl
 refine g8 (h:=h) (A:=A.in1) hh ?_ hg rfl (by rw [Array.size_append]; exact Nat.lt_of_lt_of_le (by decide:2 < 6) (Nat.le_add_right _ _)) (Heap.get?_push_of_some _ (Heap.get?_push_of_some _ ho)) hd h2 ?_
 · intro z
   rw [Heap.size_push] at z
   exact absurd hlt (by rw [z]; exact Nat.not_lt.mpr (Nat.le_succ _))
 have hu:=Heap.get?_update_self (Obj.mapFields (·.setIfInBounds 2 (.ref h))) hg rfl
 refine wpAny_bind (wpAny_isInstance (T:="StopIteration") (b:=true) ⟨_,hu,rfl⟩ isSubtype_stop ?_)
 refine wpAny_pure (k _ λb o hb e=>?_)
 have bl:=Heap.lt_size e
 rw [Heap.get?_update_other _ _ (by intro z; rw [Heap.size_push] at z; exact absurd bl (by rw [<- z]; exact Nat.not_lt.mpr (Nat.le_succ _)))]
 exact Heap.get?_push_of_some _ (Heap.get?_push_of_some _ e)
end
end Hx
set_option linter.all false
set_option maxRecDepth 100000
namespace L2
open PySem PySem.Spec PyProof.Rows
noncomputable abbrev Key:=Sum Int Str
noncomputable def mC:Key->Value->Bool
 | .inl k,v=>Value.isInt k v
 | .inr x,v=>Value.isStrOf x v
noncomputable def qu (w:World):Key->Int
 | .inl k=>hashInt k
 | .inr x=>hashStr w x
theorem aM:∀ {k:Key} {v:Value},mC k v=true->(∃ i t,k=Sum.inl i/\v=Value.int i t)\/(∃ x t,k=Sum.inr x/\v=Value.str x t)
 | .inl i,v,h=>by
   obtain ⟨t,e⟩:=Value.isInt_shape (k:=i) (v:=v) h
   exact .inl ⟨i,t,rfl,e⟩
 | .inr x,v,h=>by
   obtain ⟨t,e⟩:=Value.isStrOf_shape (x:=x) (v:=v) h
   exact .inr ⟨x,t,rfl,e⟩
theorem oy (a b:Int):decide ((Sum.inl a:Key)=Sum.inl b)=(a == b):=by
 by_cases e:a=b
 · subst e; simp
 · have h:¬ (Sum.inl a:Key)=Sum.inl b:=λq=>e (Sum.inl.inj q)
   rw [decide_eq_false h]
   exact (beq_eq_false_iff_ne.mpr e).symm
theorem mZ (a b:Str):decide ((Sum.inr a:Key)=Sum.inr b)=decide (a=b):=by
 by_cases e:a=b
 · subst e; simp
 · have h:¬ (Sum.inr a:Key)=Sum.inr b:=λq=>e (Sum.inr.inj q)
   rw [decide_eq_false h,decide_eq_false e]
theorem m8 (a:Int) (b:Str):decide ((Sum.inl a:Key)=Sum.inr b)=false:=decide_eq_false (λq=>nomatch q)
theorem nE (a:Str) (b:Int):decide ((Sum.inr a:Key)=Sum.inl b)=false:=decide_eq_false (λq=>nomatch q)
noncomputable def jn (prog:Program) (w:World):PySem.KeyKind prog w Key where
 is:=mC
 hash:=qu w
 inj:=λv a b ha hb=>by
   rcases aM ha with ⟨i,t,rfl,rfl⟩ | ⟨x,t,rfl,rfl⟩
   · rcases aM hb with ⟨j,u,rfl,e⟩ | ⟨y,u,rfl,e⟩
     · injection e with e1 _; rw [e1]
     · exact nomatch e
   · rcases aM hb with ⟨j,u,rfl,e⟩ | ⟨y,u,rfl,e⟩
     · exact nomatch e
     · injection e with e1 _; rw [e1]
 byValue:=λk v h=>by
   rcases aM h with ⟨i,t,rfl,rfl⟩ | ⟨x,t,rfl,rfl⟩ <;> rfl
 pyHash:=λhv h=>by
   rcases aM hv with ⟨i,t,rfl,rfl⟩ | ⟨x,t,rfl,rfl⟩
   · exact wpAny_pyHash_int h
   · exact wpAny_pyHash_str h
 eqBool:=λhu hv h=>by
   rcases aM hu with ⟨i,t,rfl,rfl⟩ | ⟨x,t,rfl,rfl⟩
   · rcases aM hv with ⟨j,u,rfl,rfl⟩ | ⟨y,u,rfl,rfl⟩
     · rw [oy] at h; exact wpAny_eqBool_int h
     · rw [m8] at h; exact SeqAt.EqAt.int_str i t y u _ _ _ _ h
   · rcases aM hv with ⟨j,u,rfl,rfl⟩ | ⟨y,u,rfl,rfl⟩
     · rw [nE] at h; exact SeqAt.EqAt.str_int x t j u _ _ _ _ h
     · rw [mZ] at h; exact wpAny_eqBool_str h
 «strs»:=λk x t v h=>by
   rcases aM h with ⟨i,u,rfl,e⟩ | ⟨y,u,rfl,e⟩
   · exact nomatch e
   · injection e with e1 _
     subst e1
     cases v <;> rfl
inductive V where
 | non | bl (b:Bool) | int (i:Int) | str (x:Str) | byt (b:Array UInt8) | flt (b:UInt64) | ref (a:Addr) | ty (n:String)
 deriving DecidableEq
noncomputable def RelV:V->Value->Prop
 | .non,u=>u=Value.none
 | .bl b,u=>u=Value.bool b
 | .int i,u=>∃ t,u=Value.int i t
 | .str x,u=>∃ t,u=Value.str x t
 | .byt b,u=>∃ t,u=Value.bytes b t
 | .flt b,u=>∃ t,u=Value.float b t
 | .ref a,u=>u=Value.ref a
 | .ty n,u=>u=Value.type n
noncomputable abbrev Vals:List V->List Value->Prop:=Paired RelV
theorem Vals.length {xs:List V} {us:List Value} (r:Vals xs us):xs.length=us.length:=Paired.length r
theorem Vals.get:∀ {xs:List V} {us:List Value} {i:Nat} {x:V},Vals xs us->xs[i]?=some x->∃ u,us[i]?=some u/\RelV x u
 | _,_,_,_,.nil,e=>by simp at e
 | _,_,0,_,.cons r _,e=>by simp at e; subst e; exact ⟨_,rfl,r⟩
 | _,_,i + 1,x,.cons _ t,e=>by
   obtain ⟨u,h1,h2⟩:=Vals.get (i:=i) (x:=x) t (by simpa using e)
   exact ⟨u,by simpa using h1,h2⟩
theorem Vals.append:∀ {xs ys:List V} {us ws:List Value},Vals xs us->Vals ys ws->Vals (xs++ys) (us++ws)
 | _,_,_,_,.nil,s=>s
 | _,_,_,_,.cons r t,s=>.cons r (Vals.append t s)
theorem Vals.take:∀ {xs:List V} {us:List Value} (n:Nat),Vals xs us->Vals (xs.take n) (us.take n)
 | _,_,0,_=>.nil
 | _,_,_ + 1,.nil=>.nil
 | _,_,n + 1,.cons r t=>.cons r (Vals.take n t)
theorem Vals.drop:∀ {xs:List V} {us:List Value} (n:Nat),Vals xs us->Vals (xs.drop n) (us.drop n)
 | _,_,0,r=>r
 | _,_,_ + 1,.nil=>.nil
 | _,_,n + 1,.cons _ t=>Vals.drop n t
noncomputable def pd:Option V->Option Value->Prop
 | some v,some u=>RelV v u
 | none,none=>True
 | _,_=>False
noncomputable def KV {κ:Type}:List (κ × V)->List (κ × Value)->Prop:=Paired λ(p:κ × V) (q:κ × Value)=>p.1=q.1/\RelV p.2 q.2
noncomputable def kV:Key->V
 | .inl i=>.int i
 | .inr x=>.str x
inductive HO where
 | lst (xs:List V)
 | tup (xs:List V)
 | dK (kvs:List (Key × V)) | dT (kvs:List (List Key × V))
 | set (S:Int->Bool) (n:Nat)
 | ins (C dx:Addr) (fs:List (Str × V))
 | own (x:Addr)
 | xd (fs:List (Str × V))
 | met (f x:Addr)
 | rng (lo hi:Int)
 | frz (o:Obj) (u:HO)
 | tbl (ps:Array Value)
 | ext (φ:Heap->Prop)
noncomputable abbrev Hp:=Addr->Option HO
noncomputable def upd (H:Hp) (a:Addr) (o:HO):Hp:=λb=>if b=a then some o else H b
theorem aF {H:Hp} {a:Addr} {o:HO}:upd H a o a=some o:=by unfold upd; rw [if_pos rfl]
theorem ak {H:Hp} {a b:Addr} {o:HO} (h:b ≠ a):upd H a o b=H b:=by unfold upd; rw [if_neg h]
theorem aw {H:Hp} {a b:Addr} {o:HO} (h:H a=some o) (h':H b=none):a ≠ b:=by
 intro e; subst e; rw [h] at h'; cases h'
section
variable (P:Program) (w:World)
noncomputable def bF (H:Hp) (h:Heap) (a:Addr):HO->Prop
 | .lst xs=>xs.length<=sizeLine/\∃ (its:List Value) (n:Nat),Vals xs its/\h.get? a=some { cls:=.type "list",data:=.seq its.toArray n }
 | .tup xs=>xs.length<=sizeLine/\∃ its:List Value,Vals xs its/\IsTup h a its.toArray
 | .dK kvs=>kvs.length<=sizeLine/\(a == sysModules)=false/\∃ vs,KV kvs vs/\h.DictOf (jn P w) a vs
 | .dT kvs=>kvs.length<=sizeLine/\(a == sysModules)=false/\∃ xs:List (List Key × Addr × Value),
     Paired (λ(p:List Key × V) (q:List Key × Addr × Value)=>p.1=q.1/\H q.2.1=some (.tup (p.1.map kV))/\RelV p.2 q.2.2) kvs xs /\
     ∃ o es ep,h.get? a=some o/\o.ExactDict/\o.data=.dict es ep/\es.toList=xs.map (entryOfKey (tupleKind (jn P w)))/\(xs.map (·.1)).Nodup
 | .set S n=>h.SetOf (intKind P w) a S n
 | .ins C dx fs=>H dx=some (.own a)/\fs.length<=1000/\dx ≠ a/\h.get? a=some (PySem.W.instObj C dx) /\
     ∃ mA,h.Ns1 dx mA/\(∀ f,pd (fs.lookup f) (mA f))/\PySem.Within mA (fs.map (·.1))
 | .own _=>∃ o,h.get? a=some o
 | .xd fs=>∃ mA,h.Ns1 a mA/\∀ f,pd (fs.lookup f) (mA f)
 | .rng lo hi=>∃ t u v,h.get? a=some { cls:=.type "range",data:=.fields #[.int lo t,.int hi u,.int 1 v] }
 | .frz o u=>h.get? a=some o/\bF H h a u
 | .tbl ps=>h.get? a=some { cls:=.none,data:=.fields ps }
 | .met f x=>h.get? a=some (PySem.W.methodObj (.ref f) (.ref x))
 | .ext φ=>φ h/\(∃ o,h.get? a=some o)/\∀ h1 h2:Heap,φ h1->(∀ o,h1.get? a=some o->h2.get? a=some o)->φ h2
noncomputable def HOk (H:Hp) (h:Heap):Prop:=∀ a o,H a=some o->bF P w H h a o
end
section
variable {P:Program} {w:World} {H H':Hp} {h h':Heap} {a:Addr} {o:HO}
theorem bF.lt (x:bF P w H h a o):a < h.objs.size:=by
 cases o with
 | lst xs=>obtain ⟨_,_,_,_,e⟩:=x; exact Heap.lt_size e
 | tup xs=>obtain ⟨_,_,_,p⟩:=x; exact p.lt
 | dK kvs=>obtain ⟨_,_,_,_,o,_,_,e,_⟩:=x; exact Heap.lt_size e
 | dT kvs=>obtain ⟨_,_,_,_,o,_,_,e,_⟩:=x; exact Heap.lt_size e
 | set S n=>obtain ⟨o,_,_,_,e,_⟩:=x; exact Heap.lt_size e
 | ins C dx fs=>obtain ⟨_,_,_,e,_⟩:=x; exact Heap.lt_size e
 | own y=>obtain ⟨_,e⟩:=x; exact Heap.lt_size e
 | xd fs=>obtain ⟨_,⟨_,_,_,e,_⟩,_⟩:=x; exact Heap.lt_size e
 | rng lo hi=>obtain ⟨_,_,_,e⟩:=x; exact Heap.lt_size e
 | frz ob u=>obtain ⟨e,_⟩:=x; exact Heap.lt_size e
 | tbl ps=>exact Heap.lt_size (show h.get? a=some _ from x)
 | met f y=>exact Heap.lt_size (show h.get? a=some _ from x)
 | ext φ=>obtain ⟨_,⟨_,e⟩,_⟩:=x; exact Heap.lt_size e
theorem Paired.pU {α β:Type} {F G:α->β->Prop}:∀ {l₁:List α} {l₂:List β},Paired F l₁ l₂->(∀ a b,F a b->G a b)->Paired G l₁ l₂
 | _,_,.nil,_=>.nil
 | _,_,.cons r t,f=>.cons (f _ _ r) (Paired.pU t f)
theorem bF.d0 (x:bF P w H h a o) (k:∀ b u,(b=a\/H b=some (.own a))->h.get? b=some u->h'.get? b=some u)
   (ho:∀ b,H b=some (.own a)->H' b=some (.own a)) (ht:∀ b xs,H b=some (.tup xs)->H' b=some (.tup xs)):bF P w H' h' a o:=by
 induction o with
 | lst xs=>obtain ⟨z,its,n,r,e⟩:=x; exact ⟨z,its,n,r,k _ _ (.inl rfl) e⟩
 | tup xs=>obtain ⟨z,its,r,ob,e,c⟩:=x; exact ⟨z,its,r,ob,k _ _ (.inl rfl) e,c⟩
 | dK kvs=>obtain ⟨z,y,vs,r,ob,es,ep,e,c⟩:=x; exact ⟨z,y,vs,r,ob,es,ep,k _ _ (.inl rfl) e,c⟩
 | dT kvs=>
   obtain ⟨z,y,xs,r,ob,es,ep,e,c⟩:=x
   exact ⟨z,y,xs,Paired.pU r λp q z=>⟨z.1,ht _ _ z.2.1,z.2.2⟩,ob,es,ep,k _ _ (.inl rfl) e,c⟩
 | set S n=>obtain ⟨ob,es,ep,t,e,c⟩:=x; exact ⟨ob,es,ep,t,k _ _ (.inl rfl) e,c⟩
 | ins C dx fs=>
   obtain ⟨d,z,ne,e,mA,⟨od,es,ep,e2,c⟩,r⟩:=x
   exact ⟨ho _ d,z,ne,k _ _ (.inl rfl) e,mA,⟨od,es,ep,k _ _ (.inr d) e2,c⟩,r⟩
 | own y=>obtain ⟨ob,e⟩:=x; exact ⟨ob,k _ _ (.inl rfl) e⟩
 | xd fs=>obtain ⟨mA,⟨od,es,ep,e,c⟩,r⟩:=x; exact ⟨mA,⟨od,es,ep,k _ _ (.inl rfl) e,c⟩,r⟩
 | rng lo hi=>obtain ⟨t,u,v,e⟩:=x; exact ⟨t,u,v,k _ _ (.inl rfl) e⟩
 | frz ob u ih=>obtain ⟨e,q⟩:=x; exact ⟨k _ _ (.inl rfl) e,ih q⟩
 | tbl ps=>
   have e:h.get? a=some { cls:=.none,data:=.fields ps }:=x
   show h'.get? a=some { cls:=.none,data:=.fields ps }
   exact k a _ (.inl rfl) e
 | met f y=>
   have e:h.get? a=some (PySem.W.methodObj (.ref f) (.ref y)):=x
   show h'.get? a=some (PySem.W.methodObj (.ref f) (.ref y))
   exact k a _ (.inl rfl) e
 | ext φ=>obtain ⟨p,⟨o,e⟩,st⟩:=x; exact ⟨st _ _ p λo q=>k _ _ (.inl rfl) q,⟨o,k _ _ (.inl rfl) e⟩,st⟩
theorem HOk.lt (x:HOk P w H h) (e:H a=some o):a < h.objs.size:=(x a o e).lt
theorem HOk.fresh (x:HOk P w H h) (e:h.objs.size<=a):H a=none:=by
 cases q:H a with
 | none=>rfl
 | some u=>exact absurd (Nat.lt_of_lt_of_le (x.lt q) e) (Nat.lt_irrefl _)
theorem HOk.kept (x:HOk P w H h) (k:∀ b u,h.get? b=some u->h'.get? b=some u):HOk P w H h':=λa o e=>
 (x a o e).d0 (λb u _ q=>k b u q) (λ_ q=>q) λ_ _ q=>q
theorem HOk.laid (x:HOk P w H h) (k:∀ b u,h.get? b=some u->h'.get? b=some u) (hp:h.objs.size<=a) (new:bF P w (upd H a o) h' a o):HOk P w (upd H a o) h':=λb u e=>by
 have hn:=x.fresh hp
 by_cases hb:b=a
 · subst hb; rw [aF] at e; cases e; exact new
 · rw [ak hb] at e
   exact (x b u e).d0 (λc v _ q=>k c v q) (λc q=>by rw [ak (aw q hn)]; exact q) λc xs q=>by rw [ak (aw q hn)]; exact q
end
noncomputable def Rd (H:Hp) (a:Addr) (u:HO):Prop:=H a=some u\/∃ o,H a=some (.frz o u)
theorem Rd.ok {P:Program} {w:World} {H:Hp} {h:Heap} {a:Addr} {u:HO} (r:Rd H a u) (x:HOk P w H h):bF P w H h a u:=by
 rcases r with r | ⟨o,r⟩
 · exact x a u r
 · obtain ⟨_,q⟩:=x a _ r
   exact q
noncomputable def Mut:Option HO->Prop
 | some (.lst _)=>True
 | some (.dK _)=>True
 | some (.dT _)=>True
 | some (.set _ _)=>True
 | some (.ins _ _ _)=>True
 | some (.ext _)=>True
 | _=>False
section
variable {P:Program} {w:World} {H:Hp} {h h':Heap} {x e:Addr} {o':HO}
theorem HOk.write (ok:HOk P w H h) (mu:Mut (H x)) (he:e=x\/H e=some (.own x)) (k:∀ b u,b ≠ e->h.get? b=some u->h'.get? b=some u) (heo:∃ u,h'.get? e=some u)
   (new:bF P w (upd H x o') h' x o'):HOk P w (upd H x o') h':=λb u q=>by
 have nown:∀ c y,H c=some (.own y)->c ≠ x:=λc y r z=>by subst z; rw [r] at mu; exact mu
 have ntup:∀ c xs,H c=some (.tup xs)->c ≠ x:=λc xs r z=>by subst z; rw [r] at mu; exact mu
 by_cases hb:b=x
 · subst hb; rw [aF] at q; cases q; exact new
 · rw [ak hb] at q
   by_cases hbe:b=e
   · have q':H b=some (.own x):=by
       rcases he with z | z
       · exact absurd (hbe.trans z) hb
       · rw [hbe]; exact z
     rw [q] at q'; cases q'
     obtain ⟨v,hv⟩:=heo
     exact ⟨v,by rw [hbe]; exact hv⟩
   · refine (ok b u q).d0 (λc v hc r=>k c v ?_ r) (λc r=>by rw [ak (nown c b r)]; exact r) λc xs r=>by rw [ak (ntup c xs r)]; exact r
     rcases hc with rfl | hc
     · exact hbe
     · rintro rfl
       rcases he with z | z
       · exact nown c b hc z
       · rw [hc] at z; cases z; exact hb rfl
end
structure Un (fs ex:List Addr) (H H':Hp) (h h':Heap):Prop where
 keep:∀ b o,h.get? b=some o->H b=none->b ∉ fs->b ∉ ex->h'.get? b=some o
 slot:∀ b o,h.get? b=some o->H b=none->b ∈ fs->b ∉ ex->∃ sl,h'.get? b=some { o with slots:=sl }
 free:∀ b o,h.get? b=some o->H b=none->b ∉ ex->H' b=none
 there:∀ b o,h.get? b=some o->b ∉ ex->∃ o',h'.get? b=some o'
 tups:∀ b xs,H b=some (.tup xs)->H' b=some (.tup xs)
 frzs:∀ b o u,H b=some (.frz o u)->H' b=some (.frz o u)
 tbls:∀ b ps,H b=some (.tbl ps)->∃ more,H' b=some (.tbl (ps++more))
section
variable {fs fs' ex ex':List Addr} {H H1 H2:Hp} {h h1 h2 h':Heap} {a x e:Addr} {o:HO}
theorem Un.any (u:Un fs ex H H1 h h1) {b:Addr} {ob:Obj} (q:h.get? b=some ob) (n:H b=none) (hx:b ∉ ex):∃ sl,h1.get? b=some { ob with slots:=sl }:=by
 by_cases hb:b ∈ fs
 · exact u.slot b ob q n hb hx
 · exact ⟨ob.slots,u.keep b ob q n hb hx⟩
theorem Un.kept (k:∀ b u,h.get? b=some u->h'.get? b=some u):Un fs ex H H h h':=
 ⟨λb ob q _ _ _=>k b ob q,λb ob q _ _ _=>⟨ob.slots,k b ob q⟩,λ_ _ _ n _=>n,λb ob q _=>⟨ob,k b ob q⟩,λ_ _ q=>q,λ_ _ _ q=>q,λ_ ps q=>⟨#[],by rw [q]; simp⟩⟩
theorem Un.refl:Un fs ex H H h h:=Un.kept λ_ _ q=>q
theorem Un.laid (k:∀ b u,h.get? b=some u->h'.get? b=some u) (hp:h.objs.size<=a) (hn:H a=none):Un fs ex H (upd H a o) h h' where
 keep:=λb u q _ _ _=>k b u q
 slot:=λb u q _ _ _=>⟨u.slots,k b u q⟩
 free:=λb u q n _=>by rw [ak (Nat.ne_of_lt (Nat.lt_of_lt_of_le (Heap.lt_size q) hp))]; exact n
 there:=λb u q _=>⟨u,k b u q⟩
 tups:=λb xs q=>by rw [ak (aw q hn)]; exact q
 frzs:=λb u xs q=>by rw [ak (aw q hn)]; exact q
 tbls:=λb ps q=>⟨#[],by rw [ak (aw q hn),q]; simp⟩
theorem Un.write (mu:Mut (H x)) (he:e=x\/H e=some (.own x)) (k:∀ b u,b ≠ e->h.get? b=some u->h'.get? b=some u) (heo:∃ u,h'.get? e=some u):Un fs ex H (upd H x o) h h':=by
 have hx:∀ b,H b=none->b ≠ x:=λb n z=>by subst z; rw [n] at mu; exact mu
 have hb:∀ b,H b=none->b ≠ e:=λb n z=>by
   subst z
   rcases he with r | r
   · exact hx b n r
   · rw [n] at r; cases r
 have hm:∀ b u,H b=some u->¬ Mut (some u)->b ≠ x:=λb u q nm z=>by subst z; rw [q] at mu; exact nm mu
 refine ⟨λb u q n _ _=>k b u (hb b n) q,λb u q n _ _=>⟨u.slots,k b u (hb b n) q⟩,λb u q n _=>by rw [ak (hx b n)]; exact n,λb u q _=>?_,
   λb xs q=>by rw [ak (hm b _ q λz=>z)]; exact q,λb u xs q=>by rw [ak (hm b _ q λz=>z)]; exact q,λb ps q=>⟨#[],by rw [ak (hm b _ q λz=>z),q]; simp⟩⟩
 by_cases hbe:b=e
 · subst hbe; exact heo
 · exact ⟨u,k b u hbe q⟩
end
noncomputable def trk (h:Heap) (H:Hp):List Addr:=(List.range h.objs.size).filter λa=>(H a).isSome
noncomputable def gh (h:Heap) (H:Hp):Heap:=PySem.W.hideAll h (trk h H)
theorem jP (h:Heap) (H:Hp):(gh h H).objs.size=h.objs.size:=PySem.W.hideAll_size _ _
theorem kf {h:Heap} {H:Hp} {b:Addr} {o:Obj} (e:h.get? b=some o) (n:H b=none):(gh h H).get? b=some o:=
 PySem.W.hideAll_get _ e λhm=>by
   have q:(H b).isSome=true:=(List.mem_filter.mp hm).2
   rw [n] at q; simp at q
theorem mr {h:Heap} {H:Hp} {b:Addr} {o:Obj} (e:(gh h H).get? b=some o):h.get? b=some o/\H b=none:=by
 have e':h.get? b=some o:=PySem.W.of_hideAll (trk h H) e
 refine ⟨e',?_⟩
 cases q:H b with
 | none=>rfl
 | some x=>
   have hm:b ∈ trk h H:=List.mem_filter.mpr ⟨List.mem_range.mpr (Heap.lt_size e'),by simp [q]⟩
   have z:(gh h H).get? b=none:=PySem.W.hideAll_none (trk h H) hm
   rw [z] at e; cases e
noncomputable def l5 (g h:Heap) (L:Addr):List (Addr × Obj):=(List.range h.objs.size).filterMap λa=>if a=L\/(g.get? a).isSome=true then none else (h.get? a).map λo=>(a,o)
noncomputable def rest (g h:Heap) (L d:Addr):List (Addr × Obj):=(l5 g h L).filter λp=>decide (p.1 ≠ d)
structure Mod (K:PySem.W.Frag) (mg:Str->Option Value) (base:Heap):Prop where
 kin:K.In base
 glob:base.Ns mainGlobals mg
 blt:∃ mb,base.Ns builtinsNs mb/\∀ x:Str,x ≠ "__name__" -> mb x=bootBuiltins x
 nolimit:base.NoLimit
structure Cx where
 prog:Program
 w:World
 K:PySem.W.Frag
 mg:Str->Option Value
 base:Heap
 A:Around
 N:List Str
 s₀:Shared
 H₀:Hp
 env:Env
 outer:List Env
 stack:List Env
 ex:List Addr
 fn:Str->Bool
 calm:Bool
 pn:List (Addr × Obj)
 xe:Value->Shared->Prop
noncomputable def frs (l:List Env):List Addr:=l.filterMap (·.frame)
noncomputable abbrev Cx.fs (X:Cx):List Addr:=frs X.outer
noncomputable def Vis (sc:Scope) (x:Str):Prop:=sc.names.lookup x=some .local\/sc.names.lookup x=some .cell\/sc.names.lookup x=some .free
noncomputable def Loc (sc:Scope) (x:Str):Prop:=sc.names.lookup x=some .local\/sc.names.lookup x=some .cell
noncomputable def Look (env:Env) (h:Heap) (m:Str->Option Value) (x:Str) (u:Value):Prop:=
 (env.kindOf x=some .local/\m x=some u)\/((env.kindOf x=some .cell\/env.kindOf x=some .free)/\∃ c,env.cells.lookup x=some c/\h.IsCell c (some u))
structure Cx.Ok (X:Cx):Prop where
 mod:Mod X.K X.mg X.base
 kind:X.env.scope.kind=.function
 glob:X.env.globals=mainGlobals
 blt:X.env.builtins=builtinsNs
 above:X.s₀.heap.objs.size<=X.env.locals
 inj:∀ x y c,X.env.cells.lookup x=some c->X.env.cells.lookup y=some c->x=y
 has:∀ x,(X.env.kindOf x=some .cell\/X.env.kindOf x=some .free)->∃ c,X.env.cells.lookup x=some c
 cab:∀ x c,X.fn x=true->X.env.cells.lookup x=some c->X.s₀.heap.objs.size<=c
 hd:X.calm=true->X.A.handled=none
 frames:X.A.frames=some X.stack
 stk:X.stack=X.outer\/(X.stack=X.env :: X.outer/\X.env.frame=some X.env.locals)
 exf:∀ b ∈ X.ex,b ≠ X.env.locals/\∀ x c,X.env.cells.lookup x=some c->c ≠ b
 bs:∀ b o,X.base.get? b=some o->X.s₀.heap.get? b=some o/\X.H₀ b=none
 bsz:X.base.objs.size<=X.s₀.heap.objs.size
 noex:∀ b o,X.base.get? b=some o->b ∉ X.ex
 exfs:∀ b ∈ X.ex,b ∉ X.fs
 dD:X.s₀.heap.FunFrames X.base X.outer
 frf:∀ b ∈ X.fs,X.H₀ b=none
structure Inv (X:Cx) (pins:List (Addr × Obj)) (σ:List (Option V)) (H:Hp) (s:Shared):Prop where
 ok:X.Ok
 os:s.os=X.s₀.os
 bare:AllBare s.gens
 base:Un X.fs X.ex X.H₀ H X.s₀.heap s.heap
 loc:∃ m,s.heap.Ns X.env.locals m/\∀ (i:Nat) (x:Str) (v:V),X.N[i]?=some x->σ[i]?=some (some v)->Vis X.env.scope x->∃ u,RelV v u/\Look X.env s.heap m x u
 cell:∀ x c,X.env.cells.lookup x=some c->∃ v,s.heap.IsCell c v
 free:H X.env.locals=none
 freeC:∀ x c,X.env.cells.lookup x=some c->H c=none
 pin:∀ p ∈ X.pn++pins,s.heap.get? p.1=some p.2/\H p.1=none/\p.1 ≠ X.env.locals/\p.1 ∉ X.fs/\∀ v,p.2.data ≠ .cell v
 hok:HOk X.prog X.w H s.heap
 len:σ.length=X.N.length
section
variable {X:Cx} {pins:List (Addr × Obj)} {σ:List (Option V)} {H H':Hp} {s:Shared} {h':Heap}
theorem Cx.Ok.qL (ok:X.Ok) {b:Addr} {o:Obj} (e:X.base.get? b=some o):b ∉ X.fs:=λhb=>by
 have:=(ok.dD.mem hb).1
 rw [e] at this; cases this
theorem Inv.bs (I:Inv X pins σ H s):∀ b o,X.base.get? b=some o->s.heap.get? b=some o/\H b=none:=λb o e=>
 ⟨I.base.keep b o (I.ok.bs b o e).1 (I.ok.bs b o e).2 (I.ok.qL e) (I.ok.noex b o e),I.base.free b o (I.ok.bs b o e).1 (I.ok.bs b o e).2 (I.ok.noex b o e)⟩
theorem Inv.bk (I:Inv X pins σ H s):∀ b o,X.base.get? b=some o->s.heap.get? b=some o:=λb o e=>(I.bs b o e).1
theorem Inv.mod (I:Inv X pins σ H s):Mod X.K X.mg X.base:=I.ok.mod
theorem Inv.kIn (I:Inv X pins σ H s):X.K.In s.heap:=I.ok.mod.kin.keeps I.bk
theorem Inv.lt (I:Inv X pins σ H s):X.env.locals < s.heap.objs.size:=let ⟨_,hn,_⟩:=I.loc; hn.lt
theorem Inv.sz (I:Inv X pins σ H s):X.s₀.heap.objs.size<=s.heap.objs.size:=Nat.le_trans I.ok.above (Nat.le_of_lt I.lt)
theorem Inv.qz (I:Inv X pins σ H s) {a:Addr} (h:s.heap.objs.size<=a):a ∉ X.fs:=λhb=>by
 obtain ⟨_,o,ho,_⟩:=I.ok.dD.mem hb
 exact absurd (Nat.lt_of_lt_of_le (Heap.lt_size ho) (Nat.le_trans I.sz h)) (Nat.lt_irrefl _)
theorem Inv.cne (I:Inv X pins σ H s):∀ x c,X.env.cells.lookup x=some c->c ≠ X.env.locals:=λx c e z=>by
 obtain ⟨v,o,ho,hd⟩:=I.cell x c e
 obtain ⟨m,⟨o',es,ep,ho',hd',_⟩,_⟩:=I.loc
 rw [z,ho'] at ho; cases ho; rw [hd'] at hd; cases hd
theorem Inv.dD (I:Inv X pins σ H s):s.heap.FunFrames X.base X.outer:=by
 have all:∀ (l:List Env),(∀ b ∈ frs l,b ∈ X.fs)->X.s₀.heap.FunFrames X.base l->s.heap.FunFrames X.base l:=by
   intro l
   induction l with
   | nil=>intro _ _; trivial
   | cons env r ih=>
     intro hs hl
     obtain ⟨hk,⟨L,o,hf,hn,ho,hd⟩,hr⟩:=hl
     have hL:L ∈ X.fs:=hs L (by unfold frs; rw [List.filterMap_cons,hf]; exact List.mem_cons_self)
     obtain ⟨sl,e⟩:=I.base.slot L o ho (I.ok.frf L hL) hL λz=>I.ok.exfs L z hL
     exact ⟨hk,⟨L,_,hf,hn,e,hd⟩,ih (λb hb=>hs b (by unfold frs; rw [List.filterMap_cons,hf]; exact List.mem_cons_of_mem _ hb)) hr⟩
 exact all X.outer (λ_ hb=>hb) I.ok.dD
theorem Inv.stack (I:Inv X pins σ H s):s.heap.FunFrames X.base X.stack:=by
 rcases I.ok.stk with e | ⟨e,hf⟩
 · rw [e]; exact I.dD
 · rw [e]
   obtain ⟨m,hn,_⟩:=I.loc
   refine .cons (by rw [I.ok.kind]; decide) hf hn ?_ I.dD
   exact Heap.get?_none_of_le (Nat.le_trans I.ok.bsz I.ok.above)
theorem Inv.iz (I:Inv X pins σ H s):∀ b ∈ frs X.stack,b ∈ X.env.locals :: X.fs:=λb hb=>by
 rcases I.ok.stk with e | ⟨e,hf⟩
 · rw [e] at hb; exact List.mem_cons_of_mem _ hb
 · rw [e] at hb
   unfold frs at hb
   rw [List.filterMap_cons,hf] at hb
   exact hb
theorem Inv.jv (I:Inv X pins σ H s):∀ b ∈ frs X.stack,H b=none:=λb hb=>by
 rcases List.mem_cons.mp (I.iz b hb) with e | hb
 · rw [e]; exact I.free
 · obtain ⟨_,o,ho,_⟩:=I.ok.dD.mem hb
   exact I.base.free b o ho (I.ok.frf b hb) λz=>I.ok.exfs b z hb
theorem Inv.step {g':Array GenState} {t':Nat} {d':Drawn} {ch:List Addr} (I:Inv X pins σ H s)
   (hch:∀ b ∈ ch,(b ∈ X.ex\/X.s₀.heap.objs.size<=b)/\b ≠ X.env.locals/\(∀ x c,X.env.cells.lookup x=some c->c ≠ b)/\∀ p ∈ X.pn++pins,p.1 ≠ b)
   (keep:∀ b o,b ≠ X.env.locals->b ∉ X.fs->b ∉ ch->s.heap.get? b=some o->H b=none->h'.get? b=some o)
   (slot:∀ b o,b ≠ X.env.locals->b ∈ X.fs->b ∉ ch->s.heap.get? b=some o->H b=none->∃ sl,h'.get? b=some { o with slots:=sl }) (free:∀ b o,b ∉ ch->s.heap.get? b=some o->H b=none->H' b=none)
   (there:∀ b o,b ∉ ch->s.heap.get? b=some o->∃ o',h'.get? b=some o')
   (tups:∀ b xs,H b=some (.tup xs)->H' b=some (.tup xs)) (frzs:∀ b o u,H b=some (.frz o u)->H' b=some (.frz o u)) (tbls:∀ b ps,H b=some (.tbl ps)->∃ more,H' b=some (.tbl (ps++more)))
   (ns:∀ m,s.heap.Ns X.env.locals m->h'.Ns X.env.locals m) (hok:HOk X.prog X.w H' h') (hg:AllBare g') :
   Inv X pins σ H' { s with heap:=h',gens:=g',drawn:=d',toks:=t' }:=by
 have neL:∀ b o,X.s₀.heap.get? b=some o->b ≠ X.env.locals:=λb o e=>Nat.ne_of_lt (Nat.lt_of_lt_of_le (Heap.lt_size e) I.ok.above)
 have neC:∀ b o,X.s₀.heap.get? b=some o->b ∉ X.ex->b ∉ ch:=λb o e hx hb=>by
   rcases (hch b hb).1 with z | z
   · exact hx z
   · exact absurd (Nat.lt_of_lt_of_le (Heap.lt_size e) z) (Nat.lt_irrefl _)
 have cellK:∀ x c,X.env.cells.lookup x=some c->∀ v,s.heap.IsCell c v->h'.IsCell c v:=λx c e v ⟨o,ho,hd⟩=>by
   have nch:c ∉ ch:=λz=>(hch c z).2.2.1 x c e rfl
   by_cases hc:c ∈ X.fs
   · obtain ⟨sl,q⟩:=slot c o (I.cne x c e) hc nch ho (I.freeC x c e)
     exact ⟨_,q,hd⟩
   · exact ⟨o,keep c o (I.cne x c e) hc nch ho (I.freeC x c e),hd⟩
 refine ⟨I.ok,I.os,hg,⟨λb o e n hb hx=>?_,λb o e n hb hx=>?_,λb o e n hx=>?_,λb o e hx=>?_,λb xs e=>tups b xs (I.base.tups b xs e),λb o xs e=>frzs b o xs (I.base.frzs b o xs e),λb ps e=>?_⟩,?_,λx c e=>?_,?_,λx c e=>?_,λp hp=>?_,hok,I.len⟩
 · exact keep b o (neL b o e) hb (neC b o e hx) (I.base.keep b o e n hb hx) (I.base.free b o e n hx)
 · obtain ⟨sl,e1⟩:=I.base.slot b o e n hb hx
   obtain ⟨sl',e2⟩:=slot b _ (neL b o e) hb (neC b o e hx) e1 (I.base.free b o e n hx)
   exact ⟨sl',e2⟩
 · obtain ⟨o',e1⟩:=I.base.there b o e hx
   exact free b o' (neC b o e hx) e1 (I.base.free b o e n hx)
 · obtain ⟨o',e1⟩:=I.base.there b o e hx
   exact there b o' (neC b o e hx) e1
 · obtain ⟨m1,e1⟩:=I.base.tbls b ps e
   obtain ⟨m2,e2⟩:=tbls b _ e1
   exact ⟨m1++m2,by rw [e2,Array.append_assoc]⟩
 · obtain ⟨m,hn,hl⟩:=I.loc
   refine ⟨m,ns m hn,λi x v e1 e2 e3=>?_⟩
   obtain ⟨u,r,l⟩:=hl i x v e1 e2 e3
   refine ⟨u,r,?_⟩
   rcases l with l | ⟨k,c,e,z⟩
   · exact .inl l
   · exact .inr ⟨k,c,e,cellK x c e _ z⟩
 · obtain ⟨v,z⟩:=I.cell x c e
   exact ⟨v,cellK x c e v z⟩
 · obtain ⟨m,⟨o,_,_,ho,_⟩,_⟩:=I.loc
   exact free _ o (λz=>(hch _ z).2.1 rfl) ho I.free
 · obtain ⟨v,o,ho,hd⟩:=I.cell x c e
   exact free c o (λz=>(hch c z).2.2.1 x c e rfl) ho (I.freeC x c e)
 · obtain ⟨e,n,ne,nf,d⟩:=I.pin p hp
   have nch:p.1 ∉ ch:=λz=>(hch p.1 z).2.2.2 p hp rfl
   exact ⟨keep p.1 p.2 ne nf nch e n,free p.1 p.2 nch e n,ne,nf,d⟩
theorem Inv.un {t':Nat} (I:Inv X pins σ H s) (u:Un X.fs [] H H' s.heap h') (hok:HOk X.prog X.w H' h'):Inv X pins σ H' { s with heap:=h',toks:=t' }:=by
 obtain ⟨m,⟨o,es,ep,ho,r⟩,_⟩:=id I.loc
 obtain ⟨sl,hL⟩:=u.any ho I.free (by simp)
 exact I.step (g':=s.gens) (d':=s.drawn) (ch:=[]) (λ_ z=>nomatch z) (λb o _ hb _ e n=>u.keep b o e n hb (by simp)) (λb o _ hb _ e n=>u.slot b o e n hb (by simp)) (λb o _ e n=>u.free b o e n (by simp)) (λb o _ e=>u.there b o e (by simp)) u.tups u.frzs u.tbls (λm' hm=>by
   obtain ⟨o',es',ep',ho',r'⟩:=hm
   rw [ho] at ho'; cases ho'
   exact ⟨_,es',ep',hL,r'⟩) hok I.bare
theorem Inv.call {g':Array GenState} {t':Nat} {d':Drawn} {ch:List Addr} (I:Inv X pins σ H s) (u:Un (frs X.stack) ch H H' s.heap h') (hok:HOk X.prog X.w H' h') (hg:AllBare g')
   (hch:∀ b ∈ ch,(b ∈ X.ex\/X.s₀.heap.objs.size<=b)/\b ≠ X.env.locals/\(∀ x c,X.env.cells.lookup x=some c->c ≠ b)/\∀ p ∈ X.pn++pins,p.1 ≠ b) :
   Inv X pins σ H' { s with heap:=h',gens:=g',drawn:=d',toks:=t' }:=by
 obtain ⟨m,⟨o,es,ep,ho,r⟩,_⟩:=id I.loc
 obtain ⟨sl,hL⟩:=u.any ho I.free λz=>(hch _ z).2.1 rfl
 exact I.step (ch:=ch) hch (λb o hL hb hc e n=>u.keep b o e n (λz=>(List.mem_cons.mp (I.iz b z)).elim hL hb) hc) (λb o _ _ hc e n=>u.any e n hc) (λb o hc e n=>u.free b o e n hc) (λb o hc e=>u.there b o e hc) u.tups u.frzs u.tbls (λm' hm=>by
   obtain ⟨o',es',ep',ho',r'⟩:=hm
   rw [ho] at ho'; cases ho'
   exact ⟨_,es',ep',hL,r'⟩) hok hg
theorem Inv.turned {t':Nat} {it:Addr} (I:Inv X pins σ H s) (k:∀ b o,b ≠ it->s.heap.get? b=some o->h'.get? b=some o) (hn:H it=none) (hL:it ≠ X.env.locals)
   (h1:it ∈ X.ex\/X.s₀.heap.objs.size<=it) (h2:∀ x c,X.env.cells.lookup x=some c->c ≠ it) (h3:∀ p ∈ X.pn++pins,p.1 ≠ it):Inv X pins σ H { s with heap:=h',toks:=t' }:=by
 have nit:∀ b u,H b=some u->b ≠ it:=λb u e z=>by rw [z,hn] at e; cases e
 refine I.step (g':=s.gens) (d':=s.drawn) (ch:=[it]) (λb hb=>?_) (λb o _ _ hc e _=>k b o (λz=>hc (by simp [z])) e) (λb o _ _ hc e _=>⟨o.slots,k b o (λz=>hc (by simp [z])) e⟩) (λ_ _ _ _ n=>n)
   (λb o hc e=>⟨o,k b o (λz=>hc (by simp [z])) e⟩) (λ_ _ e=>e) (λ_ _ _ e=>e) (λb ps e=>⟨#[],by rw [e]; simp⟩) (λm hm=>?_) (λb u e=>?_) I.bare
 · have e:b=it:=by simpa using hb
   subst e
   exact ⟨h1,hL,h2,h3⟩
 · obtain ⟨o,es,ep,ho,r⟩:=hm
   exact ⟨o,es,ep,k _ o (Ne.symm hL) ho,r⟩
 · refine (I.hok b u e).d0 (λc v hc q=>k c v ?_ q) (λ_ q=>q) λ_ _ q=>q
   rcases hc with z | z
   · rw [z]; exact nit b u e
   · exact nit c _ z
theorem Inv.tok (I:Inv X pins σ H s) (t:Nat):Inv X pins σ H { s with toks:=t }:=I.un (h':=s.heap) (t':=t) Un.refl I.hok
theorem Inv.kept {t':Nat} (I:Inv X pins σ H s) (k:∀ b u,s.heap.get? b=some u->h'.get? b=some u):Inv X pins σ H { s with heap:=h',toks:=t' }:=I.un (Un.kept k) (I.hok.kept k)
theorem Inv.laid {a:Addr} {o:HO} {t':Nat} (I:Inv X pins σ H s) (k:∀ b u,s.heap.get? b=some u->h'.get? b=some u) (hp:s.heap.objs.size<=a) (new:bF X.prog X.w (upd H a o) h' a o) :
   Inv X pins σ (upd H a o) { s with heap:=h',toks:=t' }:=I.un (Un.laid k hp (I.hok.fresh hp)) (I.hok.laid k hp new)
theorem Inv.write {x e:Addr} {o:HO} {t':Nat} (I:Inv X pins σ H s) (mu:Mut (H x)) (he:e=x\/H e=some (.own x)) (k:∀ b u,b ≠ e->s.heap.get? b=some u->h'.get? b=some u) (heo:∃ u,h'.get? e=some u)
   (new:bF X.prog X.w (upd H x o) h' x o):Inv X pins σ (upd H x o) { s with heap:=h',toks:=t' }:=I.un (Un.write mu he k heo) (I.hok.write mu he k heo new)
theorem Inv.iY {pins':List (Addr × Obj)} (I:Inv X pins σ H s) (h:∀ p ∈ pins',s.heap.get? p.1=some p.2/\H p.1=none/\p.1 ≠ X.env.locals/\p.1 ∉ X.fs/\∀ v,p.2.data ≠ .cell v):Inv X pins' σ H s:=
 ⟨I.ok,I.os,I.bare,I.base,I.loc,I.cell,I.free,I.freeC,λp hp=>(List.mem_append.mp hp).elim (λz=>I.pin p (List.mem_append_left _ z)) (h p),I.hok,I.len⟩
theorem hG {N:List Str} (hN:N.Nodup) {i j:Nat} {x:Str} (a:N[i]?=some x) (b:N[j]?=some x):i=j:=by
 obtain ⟨h1,e1⟩:=List.getElem?_eq_some_iff.mp a
 obtain ⟨h2,e2⟩:=List.getElem?_eq_some_iff.mp b
 exact (List.getElem_inj hN).mp (e1.trans e2.symm)
theorem jB {M:Model} {A:Around} {E:Value->Shared->Prop} {i:Nat} {x:Str} {v:V} {u:Value} {Q:Unit->Shared->Prop} (I:Inv X pins σ H s) (hN:X.N.Nodup) (hi:X.N[i]?=some x) (hx:Loc X.env.scope x) (r:RelV v u)
   (h:∀ s',Inv X pins (σ.set i (some v)) H s'->(∃ a,Heap.SameBut a s.heap s'.heap/\(a=X.env.locals\/X.env.cells.lookup x=some a))->Q () s') (hf:X.fn x=true\/X.env.scope.names.lookup x=some .local:=by first | exact .inl rfl | exact .inr rfl | assumption):wpAny M A (storeName X.env x u) Q E s:=by
 obtain ⟨m,hn,hl⟩:=id I.loc
 have hcls:(X.env.scope.kind == .class || (X.env.scope.kind == .module && X.env.locals != X.env.globals))=false:=by rw [I.ok.kind]; rfl
 have hiσ:i < σ.length:=by rw [I.len]; exact (List.getElem?_eq_some_iff.mp hi).1
 have cne:=I.cne
 have tracked:∀ {a:Addr} {h':Heap},(∃ o,s.heap.get? a=some o/\H a=none)->Heap.SameBut a s.heap h'->HOk X.prog X.w H h':=λ{a h'} ha hs b ob e=>by
   obtain ⟨_,_,hfree⟩:=ha
   refine (I.hok b ob e).d0 (λc w' hc q=>(hs.2 c ?_).trans q) (λ_ q=>q) λ_ _ q=>q
   rintro rfl
   rcases hc with rfl | hc
   · rw [hfree] at e; cases e
   · rw [hfree] at hc; cases hc
 rcases hx with hk | hk
 · refine wpAny_storeName_local hk hn (λh' hn' hs=>?_) hcls
   obtain ⟨oL,_,_,hoL,_⟩:=id hn
   refine h _ ⟨I.ok,I.os,I.bare,⟨λb o e n hb hx=>?_,λb o e n hb hx=>?_,I.base.free,λb o e hx=>?_,I.base.tups,I.base.frzs,I.base.tbls⟩,⟨_,hn',λj y v' e1 e2 e3=>?_⟩,λy c e=>?_,I.free,I.freeC,λp hp=>?_,tracked ⟨oL,hoL,I.free⟩ hs,by simpa using I.len⟩ ⟨_,hs,.inl rfl⟩
   · exact (hs.2 b (Nat.ne_of_lt (Nat.lt_of_lt_of_le (Heap.lt_size e) I.ok.above))).trans (I.base.keep b o e n hb hx)
   · obtain ⟨sl,e1⟩:=I.base.slot b o e n hb hx
     exact ⟨sl,(hs.2 b (Nat.ne_of_lt (Nat.lt_of_lt_of_le (Heap.lt_size e) I.ok.above))).trans e1⟩
   · obtain ⟨o',e1⟩:=I.base.there b o e hx
     exact ⟨o',(hs.2 b (Nat.ne_of_lt (Nat.lt_of_lt_of_le (Heap.lt_size e) I.ok.above))).trans e1⟩
   · by_cases hj:j=i
     · subst hj
       rw [hi] at e1; cases e1
       rw [List.getElem?_set_self hiσ] at e2
       cases e2
       exact ⟨u,r,.inl ⟨hk,by simp⟩⟩
     · rw [List.getElem?_set_ne (Ne.symm hj)] at e2
       obtain ⟨u',r',q⟩:=hl j y v' e1 e2 e3
       refine ⟨u',r',?_⟩
       rcases q with ⟨k,e⟩ | ⟨k,c,e,z⟩
       · refine .inl ⟨k,?_⟩
         have:y ≠ x:=λe=>hj (hG hN e1 (e ▸ hi))
         simp [this,e]
       · exact .inr ⟨k,c,e,z.sameBut hs (cne y c e)⟩
   · obtain ⟨w',z⟩:=I.cell y c e
     exact ⟨w',z.sameBut hs (cne y c e)⟩
   · obtain ⟨e,n,ne,nf,d⟩:=I.pin p hp
     exact ⟨(hs.2 p.1 ne).trans e,n,ne,nf,d⟩
 · have hfn:X.fn x=true:=by
     rcases hf with z | z
     · exact z
     · rw [z] at hk; cases hk
   obtain ⟨c,hc⟩:=I.ok.has x (.inl hk)
   obtain ⟨w',z⟩:=I.cell x c hc
   refine wpAny_storeName_cell I.ok.kind hk hc z (λh' hc' hs=>?_)
   obtain ⟨oc,hoc,hocd⟩:=id z
   refine h { s with heap:=h' } ⟨I.ok,I.os,I.bare,⟨λb o e n hb hx=>?_,λb o e n hb hx=>?_,I.base.free,λb o e hx=>?_,I.base.tups,I.base.frzs,I.base.tbls⟩,⟨m,hn.sameBut hs (Ne.symm (cne x c hc)),λj y v' e1 e2 e3=>?_⟩,λy c' e=>?_,I.free,I.freeC,λp hp=>?_,tracked ⟨oc,hoc,I.freeC x c hc⟩ hs,by simpa using I.len⟩ ⟨c,hs,.inr hc⟩
   · exact (hs.2 b (Nat.ne_of_lt (Nat.lt_of_lt_of_le (Heap.lt_size e) (I.ok.cab x c hfn hc)))).trans (I.base.keep b o e n hb hx)
   · obtain ⟨sl,e1⟩:=I.base.slot b o e n hb hx
     exact ⟨sl,(hs.2 b (Nat.ne_of_lt (Nat.lt_of_lt_of_le (Heap.lt_size e) (I.ok.cab x c hfn hc)))).trans e1⟩
   · obtain ⟨o',e1⟩:=I.base.there b o e hx
     exact ⟨o',(hs.2 b (Nat.ne_of_lt (Nat.lt_of_lt_of_le (Heap.lt_size e) (I.ok.cab x c hfn hc)))).trans e1⟩
   · by_cases hj:j=i
     · subst hj
       rw [hi] at e1; cases e1
       rw [List.getElem?_set_self hiσ] at e2
       cases e2
       exact ⟨u,r,.inr ⟨.inl hk,c,hc,hc'⟩⟩
     · rw [List.getElem?_set_ne (Ne.symm hj)] at e2
       obtain ⟨u',r',q⟩:=hl j y v' e1 e2 e3
       refine ⟨u',r',?_⟩
       rcases q with q | ⟨k,c',e,z'⟩
       · exact .inl q
       · refine .inr ⟨k,c',e,z'.sameBut hs ?_⟩
         rintro rfl
         exact hj (hG hN e1 (I.ok.inj _ _ _ e hc ▸ hi))
   · by_cases hcc:c'=c
     · subst hcc; exact ⟨_,hc'⟩
     · obtain ⟨w2,z2⟩:=I.cell y c' e
       exact ⟨w2,z2.sameBut hs hcc⟩
   · obtain ⟨e,n,ne,nf,d⟩:=I.pin p hp
     refine ⟨(hs.2 p.1 ?_).trans e,n,ne,nf,d⟩
     intro q
     rw [q,hoc] at e
     have q':oc=p.2:=Option.some.inj e
     exact d w' (by rw [<- q']; exact hocd)
theorem gM {M:Model} {A:Around} {E:Value->Shared->Prop} {i:Nat} {x:Str} {v:V} {u:Value} {Q:Unit->Shared->Prop} (I:Inv X pins σ H s) (hN:X.N.Nodup) (hi:X.N[i]?=some x) (hx:Loc X.env.scope x) (r:RelV v u)
   (h:∀ s',Inv X pins (σ.set i (some v)) H s'->Q () s') (hf:X.fn x=true\/X.env.scope.names.lookup x=some .local:=by first | exact .inl rfl | exact .inr rfl | assumption):wpAny M A (storeName X.env x u) Q E s:=
 jB I hN hi hx r (λs' I' _=>h s' I') hf
theorem Inv.pO {s':Shared} {ch:List Addr} (I:Inv X pins σ H s) (ho:s'.os=s.os) (u:Un (frs X.stack) ch H H' s.heap s'.heap) (hok:HOk X.prog X.w H' s'.heap) (hg:AllBare s'.gens)
   (hch:∀ b ∈ ch,(b ∈ X.ex\/X.s₀.heap.objs.size<=b)/\b ≠ X.env.locals/\(∀ x c,X.env.cells.lookup x=some c->c ≠ b)/\∀ p ∈ X.pn++pins,p.1 ≠ b):Inv X pins σ H' s':=by
 obtain ⟨h',g',d',t',o'⟩:=s'
 have e:o'=s.os:=ho
 subst e
 exact I.call (g':=g') (t':=t') (d':=d') u hok hg hch
end
noncomputable abbrev XK:=Value->Option Addr->Hp->Prop
noncomputable abbrev St:=List (Option V)
noncomputable abbrev VK:=V->Hp->Prop
noncomputable abbrev TE:=St->Hp->VK->Prop
noncomputable abbrev TT:=St->Hp->(Bool->Hp->Prop)->Prop
noncomputable abbrev TA:=St->Hp->(List V->Hp->Prop)->Prop
structure Ends where
 nx:St->Hp->Prop
 rt:VK
 bk:St->Hp->Prop:=λ_ _=>False
 ct:St->Hp->Prop:=λ_ _=>False
noncomputable abbrev TS:=Ends->St->Hp->Prop
noncomputable def EP (X:Cx) (pins:List (Addr × Obj)) (σ:St) (Q:VK) (u:Value) (s':Shared):Prop:=∃ v H',Inv X pins σ H' s'/\RelV v u/\Q v H'
noncomputable def TP (X:Cx) (pins:List (Addr × Obj)) (σ:St) (Q:Bool->Hp->Prop) (b:Bool) (s':Shared):Prop:=∃ H',Inv X pins σ H' s'/\Q b H'
noncomputable def AP (X:Cx) (pins:List (Addr × Obj)) (σ:St) (Q:List V->Hp->Prop) (us:List Value) (s':Shared):Prop:=∃ vs H',Inv X pins σ H' s'/\Vals vs us/\Q vs H'
noncomputable def SP (X:Cx) (pins:List (Addr × Obj)) (D:Ends) (f:Flow) (s':Shared):Prop:=
 match f with
 | .next=>∃ σ' H',Inv X pins σ' H' s'/\D.nx σ' H'
 | .brk=>∃ σ' H',Inv X pins σ' H' s'/\D.bk σ' H'
 | .cont=>∃ σ' H',Inv X pins σ' H' s'/\D.ct σ' H'
 | .ret u=>∃ v σ' H',Inv X pins σ' H' s'/\RelV v u/\D.rt v H'
noncomputable def PE (X:Cx) (e:Expr) (t:TE):Prop:=
 ∀ (pins:List (Addr × Obj)) (s:Shared) (σ:St) (H:Hp) (Q:VK),Inv X pins σ H s->t σ H Q->wpAny (model X.prog X.w) X.A (eval e X.env) (EP X pins σ Q) X.xe s
noncomputable def PT (X:Cx) (e:Expr) (t:TT):Prop:=
 ∀ (pins:List (Addr × Obj)) (s:Shared) (σ:St) (H:Hp) (Q:Bool->Hp->Prop),Inv X pins σ H s->t σ H Q->wpAny (model X.prog X.w) X.A (isTrue e X.env (eval e X.env)) (TP X pins σ Q) X.xe s
noncomputable def PW (X:Cx) (e:Expr) (t:TT):Prop:=
 ∀ (whole:Sem Value) (pins:List (Addr × Obj)) (s:Shared) (σ:St) (H:Hp) (Q:Bool->Hp->Prop),Inv X pins σ H s->t σ H Q->wpAny (model X.prog X.w) X.A (isTrue e X.env whole) (TP X pins σ Q) X.xe s
theorem PW.pt {X:Cx} {e:Expr} {t:TT} (h:PW X e t):PT X e t:=h _
noncomputable def PA (X:Cx) (es:List Expr) (t:TA):Prop:=
 ∀ (pos:Pos) (pins:List (Addr × Obj)) (s:Shared) (σ:St) (H:Hp) (Q:List V->Hp->Prop),Inv X pins σ H s->t σ H Q->wpAny (model X.prog X.w) X.A (spliced (backTo pos (starEach es X.env))) (AP X pins σ Q) X.xe s
noncomputable def PS (X:Cx) (st:Stmt) (t:TS):Prop:=
 ∀ (pins:List (Addr × Obj)) (s:Shared) (σ:St) (H:Hp) (D:Ends),Inv X pins σ H s->t D σ H->wpAny (model X.prog X.w) X.A (exec st X.env) (SP X pins D) X.xe s
noncomputable def PSs (X:Cx) (st:List Stmt) (t:TS):Prop:=
 ∀ (pins:List (Addr × Obj)) (s:Shared) (σ:St) (H:Hp) (D:Ends),Inv X pins σ H s->t D σ H->wpAny (model X.prog X.w) X.A (execs st X.env) (SP X pins D) X.xe s
theorem thn {α:Type} {t:Sem α} {Q Q':α->Shared->Prop} {M:Model} {A:Around} {E:Value->Shared->Prop} {s:Shared} (h:wpAny M A t Q E s) (hQ:∀ a s,Q a s->Q' a s):wpAny M A t Q' E s:=wpAny_mono h hQ λ_ _ x=>x
section
variable {X:Cx}
theorem bin {a b:Expr} {ta tb:TE} (ha:PE X a ta) (hb:PE X b tb) {pins:List (Addr × Obj)} {s:Shared} {σ:St} {H:Hp} {R:V->V->Hp->Prop} (I:Inv X pins σ H s) (h:ta σ H λx H1=>tb σ H1 λy H2=>R x y H2)
   {α:Type} {Q:α->Shared->Prop} {f:Value->Value->Sem α}
   (hf:∀ v u s2 x y H2,Inv X pins σ H2 s2->RelV x v->RelV y u->R x y H2->wpAny (model X.prog X.w) X.A (f v u) Q X.xe s2) :
   wpAny (model X.prog X.w) X.A (eval a X.env) (λv s₁=>wpAny (model X.prog X.w) X.A (eval b X.env) (λu s₂=>wpAny (model X.prog X.w) X.A (f v u) Q X.xe s₂) X.xe s₁) X.xe s:=by
 refine thn (ha pins s σ H _ I h) λv s1 ⟨x,H1,I1,r1,q1⟩=>?_
 refine thn (hb pins s1 σ H1 _ I1 q1) λu s2 ⟨y,H2,I2,r2,q2⟩=>?_
 exact hf v u s2 x y H2 I2 r1 r2 q2
noncomputable def qi (i:Nat):TE:=λσ H Q=>∃ v,σ[i]?=some (some v)/\Q v H
noncomputable def tC (v:V):TE:=λ_ H Q=>Q v H
theorem di {i:Nat} {x:Str} {pos:Pos} (hN:X.N[i]?=some x) (hv:Vis X.env.scope x) (hd:(x == ("__debug__" : Str))=false:=by decide) (hcd:(x == ("__classdict__" : Str))=false:=by decide):PE X (.Name x pos) (qi i):=by
 intro pins s σ H Q I h
 obtain ⟨v,e,h⟩:=h
 obtain ⟨m,hn,hl⟩:=I.loc
 obtain ⟨u,r,l⟩:=hl i x v hN e hv
 have fin:EP X pins σ Q u s:=⟨v,H,I,r,h⟩
 rcases l with ⟨hk,hm⟩ | ⟨hk,c,hc,hcell⟩
 · exact wpAny_Name (wpAny_loadName_local I.ok.kind hk hn hm fin) hd
 · rcases hk with hk | hk
   · exact wpAny_Name (wpAny_loadName_cell I.ok.kind hk hc hcell fin) hd
   · exact wpAny_Name (wpAny_loadName_free I.ok.kind hk hc hcell fin hcd) hd
theorem ou {i j pos}:PE X (.Constant (.int i) j pos) (tC (.int i)):=λ_ _ _ H _ I h=>wpAny_Constant_int ⟨.int i,H,I.tok _,⟨_,rfl⟩,h⟩
theorem pH {b j pos}:PE X (.Constant (.bool b) j pos) (tC (.bl b)):=λ_ _ _ H _ I h=>Constant_bool ⟨.bl b,H,I,rfl,h⟩
theorem nB {x j pos}:PE X (.Constant (.str x) j pos) (tC (.str x)):=λ_ _ _ H _ I h=>Calls.Constant_str ⟨.str x,H,I.tok _,⟨_,rfl⟩,h⟩
noncomputable def Gl (X:Cx) (x:Str):Prop:=X.env.kindOf x=some .globalImplicit
theorem i9 {E:Value->Shared->Prop} {pins:List (Addr × Obj)} {s:Shared} {σ:St} {H:Hp} {x:Str} {u:Value} {pos:Pos} {Q:Value->Shared->Prop} (I:Inv X pins σ H s) (hg:Gl X x) (hm:X.mg x=some u) (h:Q u s)
   (hd:(x == ("__debug__" : Str))=false:=by decide):wpAny (model X.prog X.w) X.A (eval (.Name x pos) X.env) Q E s:=
 Calls.Name_function_global I.ok.kind hg (Calls.loadGlobal_global (by rw [I.ok.glob]; exact I.mod.glob.keeps I.bk) hm h) hd
theorem df {E:Value->Shared->Prop} {pins:List (Addr × Obj)} {s:Shared} {σ:St} {H:Hp} {x:Str} {u:Value} {pos:Pos} {Q:Value->Shared->Prop} (I:Inv X pins σ H s) (hg:Gl X x) (hm:X.mg x=none) (hv:bootBuiltins x=some u) (h:Q u s)
   (hn:x ≠ "__name__":=by decide) (hd:(x == ("__debug__" : Str))=false:=by decide):wpAny (model X.prog X.w) X.A (eval (.Name x pos) X.env) Q E s:=by
 obtain ⟨mb,h1,h2⟩:=I.mod.blt
 exact Calls.Name_function_global I.ok.kind hg (Calls.loadGlobal_builtin (by rw [I.ok.glob]; exact I.mod.glob.keeps I.bk) hm (by rw [I.ok.blt]; exact h1.keeps I.bk) ((h2 x hn).trans hv) h) hd
theorem i8 {x:Str} {v:V} {u:Value} {pos:Pos} (hg:Gl X x) (hm:X.mg x=some u) (r:RelV v u) (hd:(x == ("__debug__" : Str))=false:=by decide):PE X (.Name x pos) (tC v):=
 λ_ _ _ H _ I h=>i9 I hg hm ⟨v,H,I,r,h⟩ hd
theorem lU {x:Str} {v:V} {u:Value} {pos:Pos} (hg:Gl X x) (hm:X.mg x=none) (hv:bootBuiltins x=some u) (r:RelV v u) (hn:x ≠ "__name__":=by decide) (hd:(x == ("__debug__" : Str))=false:=by decide):PE X (.Name x pos) (tC v):=
 λ_ _ _ H _ I h=>df I hg hm hv ⟨v,H,I,r,h⟩ hn hd
variable {a b:Expr} {ta tb:TE} {pos:Pos}
noncomputable def PC (X:Cx) (op:CmpOp) (a b:Expr) (t:TE):Prop:=
 ∀ (pins:List (Addr × Obj)) (s:Shared) (σ:St) (H:Hp) (Q:VK),Inv X pins σ H s->t σ H Q ->
   wpAny (model X.prog X.w) X.A (eval a X.env) (λv s₁=>wpAny (model X.prog X.w) X.A (eval b X.env) (λu s₂=>wpAny (model X.prog X.w) X.A (compareOp op v u) (EP X pins σ Q) X.xe s₂) X.xe s₁) X.xe s
theorem k9 (b:Expr) {op:CmpOp} (h:op ≠ .In) (h2:op ≠ .NotIn):behindInMarks op b=false:=by
 have e1:(op == CmpOp.In)=false:=by cases op <;> first | rfl | exact absurd rfl h
 have e2:(op == CmpOp.NotIn)=false:=by cases op <;> first | rfl | exact absurd rfl h2
 cases b <;> simp [behindInMarks,e1,e2]
noncomputable def tB (t:TE):TT:=λσ H Q=>t σ H λx H1=>∃ c,x=.bl c/\Q c H1
theorem qA {op:CmpOp} {t:TE} (h:PC X op a b t) (h1:behindInMarks op b=false:=by first | exact k9 _ (by decide) (by decide) | rfl):PT X (.Compare a [op] [b] pos) (tB t):=by
 intro pins s σ H Q I hw
 refine wpAny_isTrue_Compare1 (thn (h pins s σ H _ I hw) λv s1 h1=>thn h1 λu s2 h2=>thn h2 λc s3 ⟨x,H1,I1,r1,q1⟩=>?_) h1
 obtain ⟨d,rfl,q⟩:=q1
 cases r1
 exact wpAny_truthy_bool ⟨H1,I1,q⟩
theorem oE {e:Expr} {t:TE} (h:PE X e t) (he:∀ whole,isTrue e X.env whole=(do let v <- whole; standAt e.pos; holding [v] (truthy v)):=by intro _; rfl):PT X e (tB t):=by
 intro pins s σ H Q I hw
 refine isTrue_plain (thn (h pins s σ H _ I hw) λv s1 ⟨x,H1,I1,r1,q1⟩=>?_) (he _)
 obtain ⟨d,rfl,q⟩:=q1
 cases r1
 exact wpAny_truthy_bool ⟨H1,I1,q⟩
variable {tA tB':TT} {rest:List Expr}
noncomputable def qF (t u:TT):TT:=λσ H Q=>t σ H λc H1=>if c=true then u σ H1 Q else Q false H1
noncomputable def tOr (t u:TT):TT:=λσ H Q=>t σ H λc H1=>if c=true then Q true H1 else u σ H1 Q
noncomputable def qm (t:TT):TT:=λσ H Q=>t σ H λc H1=>Q (!c) H1
theorem pw_and1 (ha:PT X a tA):PW X (.BoolOp .And [a] pos) tA:=by
 intro wh pins s σ H Q I h
 refine isTrue_and (thn (ha pins s σ H Q I h) λc s1 e=>?_)
 cases c with
 | true=>exact isTrue_and_nil e
 | false=>exact e
theorem pw_or1 (ha:PT X a tA):PW X (.BoolOp .Or [a] pos) tA:=by
 intro wh pins s σ H Q I h
 refine isTrue_or (thn (ha pins s σ H Q I h) λc s1 e=>?_)
 cases c with
 | false=>exact isTrue_or_nil e
 | true=>exact e
theorem pw_and (ha:PT X a tA) (hb:PW X (.BoolOp .And (b :: rest) pos) tB'):PW X (.BoolOp .And (a :: b :: rest) pos) (qF tA tB'):=by
 intro wh pins s σ H Q I h
 refine isTrue_and (thn (ha pins s σ H _ I h) λc s1 ⟨H1,I1,q1⟩=>?_)
 cases c with
 | true=>exact hb wh pins s1 σ H1 Q I1 q1
 | false=>exact ⟨H1,I1,q1⟩
theorem pw_or (ha:PT X a tA) (hb:PW X (.BoolOp .Or (b :: rest) pos) tB'):PW X (.BoolOp .Or (a :: b :: rest) pos) (tOr tA tB'):=by
 intro wh pins s σ H Q I h
 refine isTrue_or (thn (ha pins s σ H _ I h) λc s1 ⟨H1,I1,q1⟩=>?_)
 cases c with
 | true=>exact ⟨H1,I1,q1⟩
 | false=>exact hb wh pins s1 σ H1 Q I1 q1
theorem ot (ha:PT X a tA):PT X (.UnaryOp .Not a pos) (qm tA):=by
 intro pins s σ H Q I h
 exact isTrue_not (ha pins s σ H (λc H1=>Q (!c) H1) I h)
noncomputable def oX (ta tb:TE):TE:=λσ H Q=>ta σ H λx H1=>∃ c,x=.bl c/\if c=true then tb σ H1 Q else Q (.bl false) H1
noncomputable def o8 (ta:TE):TE:=λσ H Q=>ta σ H λx H1=>∃ c,x=.bl c/\Q (.bl (!c)) H1
theorem oF {op} {t:TE} (h:PE X a t):PE X (.BoolOp op [a] pos) t:=λpins s σ H Q I hw=>BoolOp_one (h pins s σ H Q I hw)
theorem kg (ha:PE X a ta) (hb:PE X (.BoolOp .And (b :: rest) pos) tb):PE X (.BoolOp .And (a :: b :: rest) pos) (oX ta tb):=by
 intro pins s σ H Q I h
 refine BoolOp_and (thn (ha pins s σ H _ I h) λv s1 ⟨x,H1,I1,r1,q1⟩=>?_)
 obtain ⟨c,rfl,q1⟩:=q1
 cases r1
 refine wpAny_truthy_bool ?_
 cases c with
 | true=>exact hb pins s1 σ H1 Q I1 q1
 | false=>exact ⟨.bl false,H1,I1,rfl,q1⟩
theorem oK (ha:PE X a ta):PE X (.UnaryOp .Not a pos) (o8 ta):=by
 intro pins s σ H Q I h
 refine UnaryOp_ (thn (ha pins s σ H _ I h) λv s1 ⟨x,H1,I1,r1,q1⟩=>?_)
 obtain ⟨c,rfl,q1⟩:=q1
 cases r1
 exact not_of (wpAny_truthy_bool ⟨.bl (!c),H1,I1,rfl,q1⟩)
noncomputable def tIf (t:TT) (ta tb:TE):TE:=λσ H Q=>t σ H λc H1=>if c=true then ta σ H1 Q else tb σ H1 Q
theorem gP {c:Expr} (hc:PT X c tA) (ha:PE X a ta) (hb:PE X b tb):PE X (.IfExp c a b pos) (tIf tA ta tb):=by
 intro pins s σ H Q I h
 refine wpAny_IfExp (thn (hc pins s σ H _ I h) λd s1 ⟨H1,I1,q1⟩=>?_)
 cases d with
 | true=>exact ha pins s1 σ H1 Q I1 q1
 | false=>exact hb pins s1 σ H1 Q I1 q1
end
noncomputable def SqL (K:PySem.W.Frag) (H:Hp) (a:Addr) (xs:List V):Prop:=
 Rd H a (.lst xs) \/
   ∃ (o:Obj) (its:Array Value) (n:Nat),K.lookup a=some o/\o.cls=.type "list" /\ o.dict=none/\o.data=.seq its n/\its.size<=sizeLine/\Vals xs its.toList
noncomputable def SqT (K:PySem.W.Frag) (H:Hp) (a:Addr) (xs:List V):Prop:=
 Rd H a (.tup xs) \/
   ∃ (o:Obj) (its:Array Value) (n:Nat),K.lookup a=some o/\o.cls=.type "tuple" /\ o.data=.seq its n/\its.size<=sizeLine/\Vals xs its.toList
noncomputable def qt:Value->Option V
 | .none=>some .non
 | .bool b=>some (.bl b)
 | .int i _=>some (.int i)
 | .str x _=>some (.str x)
 | .bytes b _=>some (.byt b)
 | .float b _=>some (.flt b)
 | .ref a=>some (.ref a)
 | .type n=>some (.ty n)
 | _=>none
theorem RelV.abs {x:V} {u:Value} (r:RelV x u):qt u=some x:=by
 cases x with
 | non=>cases r; rfl
 | bl _=>cases r; rfl
 | int _=>obtain ⟨t,rfl⟩:=r; rfl
 | str _=>obtain ⟨t,rfl⟩:=r; rfl
 | byt _=>obtain ⟨t,rfl⟩:=r; rfl
 | flt _=>obtain ⟨t,rfl⟩:=r; rfl
 | ref _=>cases r; rfl
 | ty _=>cases r; rfl
theorem RelV.inj {x y:V} {u:Value} (r:RelV x u) (q:RelV y u):x=y:=Option.some.inj (r.abs.symm.trans q.abs)
theorem Vals.inj:∀ {xs ys:List V} {us:List Value},Vals xs us->Vals ys us->xs=ys
 | _,_,_,.nil,.nil=>rfl
 | _,_,_,.cons r t,.cons r' t'=>by rw [r.inj r',Vals.inj t t']
section
variable {X:Cx} {pins:List (Addr × Obj)} {σ:St} {H:Hp} {s:Shared} {a:Addr} {xs ys:List V}
theorem SqL.of {K:PySem.W.Frag} (h:H a=some (.lst xs)):SqL K H a xs:=.inl (.inl h)
theorem SqT.of {K:PySem.W.Frag} (h:H a=some (.tup xs)):SqT K H a xs:=.inl (.inl h)
theorem Inv.list (I:Inv X pins σ H s) (h:SqL X.K H a xs):∃ its:List Value,Vals xs its/\PlainL s.heap a its.toArray/\xs.length<=sizeLine:=by
 rcases h with h | ⟨o,its,n,hk,hc,hd,hs,hz,r⟩
 · obtain ⟨z,its,n,r,e⟩:=h.ok I.hok
   exact ⟨its,r,⟨_,n,e,rfl,rfl,rfl⟩,z⟩
 · refine ⟨its.toList,r,⟨o,n,I.kIn a o hk,hc,hd,by simpa using hs⟩,?_⟩
   have e:=r.length
   simp only [Array.length_toList] at e
   omega
theorem Inv.tuple (I:Inv X pins σ H s) (h:SqT X.K H a xs):∃ its:List Value,Vals xs its/\IsTup s.heap a its.toArray/\xs.length<=sizeLine:=by
 rcases h with h | ⟨o,its,n,hk,hc,hs,hz,r⟩
 · obtain ⟨z,its,r,p⟩:=h.ok I.hok
   exact ⟨its,r,p,z⟩
 · refine ⟨its.toList,r,⟨o,I.kIn a o hk,hc,n,by simpa using hs⟩,?_⟩
   have e:=r.length
   simp only [Array.length_toList] at e
   omega
theorem Inv.cW (I:Inv X pins σ H s) (h:SqL X.K H a xs) (h':SqL X.K H a ys):xs=ys:=by
 obtain ⟨its,r,⟨o,n,e,_,_,d⟩,_⟩:=I.list h
 obtain ⟨its',r',⟨o',n',e',_,_,d'⟩,_⟩:=I.list h'
 rw [e] at e'; cases e'
 rw [d] at d'
 injection d' with d1 _
 have:its=its':=by simpa using congrArg Array.toList d1
 subst this
 exact r.inj r'
end
noncomputable abbrev Cx.fg (X:Cx) (E:Value->Shared->Prop):Cx:={ X with xe:=E }
noncomputable abbrev Cx.nox (X:Cx):Cx:=X.fg λ_ _=>False
theorem Cx.Ok.fg {X:Cx} (ok:X.Ok) (E:Value->Shared->Prop):(X.fg E).Ok:=
 ⟨ok.mod,ok.kind,ok.glob,ok.blt,ok.above,ok.inj,ok.has,ok.cab,ok.hd,ok.frames,ok.stk,ok.exf,ok.bs,ok.bsz,ok.noex,ok.exfs,ok.dD,ok.frf⟩
theorem Cx.Ok.b9 {X:Cx} {E:Value->Shared->Prop} (ok:(X.fg E).Ok):X.Ok:=
 ⟨ok.mod,ok.kind,ok.glob,ok.blt,ok.above,ok.inj,ok.has,ok.cab,ok.hd,ok.frames,ok.stk,ok.exf,ok.bs,ok.bsz,ok.noex,ok.exfs,ok.dD,ok.frf⟩
section
variable {X:Cx} {pins:List (Addr × Obj)} {σ:St} {H:Hp} {s:Shared} {E:Value->Shared->Prop}
theorem Inv.fg (I:Inv X pins σ H s) (E:Value->Shared->Prop):Inv (X.fg E) pins σ H s:=⟨I.ok.fg E,I.os,I.bare,I.base,I.loc,I.cell,I.free,I.freeC,I.pin,I.hok,I.len⟩
theorem Inv.b9 (I:Inv (X.fg E) pins σ H s):Inv X pins σ H s:=⟨I.ok.b9,I.os,I.bare,I.base,I.loc,I.cell,I.free,I.freeC,I.pin,I.hok,I.len⟩
theorem SP.b9 {D:Ends} {f:Flow} {s':Shared} (h:SP (X.fg E) pins D f s'):SP X pins D f s':=by
 cases f with
 | next=>obtain ⟨σ',H',I,q⟩:=h; exact ⟨σ',H',I.b9,q⟩
 | brk=>obtain ⟨σ',H',I,q⟩:=h; exact ⟨σ',H',I.b9,q⟩
 | cont=>obtain ⟨σ',H',I,q⟩:=h; exact ⟨σ',H',I.b9,q⟩
 | ret u=>obtain ⟨v,σ',H',I,r,q⟩:=h; exact ⟨v,σ',H',I.b9,r,q⟩
theorem PSs.nox {st:List Stmt} {t:TS} (h:PSs X.nox st t):PSs X st t:=λpins s σ H D I hw=>
 wpAny_mono (h pins s σ H D (I.fg _) hw) (λ_ _ q=>q.b9) λ_ _ z=>False.elim z
end
section
variable {X:Cx} {st:Stmt} {rest:List Stmt} {t u:TS} {e:Expr} {te:TE} {pos:Pos}
noncomputable def pN:TS:=λD σ H=>D.nx σ H
noncomputable def qy (t u:TS):TS:=λD σ H=>t { D with nx:=u D } σ H
theorem lQ:PSs X [] pN:=λ_ _ σ H _ I h=>wpAny_execs_nil ⟨σ,H,I,h⟩
theorem ki (h1:PS X st t) (h2:PSs X rest u):PSs X (st :: rest) (qy t u):=by
 intro pins s σ H D I h
 refine wpAny_execs_cons (thn (h1 pins s σ H { D with nx:=u D } I h) λf s1 q=>?_)
 cases f with
 | next=>
   obtain ⟨σ',H',I',q⟩:=q
   exact h2 pins s1 σ' H' D I' q
 | ret v=>exact q
 | brk=>exact q
 | cont=>exact q
theorem Inv.quiet {pins:List (Addr × Obj)} {σ:St} {H:Hp} {s:Shared} (I:Inv X pins σ H s):interactive X.env=false:=by simp [interactive,I.ok.kind]
noncomputable def p0 (te:TE):TS:=λD σ H=>te σ H λ_ H1=>D.nx σ H1
theorem gn (he:PE X e te) (hs:swapsWith e none pos.line X.env=pure false:=by rfl):PS X (.Expr e pos) (p0 te):=by
 intro pins s σ H D I h
 exact wpAny_Expr_any (thn (he pins s σ H _ I h) λv s1 ⟨x,H1,I1,r1,q1⟩=>⟨σ,H1,I1,q1⟩) I.quiet hs
noncomputable def qH (te:TE):TS:=λD σ H=>te σ H D.rt
theorem lA (he:PE X e te):PS X (.Return (some e) pos) (qH te):=by
 intro pins s σ H D I h
 exact wpAny_Return_some (thn (he pins s σ H _ I h) λv s1 ⟨x,H1,I1,r1,q1⟩=>⟨x,σ,H1,I1,r1,q1⟩)
noncomputable def qM (c:TT) (t u:TS):TS:=λD σ H=>c σ H λb H1=>if b=true then t D σ H1 else u D σ H1
theorem mF {c:Expr} {a b:List Stmt} {tc:TT} (hc:PT X c tc) (ha:PSs X a t) (hb:PSs X b u):PS X (.If c a b pos) (qM tc t u):=by
 intro pins s σ H D I h
 refine wpAny_If (thn (hc pins s σ H _ I h) λd s1 ⟨H1,I1,q1⟩=>?_)
 cases d with
 | true=>exact ha pins s1 σ H1 D I1 q1
 | false=>exact hb pins s1 σ H1 D I1 q1
noncomputable def ny:TS:=λ_ _ _=>False
theorem fG {sts:List Stmt}:PSs X sts ny:=λ_ _ _ _ _ _ h=>h.elim
end
noncomputable abbrev TG:=V->St->Hp->(St->Hp->Prop)->Prop
noncomputable abbrev TGs:=List V->St->Hp->(St->Hp->Prop)->Prop
noncomputable def PG (X:Cx) (target:Expr) (t:TG):Prop:=
 ∀ (pins:List (Addr × Obj)) (s:Shared) (σ:St) (H:Hp) (v:V) (u:Value) (Q:St->Hp->Prop),Inv X pins σ H s->RelV v u->t v σ H Q ->
   wpAny (model X.prog X.w) X.A (assign target X.env u) (λ_ s'=>∃ σ' H',Inv X pins σ' H' s'/\Q σ' H') X.xe s
noncomputable def PGs (X:Cx) (ts:List Expr) (t:TGs):Prop:=
 ∀ (pins:List (Addr × Obj)) (s:Shared) (σ:St) (H:Hp) (vs:List V) (us:List Value) (Q:St->Hp->Prop),Inv X pins σ H s->Vals vs us->t vs σ H Q ->
   wpAny (model X.prog X.w) X.A (assignInOrder ((assignEach ts X.env).map (·.2)) us) (λ_ s'=>∃ σ' H',Inv X pins σ' H' s'/\Q σ' H') X.xe s
section
variable {X:Cx} {pos:Pos}
noncomputable def mP (i:Nat):TG:=λv σ H Q=>Q (σ.set i (some v)) H
theorem dN {i:Nat} {x:Str} (hN:X.N.Nodup) (hi:X.N[i]?=some x) (hx:Loc X.env.scope x) (hf:X.fn x=true\/X.env.scope.names.lookup x=some .local:=by first | exact .inl rfl | exact .inr rfl | assumption):PG X (.Name x pos) (mP i):=by
 intro pins s σ H v u Q I r h
 exact wpAny_assign_Name (gM I hN hi hx r (λs' I'=>⟨_,H,I',h⟩) hf)
noncomputable def qQ:TGs:=λvs σ H Q=>vs=[]/\Q σ H
noncomputable def pT (t:TG) (u:TGs):TGs:=λvs σ H Q=>∃ v r,vs=v :: r/\t v σ H λσ' H'=>u r σ' H' Q
theorem i6:PGs X [] qQ:=by
 intro pins s σ H vs us Q I r h
 obtain ⟨e,h⟩:=h
 subst e
 cases r
 exact assignInOrder_nil ⟨σ,H,I,h⟩
theorem eC {e:Expr} {es:List Expr} {t:TG} {u:TGs} (h1:PG X e t) (h2:PGs X es u)
   (hs:(assignEach (e :: es) X.env).map (·.2)=assign e X.env :: (assignEach es X.env).map (·.2):=by rfl):PGs X (e :: es) (pT t u):=by
 intro pins s σ H vs us Q I r h
 obtain ⟨v,vr,e1,h⟩:=h
 subst e1
 cases r with
 | cons r rr=>
   rw [hs]
   refine assignInOrder_cons (thn (h1 pins s σ H _ _ _ I r h) λ_ s1 ⟨σ1,H1,I1,q1⟩=>?_)
   exact h2 pins s1 σ1 H1 _ _ Q I1 rr q1
noncomputable def qv (K:PySem.W.Frag) (n:Nat) (t:TGs):TG:=λv σ H Q=>∃ a xs,v=.ref a/\SqT K H a xs/\xs.length=n/\t xs σ H Q
theorem kI {es:List Expr} {k:Nat} {t:TGs} {n:Nat} (hc:X.calm=true) (h:PGs X es t)
   (hn:(assignEach es X.env).length=n:=by rfl) (hst:(assignEach es X.env).findIdx? (·.1)=none:=by rfl):PG X (.Tuple es k pos) (qv X.K n t):=by
 intro pins s σ H v u Q I r hw
 obtain ⟨a,xs,e1,hq,hl,hw⟩:=hw
 subst e1
 cases r
 obtain ⟨its,rv,ht,hz⟩:=I.tuple hq
 refine assign_Tuple_tuple (I.ok.hd hc) ht (by simp [hn,<- hl,rv.length]) hst λh' hx=>?_
 have I1:Inv X pins σ H { s with heap:=h' }:=I.kept (t':=s.toks) λb o e=>hx b o (Nat.ne_of_lt (Heap.lt_size e)) e
 exact h pins _ σ H xs _ Q I1 (by simpa using rv) hw
noncomputable def qd (te:TE) (g:TG):TS:=λD σ H=>te σ H λx H1=>g x σ H1 D.nx
theorem ow {tg e:Expr} {te:TE} {g:TG} (he:PE X e te) (hg:PG X tg g) (hs:swapsWithSole [tg] e pos.line X.env=pure false:=by rfl) (hw:swappedStores [tg] e X.env=pure none:=by rfl)
   (h1:(assignEach [tg] X.env).map (·.2)=[assign tg X.env]:=by rfl):PS X (.Assign [tg] e pos) (qd te g):=by
 intro pins s σ H D I h
 refine wpAny_Assign_stores (thn (he pins s σ H _ I h) λv s1 ⟨x,H1,I1,r1,q1⟩=>?_) hs hw
 rw [h1]
 exact thn (hg pins s1 σ H1 x v _ I1 r1 q1) λ_ s2 q=>q
theorem om {i:Nat} {x:Str} {e:Expr} {te:TE} {pos':Pos} (hN:X.N.Nodup) (hi:X.N[i]?=some x) (hx:Loc X.env.scope x) (he:PE X e te) (hs:swapsWith e (some (.Name x pos')) pos.line X.env=pure false:=by rfl) (hf:X.fn x=true\/X.env.scope.names.lookup x=some .local:=by first | exact .inl rfl | exact .inr rfl | assumption) :
   PS X (.Assign [.Name x pos'] e pos) (qd te (mP i)):=by
 intro pins s σ H D I h
 refine wpAny_Assign_Name (thn (he pins s σ H _ I h) λv s1 ⟨y,H1,I1,r1,q1⟩=>?_) hs
 exact gM I1 hN hi hx r1 (λs2 I2=>⟨_,H1,I2,q1⟩) hf
end
section
variable {X:Cx} {pos:Pos}
noncomputable def nM (c:TT) (tb:TS):TS:=λD σ H=>∃ W:Nat->St->Hp->Prop,(∃ m,W m σ H)/\∀ m σ H,W m σ H ->
 c σ H λb H1=>if b=true then ∃ N:St->Hp->Prop,(∀ σ' H',N σ' H'->∃ m',m' < m/\W m' σ' H')/\tb { D with nx:=N,ct:=N,bk:=D.nx } σ H1 else D.nx σ H1
theorem kJ {c:Expr} {body:List Stmt} {tc:TT} {tb:TS} (hp:PassesOwn (model X.prog X.w) X.A X.env X.xe) (hc:PT X c tc) (hb:PSs X body tb):PS X (.While c body [] pos) (nM tc tb):=by
 intro pins s σ H D I h
 obtain ⟨W,⟨m0,w0⟩,turn⟩:=h
 refine wpAny_While (codeAny_whileLoop (λn s'=>∃ σ' H',Inv X pins σ' H' s'/\W n σ' H') ?_ m0 ⟨σ,H,I,w0⟩)
 rintro n s1 ⟨σ1,H1,I1,w1⟩
 refine wpAny_passesOwn hp (thn (hc pins s1 σ1 H1 _ I1 (turn n σ1 H1 w1)) λb s2 ⟨H2,I2,q2⟩=>?_)
 cases b with
 | true=>
   obtain ⟨N,hN,q2⟩:=q2
   rw [if_pos rfl]
   refine wpAny_passesOwn hp (thn (hb pins s2 σ1 H2 _ I2 q2) λf s3 q3=>?_)
   cases f with
   | next=>
     obtain ⟨σ3,H3,I3,n3⟩:=q3
     obtain ⟨m',hm,w3⟩:=hN σ3 H3 n3
     exact ⟨m',hm,σ3,H3,I3,w3⟩
   | cont=>
     obtain ⟨σ3,H3,I3,n3⟩:=q3
     obtain ⟨m',hm,w3⟩:=hN σ3 H3 n3
     exact ⟨m',hm,σ3,H3,I3,w3⟩
   | brk=>exact q3
   | ret v=>exact q3
 | false=>
   rw [if_neg Bool.false_ne_true]
   exact wpAny_execs_nil ⟨σ1,H2,I2,q2⟩
end
structure It where
 go:Nat->Hp->Prop
 yld:Nat->Hp->V->Hp->Prop
 stop:Nat->Hp->Prop
noncomputable def hU (X:Cx) (pins:List (Addr × Obj)) (H:Hp) (b:Addr):Prop:=
 H b=none/\b ≠ X.env.locals/\b ∉ X.fs/\(b ∈ X.ex\/X.s₀.heap.objs.size<=b)/\(∀ x c,X.env.cells.lookup x=some c->c ≠ b)/\∀ p ∈ X.pn++pins,p.1 ≠ b
theorem Inv.jA {X:Cx} {pins:List (Addr × Obj)} {σ:St} {H H':Hp} {s:Shared} {b:Addr} (I:Inv X pins σ H s) (hb:s.heap.objs.size<=b) (hn:H' b=none):hU X pins H' b:=by
 refine ⟨hn,Nat.ne_of_gt (Nat.lt_of_lt_of_le I.lt hb),I.qz hb,.inr (Nat.le_trans I.sz hb),λx c e z=>?_,λp hp z=>?_⟩
 · obtain ⟨v,q⟩:=I.cell x c e
   exact absurd (Nat.lt_of_lt_of_le q.lt (by rw [z]; exact hb)) (Nat.lt_irrefl _)
 · exact absurd (Nat.lt_of_lt_of_le (Heap.lt_size (I.pin p hp).1) (by rw [z]; exact hb)) (Nat.lt_irrefl _)
noncomputable def qR (X:Cx):Prop:=∃ h o u vs,X.A.handled=some (.ref h)/\X.H₀ h=some (.frz o u)/\o.data=.fields vs/\vs[2]?=some .none
noncomputable def Ck (kd:Bool) (X:Cx):Prop:=X.calm=true\/(kd=true/\qR X)
theorem Ck.calm {X:Cx} (h:Ck false X):X.calm=true:=h.resolve_right λz=>nomatch z.1
structure Turn (P:Program) (w:World) (K:PySem.W.Frag) (kd:Bool) (tg:Expr) (J:It) (fp:List Addr) (it:Addr) (tn:Nat->Heap->Prop):Prop where
 mem:it ∈ fp
 obj:∀ i h,tn i h->∀ b ∈ fp,∃ o,h.get? b=some o/\∀ v,o.data ≠ .cell v
 keep:∀ i h h',tn i h->(∀ b ∈ fp,∀ o,h.get? b=some o->h'.get? b=some o)->tn i h'
 item:∀ (X:Cx),X.prog=P->X.w=w->X.K=K->Ck kd X->∀ (i:Nat) (pins:List (Addr × Obj)) (s:Shared) (σ:St) (H:Hp) (E:Value->Shared->Prop),Inv X pins σ H s->(∀ b ∈ fp,hU X pins H b)->tn i s.heap->J.go i H ->
   wpAny (model P w) X.A (pyNext (.ref it)) (λr s1=>∃ u,r=some u /\
     wpAny (model P w) X.A (letOwnedTupleGo tg (.ref it) u) (λ_ s2=>∃ x H',Inv X pins σ H' s2/\RelV x u/\J.yld i H x H'/\tn (i + 1) s2.heap/\∀ b ∈ fp,H' b=none) E s1) E s
 done:∀ (X:Cx),X.prog=P->X.w=w->X.K=K->Ck kd X->∀ (i:Nat) (pins:List (Addr × Obj)) (s:Shared) (σ:St) (H:Hp) (E:Value->Shared->Prop),Inv X pins σ H s->(∀ b ∈ fp,hU X pins H b)->tn i s.heap->J.stop i H ->
   wpAny (model P w) X.A (pyNext (.ref it)) (λr s1=>r=none/\Inv X pins σ H s1) E s
 self:∀ (A:Around) (i:Nat) (s:Shared) (Q:Value->Shared->Prop) (E:Value->Shared->Prop),tn i s.heap->Q (.ref it) s->wpAny (model P w) A (pyIter (.ref it)) Q E s
noncomputable abbrev TI:=St->Hp->(It->Hp->Prop)->Prop
noncomputable def PIE (X:Cx) (pins:List (Addr × Obj)) (σ:St) (tg:Expr) (R:It->Hp->Prop) (itv:Value) (s2:Shared):Prop:=
 ∃ (kd:Bool) (it:Addr) (fp:List Addr) (tn:Nat->Heap->Prop) (J:It) (H':Hp),itv=.ref it/\Inv X pins σ H' s2/\Ck kd X/\Turn X.prog X.w X.K kd tg J fp it tn/\tn 0 s2.heap/\(∀ b ∈ fp,hU X pins H' b)/\R J H'
noncomputable def PI (X:Cx) (tg iter:Expr) (wi:TI):Prop:=
 ∀ (pins:List (Addr × Obj)) (s:Shared) (σ:St) (H:Hp) (R:It->Hp->Prop),Inv X pins σ H s->wi σ H R ->
   wpAny (model X.prog X.w) X.A (eval iter X.env) (λv s1=>wpAny (model X.prog X.w) X.A (pyIter v) (PIE X pins σ tg R) X.xe s1) X.xe s
theorem lC {M:Model} {A:Around} {E:Value->Shared->Prop} {s:Shared} {tg:Expr} {it:Addr} {u:Value} {o:Obj} {n:String} {vs:Array Value} {Q:Unit->Shared->Prop} (ho:s.heap.get? it=some o) (hc:o.cls=.type n) (hd:o.data=.fields vs)
   (hn:["enumerate","zip","dict_itemiterator","dict_reverseitemiterator","odict_iterator","itertools.zip_longest","itertools.pairwise"].contains n=false) (hQ:Q () s):wpAny M A (letOwnedTupleGo tg (.ref it) u) Q E s:=by
 unfold letOwnedTupleGo
 cases tg <;> first
   | exact wpAny_pure hQ
   | (cases u <;> first
       | exact wpAny_pure hQ
       | (refine wpAny_bind (wpAny_load ho ?_)
          rw [hc,hd]
          show wpAny M A (if (["enumerate","zip","dict_itemiterator","dict_reverseitemiterator","odict_iterator","itertools.zip_longest","itertools.pairwise"].contains n && vs[0]? == some (rawInt _))=true then _ else _) Q E s
          rw [if_neg (by intro h; rw [hn,Bool.false_and] at h; cases h)]
          exact wpAny_pure hQ))
noncomputable def Itl (K:PySem.W.Frag) (a:Addr):It:=
 ⟨λi H=>∃ xs x,SqL K H a xs/\xs[i]?=some x,λi H x H'=>H'=H/\∀ xs,SqL K H a xs->xs[i]?=some x,λi H=>∃ xs,SqL K H a xs/\xs.length<=i⟩
noncomputable def Itr (lo:Int) (n:Nat):It:=⟨λi _=>i < n,λi H x H'=>H'=H/\x=.int (lo + i),λi _=>n<=i⟩
theorem kb {P:Program} {w:World} {K:PySem.W.Frag} {tg:Expr} (a it:Addr):Turn P w K false tg (Itl K a) [it] it (λi h=>h.IsListIter it a i) where
 mem:=by simp
 obj:=λi h st b hb=>by
   have e:b=it:=by simpa using hb
   subst e
   obtain ⟨o,e,c,d⟩:=st
   exact ⟨o,e,λv z=>by rw [d] at z; cases z⟩
 keep:=λi h h' st k=>st.at λo e=>k it (by simp) o e
 item:=by
   intro X hP hw hK hc i pins s σ H E I hf st hg
   subst hP hw hK
   obtain ⟨xs,x,hq,hx⟩:=hg
   obtain ⟨its,rv,p,hz⟩:=I.list hq
   obtain ⟨u,hu,ru⟩:=rv.get hx
   obtain ⟨f0,f1,f2,f3,f4,f5⟩:=hf it (by simp)
   refine wpAny_pyNext_list_item st p.isList (x:=u) (by simpa using hu) λh' st' sb=>?_
   have I1:Inv X pins σ H { s with heap:=h' }:=I.turned (t':=s.toks) (λb o hb e=>(sb.2 b hb).trans e) f0 f1 f3 f4 f5
   obtain ⟨o,e,c,d⟩:=id st'
   exact ⟨u,rfl,lC (s:={ s with heap:=h' }) e c d (by decide) ⟨x,H,I1,ru,⟨rfl,λys hy=>by rw [I.cW hy hq]; exact hx⟩,st',λb hb=>(hf b hb).1⟩⟩
 done:=by
   intro X hP hw hK hc i pins s σ H E I hf st hg
   subst hP hw hK
   obtain ⟨xs,hq,hx⟩:=hg
   obtain ⟨its,rv,p,hz⟩:=I.list hq
   obtain ⟨f0,f1,f2,f3,f4,f5⟩:=hf it (by simp)
   have hl:=rv.length
   exact wpAny_pyNext_list_end (I.ok.hd hc.calm) st p.isList (by simp; omega) λh' eb=>⟨rfl,I.turned (t':=s.toks) (λb o hb e=>eb b o hb e) f0 f1 f3 f4 f5⟩
 self:=λ_ _ _ _ _ st h=>wpAny_pyIter_listiter st h
theorem iP {P:Program} {w:World} {K:PySem.W.Frag} {tg:Expr} (it:Addr) (lo:Int) (n:Nat):Turn P w K true tg (Itr lo n) [it] it (λi h=>IsRangeIter h it (lo + (i:Nat) * 1) ((n:Int) - (i:Nat)) 1) where
 mem:=by simp
 obj:=λi h st b hb=>by
   have e:b=it:=by simpa using hb
   subst e
   exact ⟨_,st,λv z=>by
     have z':Data.fields _=Data.cell v:=z
     cases z'⟩
 keep:=λi h h' st k=>k it (by simp) _ st
 item:=by
   intro X hP hw hK hc i pins s σ H E I hf st hg
   subst hP hw hK
   obtain ⟨f0,f1,f2,f3,f4,f5⟩:=hf it (by simp)
   refine wpAny_pyNext_range_item st (by have:i < n:=hg; omega) λh' st0 sb=>?_
   have st':IsRangeIter h' it (lo + ((i + 1:Nat):Int) * 1) ((n:Int) - ((i + 1:Nat):Int)) 1:=by
     have e1:lo + ((i + 1:Nat):Int) * 1=lo + (i:Nat) * 1 + 1:=by omega
     have e2:(n:Int) - ((i + 1:Nat):Int)=(n:Int) - (i:Nat) - 1:=by omega
     rw [e1,e2]; exact st0
   have I1:Inv X pins σ H { s with heap:=h',toks:=s.toks + 1 }:=I.turned (λb o hb e=>(sb.2 b hb).trans e) f0 f1 f3 f4 f5
   refine ⟨_,rfl,lC (s:={ s with heap:=h',toks:=s.toks + 1 }) (n:="range_iterator") st' rfl rfl (by decide) ⟨.int (lo + i),H,I1,⟨s.toks,?_⟩,⟨rfl,rfl⟩,st',λb hb=>(hf b hb).1⟩⟩
   rw [Int.mul_one]
 done:=by
   intro X hP hw hK hc i pins s σ H E I hf st hg
   subst hP hw hK
   obtain ⟨f0,f1,f2,f3,f4,f5⟩:=hf it (by simp)
   rcases hc with hc | ⟨_,q,o,u,vs,e1,e2,e3,e4⟩
   · exact wpAny_pyNext_range_end (I.ok.hd hc) st (by have:n<=i:=hg; omega) λh' eb=>⟨rfl,I.turned (t':=s.toks) (λb o hb e=>eb b o hb e) f0 f1 f3 f4 f5⟩
   · have e5:=I.hok q _ (I.base.frzs q o u e2)
     exact Hx.iA e1 e5.1 e3 e4 st (by have:n<=i:=hg; omega) λh' eb=>⟨rfl,I.turned (t':=s.toks) (λb o hb e=>eb b o hb e) f0 f1 f3 f4 f5⟩
 self:=λ_ _ _ _ _ st h=>wpAny_pyIter_rangeiter st h
section
variable {X:Cx} {tg:Expr}
noncomputable def pF (K:PySem.W.Frag) (tl:TE):TI:=λσ H R=>tl σ H λx H1=>∃ a,x=.ref a/\(∃ xs,SqL K H1 a xs)/\R (Itl K a) H1
theorem mf {l:Expr} {tl:TE} (hc:X.calm=true) (hl:PE X l tl):PI X tg l (pF X.K tl):=by
 intro pins s σ H R I h
 refine thn (hl pins s σ H _ I h) λv s1 ⟨x,H1,I1,r1,q1⟩=>?_
 obtain ⟨a,e,⟨xs,hq⟩,q⟩:=q1
 subst e
 cases r1
 obtain ⟨its,rv,p,hz⟩:=I1.list hq
 refine wpAny_pyIter_list p.isList ?_
 refine ⟨false,s1.heap.objs.size,[s1.heap.objs.size],_,_,H1,rfl,I1.kept (t':=s1.toks) λb o e=>Heap.get?_push_of_some _ e,.inl hc,kb a _,⟨_,Heap.get?_push_size _ rfl,rfl,rfl⟩,λb hb=>?_,q⟩
 have e:b=s1.heap.objs.size:=by simpa using hb
 subst e
 exact I1.jA (Nat.le_refl _) (I1.hok.fresh (Nat.le_refl _))
theorem lB {pins:List (Addr × Obj)} {σ:St} {H:Hp} {s:Shared} {R:It->Hp->Prop} {E:Value->Shared->Prop} {lo hi:Int} {t u v:Tok} {tk:Nat} (hc:Ck true X) (I:Inv X pins σ H s) (h1:-(2 ^ 62)<=lo) (h2:lo < 2 ^ 62) (h3:-(2 ^ 62)<=hi) (h4:hi < 2 ^ 62)
   (q:R (Itr lo (hi - lo).toNat) H):wpAny (model X.prog X.w) X.A (pyIter (.ref s.heap.objs.size)) (PIE X pins σ tg R) E { s with heap:=s.heap.push { cls:=.type "range",data:=.fields #[.int lo t,.int hi u,.int 1 v] },toks:=tk }:=by
 refine wpAny_pyIter_range (IsRange.new ..) (small_one h1 h2 h3 h4) ?_
 have I1:Inv X pins σ H { s with heap:=s.heap.push { cls:=.type "range",data:=.fields #[.int lo t,.int hi u,.int 1 v] },toks:=tk }:=I.kept λb o e=>Heap.get?_push_of_some _ e
 refine ⟨true,(s.heap.push { cls:=.type "range",data:=.fields #[.int lo t,.int hi u,.int 1 v] }).objs.size,[(s.heap.push { cls:=.type "range",data:=.fields #[.int lo t,.int hi u,.int 1 v] }).objs.size],_,_,H,rfl,
   I1.kept (t':=tk) λb o e=>Heap.get?_push_of_some _ e,hc,iP _ lo (hi - lo).toNat,?_,λb hb=>?_,q⟩
 · have e1:lo + ((0:Nat):Int) * 1=lo:=by simp
   have e2:(((hi - lo).toNat:Nat):Int) - ((0:Nat):Int)=Builtin.Range.rangeSize lo hi 1:=by rw [rangeSize_one]; split <;> omega
   show IsRangeIter _ _ (lo + ((0:Nat):Int) * 1) ((((hi - lo).toNat:Nat):Int) - ((0:Nat):Int)) 1
   rw [e1,e2]
   exact Heap.get?_push_size _ rfl
 · have e:b=(s.heap.push { cls:=.type "range",data:=.fields #[.int lo t,.int hi u,.int 1 v] }).objs.size:=by simpa using hb
   subst e
   exact I1.jA (Nat.le_refl _) (I1.hok.fresh (Nat.le_refl _))
noncomputable def pK (ta:TA):TI:=λσ H R=>ta σ H λvs H1=>∃ j:Int,vs=[.int j]/\-(2 ^ 62)<=j/\j < 2 ^ 62/\R (Itr 0 j.toNat) H1
theorem j9 {a:Expr} {ta:TA} {p pos:Pos} (hc:Ck true X) (hg:Gl X "range") (hm:X.mg "range" = none) (ha:PA X [a] ta) (hs:starEach [a] X.env=[(false,eval a X.env)]:=by rfl):PI X tg (.Call (.Name "range" p) [a] [] pos) (pK ta):=by
 intro pins s σ H R I h
 refine Call_ (df I hg hm boot_range (PyProof.Rows.callWith_type1 (thn (ha pos pins s σ H _ I h) λus s1 ⟨vs,H1,I1,r1,q1⟩=>?_) hs rfl))
 obtain ⟨j,e,q1,q2,q⟩:=q1
 subst e
 cases r1 with
 | cons r rr=>
   cases rr
   obtain ⟨t,rfl⟩:=r
   exact call_range_1 (lB hc I1 (by omega) (by omega) q1 q2 (by simpa using q))
noncomputable def qE (wi:TI) (g:TG) (tb:TS):TS:=λD σ H=>wi σ H λJ H1=>∃ W:Nat->Nat->St->Hp->Prop,(∃ m,W 0 m σ H1)/\∀ i m σ H,W i m σ H ->
 (J.stop i H/\D.nx σ H)\/(J.go i H/\∃ N:St->Hp->Prop,(∀ σ' H',N σ' H'->∃ m',m' < m/\W (i + 1) m' σ' H')/\∀ x H',J.yld i H x H'->g x σ H' λσ2 H2=>tb { D with nx:=N,ct:=N,bk:=D.nx } σ2 H2)
noncomputable def eF (fp:List Addr) (h:Heap):List (Addr × Obj):=fp.filterMap λb=>(h.get? b).map λo=>(b,o)
theorem bS {fp:List Addr} {h:Heap} {b:Addr} {o:Obj} (hb:b ∈ fp) (e:h.get? b=some o):(b,o) ∈ eF fp h:=List.mem_filterMap.mpr ⟨b,hb,by rw [e]; rfl⟩
theorem jH {fp:List Addr} {h:Heap} {p:Addr × Obj} (hp:p ∈ eF fp h):p.1 ∈ fp/\h.get? p.1=some p.2:=by
 obtain ⟨b,hb,e⟩:=List.mem_filterMap.mp hp
 cases q:h.get? b with
 | none=>rw [q] at e; cases e
 | some o=>
   rw [q] at e
   have e':(b,o)=p:=Option.some.inj e
   subst e'
   exact ⟨hb,q⟩
theorem Inv.pinned {pins:List (Addr × Obj)} {σ:St} {H:Hp} {s:Shared} {fp:List Addr} (I:Inv X pins σ H s) (hf:∀ b ∈ fp,hU X pins H b) (ho:∀ b ∈ fp,∃ o,s.heap.get? b=some o/\∀ v,o.data ≠ .cell v):Inv X (pins++eF fp s.heap) σ H s:=
 I.iY λp hp=>(List.mem_append.mp hp).elim (λz=>I.pin p (List.mem_append_right _ z)) λz=>by
   obtain ⟨hb,e⟩:=jH z
   obtain ⟨f0,f1,f2,_⟩:=hf p.1 hb
   obtain ⟨o,e',d⟩:=ho p.1 hb
   rw [e] at e'; cases e'
   exact ⟨e,f0,f1,f2,d⟩
theorem Inv.cI {pins pl:List (Addr × Obj)} {σ:St} {H:Hp} {s:Shared} (I:Inv X (pins++pl) σ H s):Inv X pins σ H s:=I.iY λp hp=>I.pin p (List.mem_append_right _ (List.mem_append_left _ hp))
theorem oO {iter:Expr} {body:List Stmt} {wi:TI} {g:TG} {tb:TS} {pos:Pos} (hp:PassesOwn (model X.prog X.w) X.A X.env X.xe) (hi:PI X tg iter wi) (hg:PG X tg g) (hb:PSs X body tb)
   (hs:∀ x,foldedSetIterable iter X.env x=pure x:=by intro _; rfl):PS X (.For tg iter body [] pos) (qE wi g tb):=by
 intro pins s σ H D I h
 refine wpAny_For (thn (hi pins s σ H _ I h) λv s1 h1=>thn h1 λitv s2 h2=>?_) hs
 obtain ⟨kd,it,fp,tn,J,H2,e,I2,hc,T,st2,f2,W,⟨m0,w0⟩,turn⟩:=h2
 subst e
 have stat:∀ {H':Hp},(∀ b ∈ fp,H' b=none)->∀ b ∈ fp,hU X pins H' b:=λhn b hb=>⟨hn b hb,(f2 b hb).2⟩
 refine codeAny_forLoop_any (λn s'=>∃ i σ' H',Inv X pins σ' H' s'/\tn i s'.heap/\(∀ b ∈ fp,H' b=none)/\W i n σ' H') ?_ m0 ⟨0,σ,H2,I2,st2,λb hb=>(f2 b hb).1,w0⟩
 rintro n s3 ⟨i,σ3,H3,I3,st3,fr3,w3⟩
 rcases turn i n σ3 H3 w3 with ⟨stop,qn⟩ | ⟨go,N,hN,step⟩
 · refine wpAny_passesOwn hp (thn (T.done X rfl rfl rfl hc i pins s3 σ3 H3 X.xe I3 (stat fr3) st3 stop) λr s4 ⟨hr,I4⟩=>?_)
   subst hr
   exact wpAny_execs_nil ⟨σ3,H3,I4,qn⟩
 · refine wpAny_passesOwn hp (thn (T.item X rfl rfl rfl hc i pins s3 σ3 H3 X.xe I3 (stat fr3) st3 go) λr s4 ⟨u,hr,h4⟩=>?_)
   subst hr
   refine wpAny_passesOwn hp (thn h4 λ_ s5 ⟨x,H5,I5,r5,y5,st5,fr5⟩=>?_)
   have I5':=I5.pinned (stat fr5) (T.obj _ _ st5)
   refine wpAny_passesOwn hp (thn (hg _ s5 σ3 H5 x u _ I5' r5 (step x H5 y5)) λ_ s6 ⟨σ6,H6,I6,q6⟩=>?_)
   refine wpAny_passesOwn hp (thn (hb _ s6 σ6 H6 _ I6 q6) λf s7 q7=>?_)
   have again:∀ {σ7:St} {H7:Hp},Inv X (pins++eF fp s5.heap) σ7 H7 s7->N σ7 H7->∃ m,m < n/\∃ i σ' H',Inv X pins σ' H' s7/\tn i s7.heap/\(∀ b ∈ fp,H' b=none)/\W i m σ' H':=λ{σ7 H7} I7 n7=>by
     obtain ⟨m',hm,w7⟩:=hN σ7 H7 n7
     refine ⟨m',hm,i + 1,σ7,H7,I7.cI,T.keep _ _ _ st5 λb hb o e=>(I7.pin (b,o) (List.mem_append_right _ (List.mem_append_right _ (bS hb e)))).1,λb hb=>?_,w7⟩
     obtain ⟨o,e,d⟩:=T.obj _ _ st5 b hb
     exact (I7.pin (b,o) (List.mem_append_right _ (List.mem_append_right _ (bS hb e)))).2.1
   cases f with
   | next=>obtain ⟨σ7,H7,I7,n7⟩:=q7; exact again I7 n7
   | cont=>obtain ⟨σ7,H7,I7,n7⟩:=q7; exact again I7 n7
   | brk=>obtain ⟨σ7,H7,I7,q7⟩:=q7; exact ⟨σ7,H7,I7.cI,q7⟩
   | ret v=>obtain ⟨x7,σ7,H7,I7,r7,q7⟩:=q7; exact ⟨x7,σ7,H7,I7.cI,r7,q7⟩
end
noncomputable abbrev R2:=V->V->Hp->VK->Prop
noncomputable def OpR (X:Cx) (f:Value->Value->Sem Value) (r:R2):Prop:=
 ∀ (pins:List (Addr × Obj)) (s:Shared) (σ:St) (H:Hp) (x y:V) (v u:Value) (Q:VK),Inv X pins σ H s->RelV x v->RelV y u->r x y H Q ->
   wpAny (model X.prog X.w) X.A (f v u) (EP X pins σ Q) X.xe s
noncomputable def UnR (X:Cx) (f:Value->Sem Value) (r:V->Hp->VK->Prop):Prop:=
 ∀ (pins:List (Addr × Obj)) (s:Shared) (σ:St) (H:Hp) (x:V) (v:Value) (Q:VK),Inv X pins σ H s->RelV x v->r x H Q ->
   wpAny (model X.prog X.w) X.A (f v) (EP X pins σ Q) X.xe s
noncomputable def cj (X:Cx) (f:Value) (r:List V->Hp->VK->Prop):Prop:=
 ∀ (pins:List (Addr × Obj)) (s:Shared) (σ:St) (H:Hp) (xs:List V) (us:List Value) (Q:VK),Inv X pins σ H s->Vals xs us->r xs H Q ->
   wpAny (model X.prog X.w) X.A (call f us) (EP X pins σ Q) X.xe s
noncomputable def tOp (r:R2) (ta tb:TE):TE:=λσ H Q=>ta σ H λx H1=>tb σ H1 λy H2=>r x y H2 Q
noncomputable def tUn (r:V->Hp->VK->Prop) (ta:TE):TE:=λσ H Q=>ta σ H λx H1=>r x H1 Q
noncomputable def rI (C:Int->Int->Prop) (g:Int->Int->V):R2:=λx y H Q=>∃ i j,x=.int i/\y=.int j/\C i j/\Q (g i j) H
noncomputable def rI0 (g:Int->Int->V):R2:=λx y H Q=>∃ i j,x=.int i/\y=.int j/\Q (g i j) H
noncomputable def rU (g:Int->V):V->Hp->VK->Prop:=λx H Q=>∃ i,x=.int i/\Q (g i) H
section
variable {X:Cx} {a b c:Expr} {ta tb tc:TE} {pos:Pos}
theorem oC (ha:PE X a ta) (hb:PE X b tb) {pins:List (Addr × Obj)} {s:Shared} {σ:St} {H:Hp} {R:V->V->Hp->Prop} (I:Inv X pins σ H s)
   (h:ta σ H λx H1=>tb σ H1 λy H2=>R x y H2) {Q:Value->Shared->Prop} {f:Value->Value->Sem Value}
   (hf:∀ v u s2 x y H2,Inv X pins σ H2 s2->RelV x v->RelV y u->R x y H2->wpAny (model X.prog X.w) X.A (f v u) Q X.xe s2) :
   wpAny (model X.prog X.w) X.A (eval a X.env) (λv s₁=>wpAny (model X.prog X.w) X.A (eval b X.env) (λu s₂=>wpAny (model X.prog X.w) X.A (f v u) Q X.xe s₂) X.xe s₁) X.xe s:=by
 refine thn (ha pins s σ H _ I h) λv s1 ⟨x,H1,I1,r1,q1⟩=>?_
 refine thn (hb pins s1 σ H1 _ I1 q1) λu s2 ⟨y,H2,I2,r2,q2⟩=>?_
 exact hf v u s2 x y H2 I2 r1 r2 q2
theorem mT {op:Operator} {r:R2} (ho:OpR X (binaryOp op) r) (ha:PE X a ta) (hb:PE X b tb):PE X (.BinOp a op b pos) (tOp r ta tb):=by
 intro pins s σ H Q I h
 exact wpAny_BinOp (oC ha hb I h λv u s2 x y H2 I2 rx ry q=>ho pins s2 σ H2 x y v u Q I2 rx ry q)
theorem qa {op:UnaryOp} {r:V->Hp->VK->Prop} (ho:UnR X (unaryOp op) r) (ha:PE X a ta):PE X (.UnaryOp op a pos) (tUn r ta):=by
 intro pins s σ H Q I h
 exact UnaryOp_ (thn (ha pins s σ H _ I h) λv s1 ⟨x,H1,I1,r1,q1⟩=>ho pins s1 σ H1 x v Q I1 r1 q1)
theorem opI {f:Value->Value->Sem Value} {C:Int->Int->Prop} {g:Int->Int->Int}
   (rule:∀ (i j:Int) (t u:Tok) (s:Shared) (Q:Value->Shared->Prop) (E:Value->Shared->Prop),C i j->Q (.int (g i j) s.toks) { s with toks:=s.toks + 1 }->wpAny (model X.prog X.w) X.A (f (.int i t) (.int j u)) Q E s) :
   OpR X f (rI C λi j=>.int (g i j)):=by
 intro pins s σ H x y v u Q I rx ry h
 obtain ⟨i,j,rfl,rfl,hc,q⟩:=h
 obtain ⟨t,rfl⟩:=rx
 obtain ⟨t',rfl⟩:=ry
 exact rule i j t t' s _ _ hc ⟨.int (g i j),H,I.tok _,⟨_,rfl⟩,q⟩
theorem pW {f:Value->Value->Sem Value} {g:Int->Int->Int}
   (rule:∀ (i j:Int) (t u:Tok) (s:Shared) (Q:Value->Shared->Prop) (E:Value->Shared->Prop),Q (.int (g i j) s.toks) { s with toks:=s.toks + 1 }->wpAny (model X.prog X.w) X.A (f (.int i t) (.int j u)) Q E s) :
   OpR X f (rI0 λi j=>.int (g i j)):=by
 intro pins s σ H x y v u Q I rx ry h
 obtain ⟨i,j,rfl,rfl,q⟩:=h
 obtain ⟨t,rfl⟩:=rx
 obtain ⟨t',rfl⟩:=ry
 exact rule i j t t' s _ _ ⟨.int (g i j),H,I.tok _,⟨_,rfl⟩,q⟩
theorem lZ {f:Value->Value->Sem Value} {g:Int->Int->Bool}
   (rule:∀ (i j:Int) (t u:Tok) (s:Shared) (Q:Value->Shared->Prop) (E:Value->Shared->Prop),Q (.bool (g i j)) s->wpAny (model X.prog X.w) X.A (f (.int i t) (.int j u)) Q E s) :
   OpR X f (rI0 λi j=>.bl (g i j)):=by
 intro pins s σ H x y v u Q I rx ry h
 obtain ⟨i,j,rfl,rfl,q⟩:=h
 obtain ⟨t,rfl⟩:=rx
 obtain ⟨t',rfl⟩:=ry
 exact rule i j t t' s _ _ ⟨.bl (g i j),H,I,rfl,q⟩
noncomputable def p9 (i j:Int):Prop:=0<=j/\j<=1000000/\i.natAbs < 2 ^ 64
theorem n8:OpR X (binaryOp .Add) (rI0 λi j=>.int (i + j)):=pW λ_ _ _ _ _ _ _ q=>add_int q
theorem m9:OpR X (binaryOp .Sub) (rI0 λi j=>.int (i - j)):=pW λ_ _ _ _ _ _ _ q=>sub_int q
theorem mv:OpR X (binaryOp .Mod) (rI (λ_ j=>j ≠ 0) λi j=>.int (i.fmod j)):=opI λ_ _ _ _ _ _ _ hc q=>mod_int' hc q
theorem nF:OpR X (binaryOp .Pow) (rI p9 λi j=>.int (i ^ j.toNat)):=opI λ_ _ _ _ _ _ _ hc q=>pow_int_small hc.1 hc.2.1 hc.2.2 q
theorem unI {f:Value->Sem Value} {g:Int->Int}
   (rule:∀ (i:Int) (t:Tok) (s:Shared) (Q:Value->Shared->Prop) (E:Value->Shared->Prop),Q (.int (g i) s.toks) { s with toks:=s.toks + 1 }->wpAny (model X.prog X.w) X.A (f (.int i t)) Q E s) :
   UnR X f (rU λi=>.int (g i)):=by
 intro pins s σ H x v Q I rx h
 obtain ⟨i,rfl,q⟩:=h
 obtain ⟨t,rfl⟩:=rx
 exact rule i t s _ _ ⟨.int (g i),H,I.tok _,⟨_,rfl⟩,q⟩
theorem oz:UnR X (unaryOp .USub) (rU λi=>.int (-i)):=unI λ_ _ _ _ _ q=>neg_int q
end
noncomputable def pe:V->V->Bool
 | .non,.non=>true | .non,.int _=>true | .int _,.non=>true | .non,.bl _=>true | .bl _,.non=>true | .non,.str _=>true | .str _,.non=>true
 | .int _,.int _=>true | .bl _,.bl _=>true | .str _,.str _=>true | .byt _,.byt _=>true
 | .int _,.str _=>true | .str _,.int _=>true | .bl _,.str _=>true | .str _,.bl _=>true
 | _,_=>false
noncomputable def rEq:R2:=λx y H Q=>pe x y=true/\Q (.bl (decide (x=y))) H
noncomputable def rNe:R2:=λx y H Q=>pe x y=true/\Q (.bl (!decide (x=y))) H
theorem jd {i j:Int}:decide (V.int i=V.int j)=(i == j):=by
 rw [Bool.eq_iff_iff]
 simp
theorem k0 {i j:Bool}:decide (V.bl i=V.bl j)=(i == j):=by
 rw [Bool.eq_iff_iff]
 simp
theorem ja {i j:Str}:decide (V.str i=V.str j)=(i == j):=by
 rw [Bool.eq_iff_iff]
 simp
theorem jj {i j:Array UInt8}:decide (V.byt i=V.byt j)=(i.toList == j.toList):=by
 rw [Bool.eq_iff_iff]
 cases i
 cases j
 simp
section
variable {X:Cx} {a b c:Expr} {ta tb tc:TE} {pos:Pos}
theorem aD {pins:List (Addr × Obj)} {σ:St} {H:Hp} {s:Shared} {Q:VK} {k k':Bool} (I:Inv X pins σ H s) (q:Q (.bl k) H) (e:k=k'):EP X pins σ Q (.bool k') s:=by
 subst e
 exact ⟨.bl k,H,I,rfl,q⟩
theorem mB:OpR X (compareOp .Eq) rEq:=by
 intro pins s σ H x y v u Q I rx ry h
 obtain ⟨hs,q⟩:=h
 cases x with
 | non=>
   cases rx
   cases y with
   | non=>cases ry; exact PySem.EqNone.eq_none_none (aD I q (by simp))
   | bl j=>cases ry; exact PySem.EqNone.eq_none_bool (aD I q (by simp))
   | int j=>obtain ⟨t',rfl⟩:=ry; exact PySem.EqNone.eq_none_int (aD I q (by simp))
   | str j=>obtain ⟨t',rfl⟩:=ry; exact PySem.EqNone.eq_none_str (aD I q (by simp))
   | _=>exact absurd (show false=true from hs) Bool.false_ne_true
 | bl i=>
   cases rx
   cases y with
   | non=>cases ry; exact PySem.EqNone.eq_bool_none (aD I q (by simp))
   | bl j=>cases ry; exact eq_bool (aD I q k0)
   | str j=>obtain ⟨t',rfl⟩:=ry; exact PySem.EqMixed.eq_bool_str (aD I q (by simp))
   | _=>exact absurd (show false=true from hs) Bool.false_ne_true
 | int i=>
   obtain ⟨t,rfl⟩:=rx
   cases y with
   | non=>cases ry; exact PySem.EqNone.eq_int_none (aD I q (by simp))
   | int j=>obtain ⟨t',rfl⟩:=ry; exact eq_int (aD I q jd)
   | str j=>obtain ⟨t',rfl⟩:=ry; exact PySem.EqMixed.eq_int_str (aD I q (by simp))
   | _=>exact absurd (show false=true from hs) Bool.false_ne_true
 | str i=>
   obtain ⟨t,rfl⟩:=rx
   cases y with
   | non=>cases ry; exact PySem.EqNone.eq_str_none (aD I q (by simp))
   | bl j=>cases ry; exact PySem.EqMixed.eq_str_bool (aD I q (by simp))
   | int j=>obtain ⟨t',rfl⟩:=ry; exact PySem.EqMixed.eq_str_int (aD I q (by simp))
   | str j=>obtain ⟨t',rfl⟩:=ry; exact eq_str (aD I q ja)
   | _=>exact absurd (show false=true from hs) Bool.false_ne_true
 | byt i=>
   obtain ⟨t,rfl⟩:=rx
   cases y with
   | byt j=>obtain ⟨t',rfl⟩:=ry; exact PySem.W.eq_bytes (aD I q jj)
   | _=>exact absurd (show false=true from hs) Bool.false_ne_true
 | _=>cases y <;> exact absurd (show false=true from hs) Bool.false_ne_true
theorem mM:OpR X (compareOp .NotEq) rNe:=by
 intro pins s σ H x y v u Q I rx ry h
 obtain ⟨hs,q⟩:=h
 cases x with
 | non=>
   cases rx
   cases y with
   | non=>cases ry; exact PySem.EqNone.ne_none_none (aD I q (by simp))
   | bl j=>cases ry; exact PySem.EqNone.ne_none_bool (aD I q (by simp))
   | int j=>obtain ⟨t',rfl⟩:=ry; exact PySem.EqNone.ne_none_int (aD I q (by simp))
   | str j=>obtain ⟨t',rfl⟩:=ry; exact PySem.EqNone.ne_none_str (aD I q (by simp))
   | _=>exact absurd (show false=true from hs) Bool.false_ne_true
 | bl i=>
   cases rx
   cases y with
   | non=>cases ry; exact PySem.EqNone.ne_bool_none (aD I q (by simp))
   | bl j=>cases ry; exact ne_bool (aD I q (congrArg not k0))
   | str j=>obtain ⟨t',rfl⟩:=ry; exact PySem.EqMixed.ne_bool_str (aD I q (by simp))
   | _=>exact absurd (show false=true from hs) Bool.false_ne_true
 | int i=>
   obtain ⟨t,rfl⟩:=rx
   cases y with
   | non=>cases ry; exact PySem.EqNone.ne_int_none (aD I q (by simp))
   | int j=>obtain ⟨t',rfl⟩:=ry; exact ne_int (aD I q (congrArg not jd))
   | str j=>obtain ⟨t',rfl⟩:=ry; exact PySem.EqMixed.ne_int_str (aD I q (by simp))
   | _=>exact absurd (show false=true from hs) Bool.false_ne_true
 | str i=>
   obtain ⟨t,rfl⟩:=rx
   cases y with
   | non=>cases ry; exact PySem.EqNone.ne_str_none (aD I q (by simp))
   | bl j=>cases ry; exact PySem.EqMixed.ne_str_bool (aD I q (by simp))
   | int j=>obtain ⟨t',rfl⟩:=ry; exact PySem.EqMixed.ne_str_int (aD I q (by simp))
   | str j=>obtain ⟨t',rfl⟩:=ry; exact ne_str (aD I q (congrArg not ja))
   | _=>exact absurd (show false=true from hs) Bool.false_ne_true
 | byt i=>
   obtain ⟨t,rfl⟩:=rx
   cases y with
   | byt j=>obtain ⟨t',rfl⟩:=ry; exact PySem.W.ne_bytes (aD I q (congrArg not jj))
   | _=>exact absurd (show false=true from hs) Bool.false_ne_true
 | _=>cases y <;> exact absurd (show false=true from hs) Bool.false_ne_true
theorem oW:OpR X (compareOp .Lt) (rI0 λi j=>.bl (decide (i < j))):=lZ λ_ _ _ _ _ _ _ q=>lt_int q
theorem oT:OpR X (compareOp .LtE) (rI0 λi j=>.bl (decide (i<=j))):=lZ λ_ _ _ _ _ _ _ q=>le_int q
theorem oY:OpR X (compareOp .Gt) (rI0 λi j=>.bl (decide (j < i))):=lZ λ_ _ _ _ _ _ _ q=>gt_int q
theorem qc:OpR X (compareOp .GtE) (rI0 λi j=>.bl (decide (j<=i))):=lZ λ_ _ _ _ _ _ _ q=>ge_int q
theorem jD:OpR X (compareOp .In) (λx y H Q=>∃ i j,x=.str i/\y=.str j/\Q (.bl (!(Builtin.Str.occurrences j i 0 j.length 1).isEmpty)) H):=by
 intro pins s σ H x y v u Q I rx ry h
 obtain ⟨i,j,rfl,rfl,q⟩:=h
 obtain ⟨t,rfl⟩:=rx
 obtain ⟨t',rfl⟩:=ry
 exact in_str (aD I q rfl)
theorem kM (b:Expr) {op:CmpOp} (h:op ≠ .In:=by decide) (h2:op ≠ .NotIn:=by decide):behindInMarks op b=false:=by
 have e1:(op == CmpOp.In)=false:=by cases op <;> first | rfl | exact absurd rfl h
 have e2:(op == CmpOp.NotIn)=false:=by cases op <;> first | rfl | exact absurd rfl h2
 cases b <;> simp [behindInMarks,e1,e2]
theorem mh {op:CmpOp} {r:R2} (ho:OpR X (compareOp op) r) (ha:PE X a ta) (hb:PE X b tb) (hm:behindInMarks op b=false):PE X (.Compare a [op] [b] pos) (tOp r ta tb):=by
 intro pins s σ H Q I h
 exact wpAny_Compare1 (oC ha hb I h λv u s2 x y H2 I2 rx ry q=>ho pins s2 σ H2 x y v u Q I2 rx ry q) hm
noncomputable def mH (t:TE):TT:=λσ H Q=>t σ H λx H'=>∃ k,x=.bl k/\Q k H'
theorem lL {op:CmpOp} {r:R2} (ho:OpR X (compareOp op) r) (ha:PE X a ta) (hb:PE X b tb) (hm:behindInMarks op b=false):PT X (.Compare a [op] [b] pos) (mH (tOp r ta tb)):=by
 intro pins s σ H Q I h
 refine wpAny_isTrue_Compare1 (thn (ha pins s σ H _ I h) λv s1 ⟨x,H1,I1,r1,q1⟩=>thn (hb pins s1 σ H1 _ I1 q1) λu s2 ⟨y,H2,I2,r2,q2⟩=>
   thn (ho pins s2 σ H2 x y v u _ I2 r1 r2 q2) λc s3 ⟨z,H3,I3,r3,k,e,q3⟩=>?_) hm
 subst e
 cases r3
 exact wpAny_truthy_bool ⟨H3,I3,q3⟩
noncomputable def iH (r r':R2) (ta tb tc:TE):TE:=λσ H Q=>ta σ H λx H1=>tb σ H1 λy H2=>r x y H2 λz H3=>∃ k,z=.bl k /\
 (if k=true then tc σ H3 λw' H4=>r' y w' H4 Q else Q (.bl false) H3)
theorem kq {op op':CmpOp} {r r':R2} (ho:OpR X (compareOp op) r) (ho':OpR X (compareOp op') r') (ha:PE X a ta) (hb:PE X b tb) (hc:PE X c tc)
   (hm:lastMarks [op,op'] [b,c]=false:=by with_unfolding_all rfl):PE X (.Compare a [op,op'] [b,c] pos) (iH r r' ta tb tc):=by
 intro pins s σ H Q I h
 refine Compare_chain (thn (ha pins s σ H _ I h) λv s1 ⟨x,H1,I1,r1,q1⟩=>chain_link (thn (hb pins s1 σ H1 _ I1 q1) λu s2 ⟨y,H2,I2,r2,q2⟩=>
   thn (ho pins s2 σ H2 x y v u _ I2 r1 r2 q2) λd s3 ⟨z,H3,I3,r3,k,e,q3⟩=>?_)) hm
 subst e
 cases r3
 refine wpAny_truthy_bool ?_
 cases k with
 | false=>exact ite_ff ⟨.bl false,H3,I3,rfl,q3⟩
 | true=>exact ite_tt (chain_last (thn (hc pins s3 σ H3 _ I3 q3) λw' s4 ⟨z',H4,I4,r4,q4⟩=>ho' pins s4 σ H4 y z' u w' Q I4 r2 r4 q4))
theorem lj {op op':CmpOp} {r r':R2} (ho:OpR X (compareOp op) r) (ho':OpR X (compareOp op') r') (ha:PE X a ta) (hb:PE X b tb) (hc:PE X c tc)
   (hm:lastMarks [op,op'] [b,c]=false:=by with_unfolding_all rfl):PT X (.Compare a [op,op'] [b,c] pos) (mH (iH r r' ta tb tc)):=by
 intro pins s σ H Q I h
 refine isTrue_chain (thn (ha pins s σ H _ I h) λv s1 ⟨x,H1,I1,r1,q1⟩=>test_link (thn (hb pins s1 σ H1 _ I1 q1) λu s2 ⟨y,H2,I2,r2,q2⟩=>
   thn (ho pins s2 σ H2 x y v u _ I2 r1 r2 q2) λd s3 ⟨z,H3,I3,r3,k,e,q3⟩=>?_)) hm
 subst e
 cases r3
 refine wpAny_truthy_bool ?_
 cases k with
 | false=>
   obtain ⟨k',e',q'⟩:=q3
   cases e'
   exact ite_ff ⟨H3,I3,q'⟩
 | true=>
   refine ite_tt (test_last (thn (hc pins s3 σ H3 _ I3 q3) λw' s4 ⟨z',H4,I4,r4,q4⟩=>thn (ho' pins s4 σ H4 y z' u w' _ I4 r2 r4 q4) λd' s5 ⟨z2,H5,I5,r5,k2,e2,q5⟩=>?_))
   subst e2
   cases r5
   exact wpAny_truthy_bool ⟨H5,I5,q5⟩
theorem gf:(sizeLine:Nat) < 2 ^ 63:=by rw [sizeLine_eq]; decide
theorem iE:OpR X (binaryOp .Add) (λx y H Q=>∃ i j,x=.str i/\y=.str j/\i.length + j.length<=sizeLine/\Q (.str (i++j)) H):=by
 intro pins s σ H x y v u Q I rx ry h
 obtain ⟨i,j,rfl,rfl,hz,q⟩:=h
 obtain ⟨t,rfl⟩:=rx
 obtain ⟨t',rfl⟩:=ry
 exact add_str (λt' tk=>⟨.str (i++j),H,I.tok _,⟨_,rfl⟩,q⟩) hz
theorem vals1 {x:V} {us:List Value} (r:Vals [x] us):∃ u,us=[u]/\RelV x u:=by
 cases r with
 | cons r1 r2=>cases r2; exact ⟨_,rfl,r1⟩
theorem vals2 {x y:V} {us:List Value} (r:Vals [x,y] us):∃ u w',us=[u,w']/\RelV x u/\RelV y w':=by
 cases r with
 | cons r1 r2=>
   cases r2 with
   | cons r3 r4=>cases r4; exact ⟨_,_,rfl,r1,r3⟩
theorem kn:cj X (.builtin "abs") (λxs H Q=>∃ i,xs=[.int i]/\Q (.int (if i < 0 then -i else i)) H):=by
 intro pins s σ H xs us Q I r h
 obtain ⟨i,rfl,q⟩:=h
 obtain ⟨u,rfl,t,rfl⟩:=vals1 r
 exact call_abs_int λu tk=>⟨.int (if i < 0 then -i else i),H,I.tok _,⟨_,rfl⟩,q⟩
theorem jX (hc:X.calm=true):cj X (.builtin "max") (λxs H Q=>∃ i j,xs=[.int i,.int j]/\Q (.int (if j > i then j else i)) H):=by
 intro pins s σ H xs us Q I r h
 obtain ⟨i,j,rfl,q⟩:=h
 obtain ⟨u,w',rfl,⟨t,rfl⟩,⟨t',rfl⟩⟩:=vals2 r
 refine max_two_ints (I.ok.hd hc) λh' tk k=>⟨_,H,I.kept k,?_,q⟩
 by_cases hj:j > i
 · rw [if_pos hj,if_pos hj]; exact ⟨_,rfl⟩
 · rw [if_neg hj,if_neg hj]; exact ⟨_,rfl⟩
theorem j5 (hc:X.calm=true):cj X (.builtin "min") (λxs H Q=>∃ i j,xs=[.int i,.int j]/\Q (.int (if j < i then j else i)) H):=by
 intro pins s σ H xs us Q I r h
 obtain ⟨i,j,rfl,q⟩:=h
 obtain ⟨u,w',rfl,⟨t,rfl⟩,⟨t',rfl⟩⟩:=vals2 r
 refine min_two_ints (I.ok.hd hc) λh' tk k=>⟨_,H,I.kept k,?_,q⟩
 by_cases hj:j < i
 · rw [if_pos hj,if_pos hj]; exact ⟨_,rfl⟩
 · rw [if_neg hj,if_neg hj]; exact ⟨_,rfl⟩
theorem gk:cj X (.type "str") (λxs H Q=>∃ i,xs=[.int i]/\i.natAbs.log2 < 1920/\Q (.str (toString i)) H):=by
 intro pins s σ H xs us Q I r h
 obtain ⟨i,rfl,hz,q⟩:=h
 obtain ⟨u,rfl,t,rfl⟩:=vals1 r
 exact PySem.P.str_of_int hz ⟨.str _,H,I.tok _,⟨_,rfl⟩,q⟩
end
section
variable {prog:Program} {w:World} {A:Around} {E:Value->Shared->Prop} {s:Shared} {K:PySem.W.Frag} {x dx C f:Addr} {mA:Str->Option Value} {name:Str} {v:Value}
end
section
variable {P:Program} {w:World} {H H':Hp} {h h':Heap} {a C dx:Addr} {fs fs':List (Str × V)}
end
section
variable {X:Cx} {pins:List (Addr × Obj)} {σ:St} {H:Hp} {s:Shared} {a C dx:Addr} {fs:List (Str × V)} {f:Str} {v:V} {A:Around} {E:Value->Shared->Prop}
end
section
variable {X:Cx} {o e value:Expr} {f:Str} {pos pos' tpos:Pos} {ta tv:TE}
end
section
variable {X:Cx} {pins:List (Addr × Obj)} {σ:St} {H:Hp} {s:Shared} {A:Around} {E:Value->Shared->Prop} {Q:Value->Shared->Prop} {c:Value} {b:Bool}
end
structure b8 (k:Nat) (A:Around):Prop where
 hd:A.handled=none
 dp:A.depth + 3 * k + 5 < recursionLimit
 un:A.units + 16 * k + 200 < cLine
theorem b8.mono {j k:Nat} {A:Around} (r:b8 k A) (h:j<=k):b8 j A:=⟨r.hd,by have:=r.dp; omega,by have:=r.un; omega⟩
theorem b8.deeper {k:Nat} {A:Around} (r:b8 (k + 1) A) (env:Env):b8 k (A.deeper env):=
 ⟨r.hd,by have:=r.dp; show A.depth + 1 + 3 * k + 5 < _; omega,by have:=r.un; show A.units + 3 + 16 * k + 200 < _; omega⟩
theorem b8.depth {k:Nat} {A:Around} (r:b8 k A):A.depth < recursionLimit:=by have:=r.dp; omega
theorem b8.units {k:Nat} {A:Around} (r:b8 k A):A.units + 64 < cLine:=by have:=r.un; omega
noncomputable def qJ:TA:=λ_ H Q=>Q [] H
noncomputable def oV (ta:TE) (tr:TA):TA:=λσ H Q=>ta σ H λx H1=>tr σ H1 λxs H2=>Q (x :: xs) H2
section
variable {X:Cx} {e:Expr} {es:List Expr} {te:TE} {t:TA} {pos:Pos}
theorem fV:PA X [] qJ:=λ_ _ _ _ H Q I h=>Calls.spliced_nil ⟨[],H,I,.nil,h⟩
theorem cN (ha:PE X e te) (hr:PA X es t) (hs:starEach (e :: es) X.env=(false,eval e X.env) :: starEach es X.env:=by rfl):PA X (e :: es) (oV te t):=by
 intro pos pins s σ H Q I h
 rw [hs]
 show wpAny _ _ (spliced ((false,eval e X.env) :: backTo pos (starEach es X.env))) _ _ s
 refine Calls.spliced_cons (thn (ha pins s σ H _ I h) λu s1 ⟨x,H1,I1,r1,q1⟩=>?_)
 exact thn (hr pos pins s1 σ H1 _ I1 q1) λus s2 ⟨xs,H2,I2,r2,q2⟩=>⟨x :: xs,H2,I2,.cons r1 r2,q2⟩
noncomputable def qk (t:TA):TE:=λσ H Q=>t σ H λxs H1=>xs.length<=sizeLine/\∀ p,H1 p=none->Q (.ref p) (upd H1 p (.tup xs))
noncomputable def qI (t:TA):TE:=λσ H Q=>t σ H λxs H1=>xs.length<=sizeLine/\∀ p,H1 p=none->Q (.ref p) (upd H1 p (.lst xs))
theorem m3 {x1} (h:PA X es t):PE X (.Tuple es x1 pos) (qk t):=by
 intro pins s σ H Q I hq
 refine wpAny_Tuple_spliced (thn (h pos pins s σ H _ I hq) λus s1 ⟨xs,H1,I1,r,z,q⟩=>⟨by rw [<- r.length]; exact z,?_⟩)
 have hf:H1 s1.heap.objs.size=none:=I1.hok.fresh (Nat.le_refl _)
 refine ⟨.ref s1.heap.objs.size,upd H1 s1.heap.objs.size (.tup xs),I1.laid (t':=s1.toks) (λb u e=>Heap.get?_push_of_some _ e) (Nat.le_refl _) ?_,rfl,q _ hf⟩
 exact ⟨z,us,r,⟨_,Heap.get?_push_size _ rfl,rfl,_,rfl⟩⟩
theorem nX (h:PA X es t):PE X (.List es pos) (qI t):=by
 intro pins s σ H Q I hq
 refine wpAny_List_spliced (thn (h pos pins s σ H _ I hq) λus s1 ⟨xs,H1,I1,r,z,q⟩=>⟨by rw [<- r.length]; exact z,?_⟩)
 have hf:H1 s1.heap.objs.size=none:=I1.hok.fresh (Nat.le_refl _)
 refine ⟨.ref s1.heap.objs.size,upd H1 s1.heap.objs.size (.lst xs),I1.laid (t':=s1.toks) (λb u e=>Heap.get?_push_of_some _ e) (Nat.le_refl _) ?_,rfl,q _ hf⟩
 exact ⟨z,us,0,r,Heap.get?_push_size _ rfl⟩
end
noncomputable abbrev Sp:=List V->Hp->VK->XK->Prop
noncomputable abbrev CXT:=List Env->Hp->Shared->XK->Value->Shared->Prop
structure ml (P:Program) (w:World) (K:PySem.W.Frag) (mg:Str->Option Value) (base:Heap) (A:Around) (outer:List Env) (s:Shared) (H:Hp):Prop where
 frames:A.frames=some outer
 mod:Mod K mg base
 bs:∀ b o,base.get? b=some o->s.heap.get? b=some o/\H b=none
 bsz:base.objs.size<=s.heap.objs.size
 dD:s.heap.FunFrames base outer
 frf:∀ b ∈ frs outer,H b=none
 hok:HOk P w H s.heap
 bare:AllBare s.gens
noncomputable def CE (outer:List Env) (P:Program) (w:World) (H:Hp) (s:Shared) (Q:VK) (u:Value) (s':Shared):Prop:=
 ∃ v H',s'.os=s.os/\AllBare s'.gens/\Un (frs outer) [] H H' s.heap s'.heap/\HOk P w H' s'.heap/\RelV v u/\Q v H'
noncomputable def CR (CX:CXT) (outer:List Env) (P:Program) (w:World) (H:Hp) (s:Shared) (Q:VK) (E:XK) (r:Result) (s':Shared):Prop:=
 match r with
 | .ok (.ret u)=>CE outer P w H s Q u s'
 | .ok _=>False
 | .error e=>CX outer H s E e s'
structure aI (P:Program) (w:World) (K:PySem.W.Frag) (mg:Str->Option Value) (base:Heap) (CX:CXT) (k:Nat) (f:Addr) (fd:FuncData) (ps:List Str) (sp:Sp):Prop where
 len:∀ vs H Q E,sp vs H Q E->vs.length=ps.length
 run:∀ (A:Around) (outer:List Env) (s:Shared) (H:Hp) (args:Args) (us:List Value) (vs:List V) (Q:VK) (E:XK),b8 k A->ml P w K mg base A outer s H->BindsTo s fd args (ps.zip us)->Vals vs us->sp vs H Q E ->
   codeAny (model P w) A (.call (.ref f) args) (CR CX outer P w H s Q E) s
theorem aI.mono {P:Program} {w:World} {K:PySem.W.Frag} {mg:Str->Option Value} {base:Heap} {CX:CXT} {j k:Nat} {f:Addr} {fd:FuncData} {ps:List Str} {sp:Sp} (F:aI P w K mg base CX j f fd ps sp) (h:j<=k) :
   aI P w K mg base CX k f fd ps sp:=⟨F.len,λA outer s H args us vs Q E hr=>F.run A outer s H args us vs Q E (hr.mono h)⟩
section
variable {X:Cx} {pins:List (Addr × Obj)} {σ:St} {H:Hp} {s s':Shared}
theorem Inv.qB (I:Inv X pins σ H s):ml X.prog X.w X.K X.mg X.base X.A X.stack s H:=
 ⟨I.ok.frames,I.ok.mod,I.bs,Nat.le_trans I.ok.bsz I.sz,I.stack,I.jv,I.hok,I.bare⟩
theorem Inv.after {Q:VK} {u:Value} (I:Inv X pins σ H s) (h:CE X.stack X.prog X.w H s Q u s'):EP X pins σ Q u s':=by
 obtain ⟨v,H',os,bare,un,hok,r,q⟩:=h
 obtain ⟨hh,g,d,t,os'⟩:=s'
 obtain rfl:os'=s.os:=os
 exact ⟨v,H',I.call (h':=hh) (g':=g) (d':=d) (t':=t) (ch:=[]) un hok bare (λb z=>absurd z (by simp)),r,q⟩
end
noncomputable def pj (sp:Sp) (dvs:List V) (E:XK) (t:TA):TE:=λσ H Q=>t σ H λvs H1=>sp (vs++dvs) H1 Q E
noncomputable def Binds (K:PySem.W.Frag) (fd:FuncData) (ps:List Str) (ds:List Value):Prop:=
 ∀ (s:Shared) (us:List Value),K.In s.heap->(us++ds).length=ps.length->BindsTo s fd ⟨us,[]⟩ (ps.zip (us++ds))
theorem Binds.all {K:PySem.W.Frag} {fd:FuncData} {ps:List Str} (h:∀ us:List Value,us.length=ps.length->bindArgs fd ⟨us,[]⟩=pure (ps.zip us)):Binds K fd ps []:=λs us _ hl=>by
 rw [List.append_nil] at hl ⊢
 exact .of_eq (h us hl)
noncomputable def Passes (CX:CXT) (X:Cx) (E:XK):Prop:=∀ (pins:List (Addr × Obj)) (σ:St) (H:Hp) (s:Shared) (e:Value) (s':Shared),Inv X pins σ H s->CX X.stack H s E e s'->X.xe e s'
section
variable {X:Cx} {CX:CXT} {k:Nat} {f C:Addr} {fd:FuncData} {ps:List Str} {sp:Sp} {dvs:List V} {ds:List Value} {E:XK} {x m:Str} {p pos apos:Pos} {e o:Expr} {es:List Expr} {ta:TE} {t:TA}
theorem nN {pins:List (Addr × Obj)} {σ:St} {H:Hp} {s:Shared} {Q:VK} {us:List Value} {vs:List V} (F:aI X.prog X.w X.K X.mg X.base CX k f fd ps sp) (hr:b8 k X.A) (hb:Binds X.K fd ps ds) (hd:Vals dvs ds) (hx:Passes CX X E)
   (I:Inv X pins σ H s) (r:Vals vs us) (h:sp (vs++dvs) H Q E):wpAny (model X.prog X.w) X.A (call (.ref f) us) (EP X pins σ Q) X.xe s:=by
 have r2:Vals (vs++dvs) (us++ds):=r.append hd
 have hl:(us++ds).length=ps.length:=by rw [<- r2.length]; exact F.len _ _ _ _ h
 refine wpAny_call (codeAny_mono (F.run X.A X.stack s H ⟨us,[]⟩ (us++ds) (vs++dvs) Q E hr I.qB (hb s us I.kIn hl) r2 h) λr s' hq=>?_)
 cases r with
 | error e=>exact hx pins σ H s e s' I hq
 | ok fl=>
   cases fl with
   | ret u=>exact I.after hq
   | next=>exact False.elim hq
   | brk=>exact False.elim hq
   | cont=>exact False.elim hq
theorem me (F:aI X.prog X.w X.K X.mg X.base CX k f fd ps sp) (hr:b8 k X.A) (hg:Gl X x) (hm:X.mg x=some (.ref f)) (hk:PySem.W.keepIn X.K (.ref f)=true) (hb:Binds X.K fd ps ds) (hd:Vals dvs ds) (hx:Passes CX X E)
   (ha:PA X (e :: es) t) (hdb:(x == ("__debug__" : Str))=false:=by decide) (he:starEach (e :: es) X.env=(false,eval e X.env) :: starEach es X.env:=by rfl) (hpl:(backTo pos (starEach es X.env)).any (·.1)=false:=by rfl) :
   PE X (.Call (.Name x p) (e :: es) [] pos) (pj sp dvs E t):=by
 intro pins s σ H Q I h
 refine wpAny_Call_Name_kw (i9 I hg hm ?_ hdb)
 refine PySem.W.callWith_K (h₀:=X.base) I.ok.mod.kin hk (thn (ha pos pins s σ H _ I h) λus s1 ⟨vs,H1,I1,r,q⟩=>⟨I1.kIn,?_⟩) he hpl
 exact nN F hr hb hd hx I1 r q
end
section
variable {X:Cx} {CX:CXT} {k:Nat} {f C:Addr} {fd:FuncData} {ps ks:List Str} {sp:Sp} {E:XK} {x m:Str} {p pos apos kpos:Pos} {e o:Expr} {es:List Expr} {kws:List Keyword} {te ta:TE} {t tk:TA} {nm:Option Str}
variable {g:List Value->List Value->List Value} {gV:List V->List V->List V}
end
structure ar (N P:List Str) (sc:Scope):Prop where
 kind:sc.kind=.function
 co:sc.isCoroutine=false
 gen:sc.isGenerator=false
 nd:N.Nodup
 pre:N.take P.length=P
 par:∀ x ∈ P,sc.names.lookup x=some .local\/sc.names.lookup x=some .cell
 nofree:∀ y ∈ sc.names,y.2 ≠ .free
theorem fF {kindOf:Str->Option NameKind} {x:Str}:∀ {binds:List (Str × Value)} {m:Str->Option Value},(∀ v,(x,v) ∉ binds)->bindL kindOf binds m x=m x
 | [],_,_=>rfl
 | (n,v) :: r,m,h=>by
   unfold bindL
   rw [fF λw hw=>h w (List.mem_cons_of_mem _ hw)]
   split
   · have:x ≠ n:=by rintro rfl; exact h v List.mem_cons_self
     simp [this]
   · rfl
theorem fI {kindOf:Str->Option NameKind} {x:Str}:∀ {binds:List (Str × Value)} {m:Str->Option Value},(∀ v,(x,v) ∉ binds)->bindC kindOf binds m x=m x
 | [],_,_=>rfl
 | (n,v) :: r,m,h=>by
   unfold bindC
   rw [fI λw hw=>h w (List.mem_cons_of_mem _ hw)]
   split
   · rfl
   · have:x ≠ n:=by rintro rfl; exact h v List.mem_cons_self
     simp [this]
theorem fu {kindOf:Str->Option NameKind} {x:Str} {v:Value}:∀ {P:List Str} {vs:List Value} {i:Nat} {m:Str->Option Value},P.Nodup->P[i]?=some x->vs[i]?=some v->kindOf x=some .local ->
   bindL kindOf (P.zip vs) m x=some v
 | [],_,_,_,_,h,_,_=>by simp at h
 | _ :: _,[],_,_,_,_,h,_=>by simp at h
 | p :: P,w :: vs,0,m,nd,h1,h2,hk=>by
   simp at h1 h2; subst h1; subst h2
   show bindL kindOf ((p,w) :: P.zip vs) m p=_
   unfold bindL
   rw [fF λv hv=>(List.nodup_cons.mp nd).1 (List.of_mem_zip hv).1,if_pos hk]
   simp
 | p :: P,w :: vs,i + 1,m,nd,h1,h2,hk=>by
   show bindL kindOf ((p,w) :: P.zip vs) m x=_
   unfold bindL
   exact fu (i:=i) (List.nodup_cons.mp nd).2 (by simpa using h1) (by simpa using h2) hk
theorem fD {kindOf:Str->Option NameKind} {x:Str} {v:Value}:∀ {P:List Str} {vs:List Value} {i:Nat} {m:Str->Option Value},P.Nodup->P[i]?=some x->vs[i]?=some v->kindOf x ≠ some .local ->
   bindC kindOf (P.zip vs) m x=some v
 | [],_,_,_,_,h,_,_=>by simp at h
 | _ :: _,[],_,_,_,_,h,_=>by simp at h
 | p :: P,w :: vs,0,m,nd,h1,h2,hk=>by
   simp at h1 h2; subst h1; subst h2
   show bindC kindOf ((p,w) :: P.zip vs) m p=_
   unfold bindC
   rw [fI λv hv=>(List.nodup_cons.mp nd).1 (List.of_mem_zip hv).1,if_neg hk]
   simp
 | p :: P,w :: vs,i + 1,m,nd,h1,h2,hk=>by
   show bindC kindOf ((p,w) :: P.zip vs) m x=_
   unfold bindC
   exact fD (i:=i) (List.nodup_cons.mp nd).2 (by simpa using h1) (by simpa using h2) hk
noncomputable def start (N:List Str) (vs:List V):St:=vs.map some++List.replicate (N.length - vs.length) none
noncomputable def iy (CX:CXT) (P:Program) (w:World) (K:PySem.W.Frag) (mg:Str->Option Value) (base:Heap) (N:List Str) (qual:Str) (scope:Scope) (f:Addr) (cd:Value) (A:Around) (outer:List Env) (s:Shared) (H:Hp) (E:XK):Cx where
 prog:=P
 w:=w
 K:=K
 mg:=mg
 base:=base
 A:=A.deeper (envOfC qual scope s.heap.objs.size f cd)
 N:=N
 s₀:=s
 H₀:=H
 env:=envOfC qual scope s.heap.objs.size f cd
 outer:=outer
 stack:=envOfC qual scope s.heap.objs.size f cd :: outer
 ex:=[]
 calm:=true
 fn:=λ_=>true
 pn:=[]
 xe:=λe s'=>wpAny (model P w) (A.deeper (envOfC qual scope s.heap.objs.size f cd)) (leaving (envOfC qual scope s.heap.objs.size f cd) e) (λ_ s''=>CX outer H s E e s'') (λe' s''=>CX outer H s E e' s'') s'
theorem gH {sc:Scope} {n:Nat} {x:Str} (h:sc.names.lookup x=some .cell):∃ c,(cellsFrom n sc.names []).lookup x=some c:=by
 have q:=PySem.W.cellsFrom_some sc.names n [] (.inl h)
 exact Option.isSome_iff_exists.mp q
theorem jS {CX:CXT} {P:Program} {w:World} {K:PySem.W.Frag} {mg:Str->Option Value} {base:Heap} {N ps:List Str} {qual:Str} {scope:Scope} {f:Addr} {cd:Value} {A:Around} {outer:List Env} {s s1:Shared} {H:Hp} {E:XK} {us:List Value} {vs:List V}
   (S:ar N ps scope) {cm:Bool} (hd:cm=true->A.handled=none) (e0:ml P w K mg base A outer s H) (hl:vs.length=ps.length) (r:Vals vs us)
   (x:InCallC s s.heap.objs.size (bindL (envOfC qual scope s.heap.objs.size f cd).kindOf (ps.zip us) λ_=>none) (cellsFrom (s.heap.objs.size + 1) scope.names []) (bindC (envOfC qual scope s.heap.objs.size f cd).kindOf (ps.zip us) λ_=>none) s1) :
   Inv { iy CX P w K mg base N qual scope f cd A outer s H E with calm:=cm } [] (start N vs) H s1:=by
 have hpl:ps.length<=N.length:=by have:=congrArg List.length S.pre; rw [List.length_take] at this; omega
 obtain ⟨h1,tk,rfl,hk⟩:=x.done
 have noA:∀ b:Addr,b ∉ (iy CX P w K mg base N qual scope f cd A outer s H E).ex:=λb z=>absurd (show b ∈ ([]:List Addr) from z) (by simp)
 refine ⟨⟨e0.mod,S.kind,rfl,rfl,Nat.le_refl _,λy z c h1 h2=>?_,λy hy=>?_,λy c _ h=>?_,hd,Around.frames_deeper e0.frames,.inr ⟨rfl,rfl⟩,λb z=>absurd z (noA b),e0.bs,e0.bsz,λb _ _=>noA b,λb z=>absurd z (noA b),e0.dD,e0.frf⟩,
   rfl,e0.bare,Un.kept hk,⟨_,x.toInCall.ns,λi y v h1 h2 h3=>?_⟩,λy c h=>⟨_,x.cell y c h⟩,e0.hok.fresh (Nat.le_refl _),λy c h=>?_,λp hp=>absurd (show p ∈ ([]:List (Addr × Obj)) from hp) (by simp),e0.hok.kept hk,?_⟩
 · exact name_of_addr x.apart (PySem.mem_of_lookup h1) (PySem.mem_of_lookup h2)
 · have hy:scope.names.lookup y=some .cell\/scope.names.lookup y=some .free:=hy
   rcases hy with hy | hy
   · exact gH hy
   · exact absurd rfl (S.nofree _ (PySem.mem_of_lookup hy))
 · exact Nat.le_of_lt (x.above y c (PySem.mem_of_lookup h))
 · have hi:i < vs.length:=by
     unfold start at h2
     by_cases hi:i < vs.length
     · exact hi
     · rw [List.getElem?_append_right (by simpa using hi)] at h2
       rw [List.getElem?_replicate] at h2
       split at h2 <;> cases h2
   have ha:vs[i]?=some v:=by
     unfold start at h2
     rw [List.getElem?_append_left (by simpa using hi),List.getElem?_map] at h2
     cases e:vs[i]? with
     | none=>rw [e] at h2; cases h2
     | some a=>rw [e] at h2; cases h2; rfl
   obtain ⟨u,hu,rv⟩:=r.get ha
   have hp:ps[i]?=some y:=by
     rw [<- S.pre,List.getElem?_take_of_lt (by omega)]; exact h1
   have ndP:ps.Nodup:=by rw [<- S.pre]; exact S.nd.sublist (List.take_sublist _ _)
   refine ⟨u,rv,?_⟩
   rcases S.par y (List.mem_of_getElem? hp) with k | k
   · exact .inl ⟨k,fu ndP hp hu k⟩
   · obtain ⟨c,e⟩:=gH (n:=s.heap.objs.size + 1) k
     refine .inr ⟨.inl k,c,e,?_⟩
     have q:=x.cell y c e
     rw [fD ndP hp hu (by show scope.names.lookup y ≠ _; rw [k]; decide)] at q
     exact q
 · exact e0.hok.fresh (Nat.le_of_lt (x.above y c (PySem.mem_of_lookup h)))
 · unfold start
   show _=N.length
   rw [List.length_append,List.length_map,List.length_replicate]
   omega
theorem pf {CX:CXT} {P:Program} {w:World} {K:PySem.W.Frag} {mg:Str->Option Value} {base:Heap} {k:Nat} {f:Addr} {name qual:Str} {params:Arguments} {body:List Stmt} {scope:Scope} {dV kV doc pm cdv ct oc:Value} {an od:Option Addr}
   {osl:Array (Option Value)} {N ps:List Str} {sp:Sp} (lk:K.lookup f=some ⟨oc,od,.func (PySem.W.fnOf name qual params body scope dV kV doc pm an cdv ct),osl⟩) (hcd:PySem.W.codeIn K cdv qual=true) (S:ar N ps scope)
   (len:∀ vs H Q E,sp vs H Q E->vs.length=ps.length)
   (hbody:∀ (A:Around) (outer:List Env) (s:Shared) (H:Hp) (vs:List V) (Q:VK) (E:XK),b8 k (A.deeper (envOfC qual scope s.heap.objs.size f cdv))->sp vs H Q E ->
     ∃ t,PSs (iy CX P w K mg base N qual scope f cdv A outer s H E) body t/\t { nx:=λ_ H'=>Q .non H',rt:=Q } (start N vs) H) :
   aI P w K mg base CX (k + 1) f (PySem.W.fnOf name qual params body scope dV kV doc pm an cdv ct) ps sp:=by
 refine ⟨len,λA outer s H args us vs Q E hr e0 hb r hsp=>?_⟩
 have hl:=len _ _ _ _ hsp
 have KX:K.In s.heap:=e0.mod.kin.keeps λb o e=>(e0.bs b o e).1
 have lim:s.heap.NoLimit:=e0.mod.nolimit.keeps λb o e=>(e0.bs b o e).1
 have hkind:∀ y ∈ ps.zip us,scope.names.lookup y.1=some .local\/(scope.names.lookup y.1=some .cell/\((cellsFrom (s.heap.objs.size + 1) scope.names []).lookup y.1).isSome=true):=λ⟨n,v⟩ hy=>by
   rcases S.par n (List.of_mem_zip hy).1 with q | q
   · exact .inl q
   · exact .inr ⟨q,PySem.W.cellsFrom_some _ _ _ (.inl q)⟩
 refine codeAny_call_function hr.depth (KX _ _ lk) rfl S.co S.gen rfl (PySem.W.codeRec_of KX hcd) (hb _ _ _ _ ?_)
 refine wpAny_newFunctionEnv_cells S.kind hkind λenv he s1 x=>?_
 subst he
 refine ⟨lim.keeps x.toInCall.keep,codeAny_func ?_⟩
 obtain ⟨t,ht,hq⟩:=hbody A outer s H vs Q E (hr.deeper _) hsp
 have I:Inv (iy CX P w K mg base N qual scope f cdv A outer s H E) [] (start N vs) H s1:=jS (cm:=true) S (λ_=>hr.hd) e0 hl r x
 refine wpAny_mono (ht [] s1 (start N vs) H _ I hq) (λfl s' hs=>?_) λe s' hs=>hs
 have fin:∀ {σ':St} {H':Hp} {v:V} {u:Value},Inv (iy CX P w K mg base N qual scope f cdv A outer s H E) [] σ' H' s'->RelV v u->Q v H'->CE outer P w H s Q u s':=
   λ{σ' H' v u} J rv q=>⟨v,H',J.os,J.bare,J.base,J.hok,rv,q⟩
 cases fl with
 | ret u=>
   obtain ⟨v,σ',H',J,rv,q⟩:=hs
   exact fin J rv q
 | next=>
   obtain ⟨σ',H',J,q⟩:=hs
   exact fin (v:=V.non) (u:=Value.none) J rfl q
 | brk=>
   obtain ⟨_,_,_,q⟩:=hs
   exact False.elim q
 | cont=>
   obtain ⟨_,_,_,q⟩:=hs
   exact False.elim q
section
variable {X:Cx} {x:Str} {p pos:Pos} {e:Expr} {es:List Expr} {t:TA} {id T:String} {r:List V->Hp->VK->Prop}
noncomputable def tCB (r:List V->Hp->VK->Prop) (t:TA):TE:=λσ H Q=>t σ H λvs H1=>r vs H1 Q
theorem g0 (hc:cj X (.builtin id) r) (hg:Gl X x) (hm:X.mg x=none) (hv:bootBuiltins x=some (.builtin id)) (ha:PA X (e :: es) t) (hn:x ≠ "__name__":=by decide) (hdb:(x == ("__debug__" : Str))=false:=by decide)
   (he:starEach (e :: es) X.env=(false,eval e X.env) :: starEach es X.env:=by rfl) (hpl:(backTo pos (starEach es X.env)).any (·.1)=false:=by rfl):PE X (.Call (.Name x p) (e :: es) [] pos) (tCB r t):=by
 intro pins s σ H Q I h
 refine wpAny_Call_Name_kw (df I hg hm hv ?_ hn hdb)
 exact PyProof.Rows.callWith_builtin1 (thn (ha pos pins s σ H _ I h) λus s1 ⟨vs,H1,I1,r1,q1⟩=>hc pins s1 σ H1 vs us Q I1 r1 q1) he hpl
theorem j1 (hc:cj X (.type T) r) (hg:Gl X x) (hm:X.mg x=none) (hv:bootBuiltins x=some (.type T)) (ha:PA X (e :: es) t) (hn:x ≠ "__name__":=by decide) (hdb:(x == ("__debug__" : Str))=false:=by decide)
   (he:starEach (e :: es) X.env=(false,eval e X.env) :: starEach es X.env:=by rfl) (hpl:(backTo pos (starEach es X.env)).any (·.1)=false:=by rfl):PE X (.Call (.Name x p) (e :: es) [] pos) (tCB r t):=by
 intro pins s σ H Q I h
 refine wpAny_Call_Name_kw (df I hg hm hv ?_ hn hdb)
 exact PyProof.Rows.callWith_type1 (thn (ha pos pins s σ H _ I h) λus s1 ⟨vs,H1,I1,r1,q1⟩=>hc pins s1 σ H1 vs us Q I1 r1 q1) he hpl
end
end L2
namespace HT
open PySem PyProof.Rows
section
open PySem.SeqAt
open PySem.AutoSeq1 (wpAny_loadPart')
open PySem.MeetsSeq PySem.MeetsSeq2 PySem.MeetsSeq3
end
section
variable {prog:Program} {w:World} {A:Around} {E:Value->Shared->Prop} {s:Shared}
noncomputable def sIx (n d:Nat):Option Int->Nat
 | none=>d
 | some v=>if v < 0 then (v + (n:Int)).toNat else min v.toNat n
theorem ko (n d:Nat):sIx n d none=d:=rfl
theorem lT (n d k:Nat):sIx n d (some (k:Int))=min k n:=by
 show (if (k:Int) < 0 then ((k:Int) + (n:Int)).toNat else min (k:Int).toNat n)=min k n
 rw [if_neg (by omega),Int.toNat_natCast]
end
end HT
namespace L2
open PySem PySem.Spec PyProof.Rows
noncomputable abbrev TO:=St->Hp->(Option Int->Hp->Prop)->Prop
noncomputable def PO (X:Cx) (e:Option Expr) (t:TO):Prop:=
 ∀ (pins:List (Addr × Obj)) (s:Shared) (σ:St) (H:Hp) (Q:Option Int->Hp->Prop),Inv X pins σ H s->t σ H Q ->
   wpAny (model X.prog X.w) X.A (evalPart e X.env) (λu s'=>∃ o H',Inv X pins σ H' s'/\IsPart u o/\Q o H') X.xe s
noncomputable def my:TO:=λ_ H Q=>Q none H
noncomputable def pJ (t:TE):TO:=λσ H Q=>t σ H λx H1=>∃ i,x=.int i/\Q (some i) H1
section
variable {X:Cx} {e:Expr} {te:TE} {lo hi:Option Expr} {tl th:TO} {pos p2:Pos}
theorem lJ:PO X none my:=by
 intro pins s σ H Q I h
 rw [evalPart_none]
 exact wpAny_pure ⟨none,H,I,.none,h⟩
theorem l3 (h:PE X e te):PO X (some e) (pJ te):=by
 intro pins s σ H Q I hw
 rw [evalPart_some]
 refine thn (h pins s σ H _ I hw) λu s1 ⟨x,H1,I1,r1,q1⟩=>?_
 obtain ⟨i,rfl,q⟩:=q1
 obtain ⟨t,rfl⟩:=r1
 exact ⟨some i,H1,I1,.int i t,q⟩
noncomputable def SlR (X:Cx) (r:V->Option Int->Option Int->Hp->VK->Prop):Prop:=
 ∀ (pins:List (Addr × Obj)) (s:Shared) (σ:St) (H:Hp) (x:V) (v vl vu:Value) (lo hi:Option Int) (sl:Addr) (Q:VK),Inv X pins σ H s->RelV x v->s.heap.IsSliceOf sl vl vu .none->IsPart vl lo->IsPart vu hi->r x lo hi H Q ->
   ∃ T id,typeLookup (.type T) "__getitem__" = pure (some (.builtin id))/\s.TypeIs v T/\wpAny (model X.prog X.w) X.A (getItem v (.ref sl)) (EP X pins σ Q) X.xe s
noncomputable def tSl (r:V->Option Int->Option Int->Hp->VK->Prop) (te:TE) (tl th:TO):TE:=λσ H Q=>te σ H λx H1=>tl σ H1 λl H2=>th σ H2 λu H3=>r x l u H3 Q
theorem hZ {r:V->Option Int->Option Int->Hp->VK->Prop} (hr:SlR X r) (he:PE X e te) (hl:PO X lo tl) (hu:PO X hi th):PE X (.Subscript e (.Slice lo hi none p2) pos) (tSl r te tl th):=by
 intro pins s σ H Q I h
 refine Subscript_ (thn (he pins s σ H _ I h) λv s1 ⟨x,H1,I1,r1,q1⟩=>?_)
 refine wpAny_Slice (thn (hl pins s1 σ H1 _ I1 q1) λvl s2 ⟨l,H2,I2,pl,q2⟩=>thn (hu pins s2 σ H2 _ I2 q2) λvu s3 ⟨u,H3,I3,pu,q3⟩=>?_)
 rw [evalPart_none]
 refine wpAny_pure ?_
 have I4:Inv X pins σ H3 { s3 with heap:=s3.heap.push { cls:=.type "slice",data:=.fields #[vl,vu,.none] } }:=I3.kept (t':=s3.toks) λb ob q=>Heap.get?_push_of_some _ q
 obtain ⟨T,id,hT,ht,hg⟩:=hr pins { s3 with heap:=s3.heap.push { cls:=.type "slice",data:=.fields #[vl,vu,.none] } } σ H3 x v vl vu l u s3.heap.objs.size Q I4 r1 (Heap.IsSliceOf.new ..) pl pu q3
 show wpAny (model X.prog X.w) X.A (subscriptTail e (.Slice lo hi none p2) v (.ref s3.heap.objs.size)) (EP X pins σ Q) X.xe { s3 with heap:=s3.heap.push { cls:=.type "slice",data:=.fields #[vl,vu,.none] } }
 exact tail_any (ops:=[.ref s3.heap.objs.size,v]) ht hT hg (by with_unfolding_all rfl)
noncomputable def j3 (xs:List V) (lo hi:Option Int):List V:=(xs.drop (HT.sIx xs.length 0 lo)).take (HT.sIx xs.length xs.length hi - HT.sIx xs.length 0 lo)
theorem ia (xs:List V) (lo hi:Option Int):(j3 xs lo hi).length<=xs.length:=by
 unfold j3
 rw [List.length_take,List.length_drop]
 omega
end
noncomputable def ixN (n:Nat) (i:Int):Option Nat:=if 0<=i then (if i < n then some i.toNat else none) else if -(n:Int)<=i then some (i + n).toNat else none
noncomputable def atI {α:Type} (xs:List α) (i:Int):Option α:=(ixN xs.length i).bind λj=>xs[j]?
theorem mn {n:Nat} {i:Int} {j:Nat} (h:ixN n i=some j):seqIndex? i n=some j/\j < n/\-(n:Int)<=i/\i < n:=by
 unfold ixN at h
 by_cases h0:0<=i
 · rw [if_pos h0] at h
   by_cases h1:i < n
   · rw [if_pos h1] at h
     have e:i.toNat=j:=Option.some.inj h
     exact ⟨by rw [seqIndex_of h0 h1,e],by omega,by omega,h1⟩
   · rw [if_neg h1] at h; cases h
 · rw [if_neg h0] at h
   by_cases h1:-(n:Int)<=i
   · rw [if_pos h1] at h
     have e:(i + n).toNat=j:=Option.some.inj h
     exact ⟨by rw [seqIndex_neg (by omega) h1,e],by omega,h1,by omega⟩
   · rw [if_neg h1] at h; cases h
theorem gb {α:Type} {xs:List α} {i:Int} {v:α} (h:atI xs i=some v):∃ j,seqIndex? i xs.length=some j/\xs[j]?=some v/\j < xs.length/\-(xs.length:Int)<=i/\i < xs.length:=by
 unfold atI at h
 cases e:ixN xs.length i with
 | none=>rw [e] at h; cases h
 | some j=>
   rw [e] at h
   obtain ⟨h1,h2,h3,h4⟩:=mn e
   exact ⟨j,h1,h,h2,h3,h4⟩
noncomputable def gx (b:Expr):Prop:=∀ o i,subscripted b false o i=operate [o,i] (getItem o i)
noncomputable def IxR (X:Cx) (r:R2):Prop:=
 ∀ (value slice:Expr) (pins:List (Addr × Obj)) (s:Shared) (σ:St) (H:Hp) (x y:V) (v u:Value) (Q:VK),Inv X pins σ H s->RelV x v->RelV y u->r x y H Q ->
   subscripted slice false v u=operate [v,u] (getItem v u)->wpAny (model X.prog X.w) X.A (subscriptTail value slice v u) (EP X pins σ Q) X.xe s
noncomputable def MtR (X:Cx) (id:String) (r:V->List V->Hp->VK->Prop):Prop:=
 ∀ (pins:List (Addr × Obj)) (s:Shared) (σ:St) (H:Hp) (x:V) (xs:List V) (v:Value) (us:List Value) (Q:VK),Inv X pins σ H s->RelV x v->Vals xs us->r x xs H Q ->
   wpAny (model X.prog X.w) X.A (call (.builtin id) (v :: us)) (EP X pins σ Q) X.xe s
section
variable {X:Cx} {a b:Expr} {ta tb:TE} {pos:Pos}
theorem mV {r:R2} (hr:IxR X r) (ha:PE X a ta) (hb:PE X b tb) (hs:gx b):PE X (.Subscript a b pos) (tOp r ta tb):=by
 intro pins s σ H Q I h
 exact Subscript_ (oC ha hb I h λv u s2 x y H2 I2 rx ry q=>hr a b pins s2 σ H2 x y v u Q I2 rx ry q (hs _ _))
noncomputable def qw (K:PySem.W.Frag):R2:=λx y H Q=>∃ p xs i v,x=.ref p/\y=.int i/\SqL K H p xs/\atI xs i=some v/\Q v H
noncomputable def qG (K:PySem.W.Frag):R2:=λx y H Q=>∃ p xs i v,x=.ref p/\y=.int i/\SqT K H p xs/\atI xs i=some v/\Q v H
noncomputable def qT:R2:=λx y H Q=>∃ z i c,x=.str z/\y=.int i/\z.length<=sizeLine/\atI z.cps.toList i=some c/\Q (.str ⟨#[c]⟩) H
theorem jg:IxR X (qw X.K):=by
 intro value slice pins s σ H x y v u Q I rx ry h hs
 obtain ⟨p,xs,i,z,rfl,rfl,hq,he,q⟩:=h
 cases rx
 obtain ⟨t,rfl⟩:=ry
 obtain ⟨its,r,pl,hz⟩:=I.list hq
 obtain ⟨j,h1,h2,h3,h4,h5⟩:=gb he
 obtain ⟨w,ew,rw'⟩:=r.get h2
 have hl:=r.length
 have hn:=gf
 have fin:EP X pins σ Q w s:=⟨z,H,I,rw',q⟩
 by_cases h0:0<=i
 · have hj:i.toNat=j:=by
     rw [seqIndex_of h0 h5] at h1
     exact Option.some.inj h1
   exact item_listR pl.isList h0 (by omega) (by rw [hj]; simpa using ew) fin hs
 · have hj:(i + (its.toArray.size:Int)).toNat=j:=by
     rw [seqIndex_neg (by omega) h4] at h1
     rw [List.size_toArray,<- hl]
     exact Option.some.inj h1
   exact subscriptTail_builtinR (x:=w) pl.isList.typeIs slot_list_getitem.lookup
     (wpAny_getItem_list_neg (Q:=λr s'=>r=w/\EP X pins σ Q r s') pl.isList (by omega) (by rw [List.size_toArray] <;> omega) (by omega) (by rw [hj]; simpa using ew) ⟨rfl,fin⟩) hs
theorem nG:IxR X (qG X.K):=by
 intro value slice pins s σ H x y v u Q I rx ry h hs
 obtain ⟨p,xs,i,z,rfl,rfl,hq,he,q⟩:=h
 cases rx
 obtain ⟨t,rfl⟩:=ry
 obtain ⟨its,r,pl,hz⟩:=I.tuple hq
 obtain ⟨j,h1,h2,h3,h4,h5⟩:=gb he
 obtain ⟨w,ew,rw'⟩:=r.get h2
 have hl:=r.length
 have hn:=gf
 have fin:EP X pins σ Q w s:=⟨z,H,I,rw',q⟩
 exact subscriptTail_builtinR (x:=w) pl.typeIs slot_tuple_getitem.lookup
   (getItem_tuple (j:=j) (Q:=λr s'=>r=w/\EP X pins σ Q r s') pl (by omega) (by omega) (by rw [List.size_toArray,<- hl]; exact h1) (by simpa using ew) ⟨rfl,fin⟩) hs
theorem og:IxR X qT:=by
 intro value slice pins s σ H x y v u Q I rx ry h hs
 obtain ⟨z,i,c,rfl,rfl,hz,he,q⟩:=h
 obtain ⟨t,rfl⟩:=rx
 obtain ⟨t',rfl⟩:=ry
 obtain ⟨j,h1,h2,h3,h4,h5⟩:=gb he
 have hl:z.cps.toList.length=z.length:=by simp [Str.length]
 rw [hl] at h1 h4 h5
 have hn:=gf
 exact tail_any (typeIs_str s z t) slot_str_getitem.lookup (getItem_str (c:=c) (by
   have e1:decide (i < -(2 ^ 63:Int))=false:=decide_eq_false (by omega)
   have e2:decide (i ≥ 2 ^ 63)=false:=decide_eq_false (by omega)
   rw [e1,e2,Bool.or_false]) (by rw [h1]; simpa using h2) ⟨.str ⟨#[c]⟩,H,I.tok _,⟨_,rfl⟩,q⟩) hs
theorem gy (lo hi:Option Int) (n:Nat):(sliceBounds lo hi none n).1=((HT.sIx n 0 lo:Nat):Int)/\(sliceBounds lo hi none n).2.1=((HT.sIx n n hi:Nat):Int)/\(sliceBounds lo hi none n).2.2=1:=by
 refine ⟨?_,?_,rfl⟩
 · cases lo with
   | none=>simp [sliceBounds,HT.sIx]
   | some i=>
     simp only [sliceBounds,HT.sIx,Option.getD_none,show (1:Int) > 0 by decide,if_true]
     by_cases h:i < 0
     · simp only [h,if_true] <;> omega
     · simp only [h,if_false] <;> omega
 · cases hi with
   | none=>simp [sliceBounds,HT.sIx]
   | some i=>
     simp only [sliceBounds,HT.sIx,Option.getD_none,show (1:Int) > 0 by decide,if_true]
     by_cases h:i < 0
     · simp only [h,if_true] <;> omega
     · simp only [h,if_false] <;> omega
theorem eZ (its:List Value) (lo hi:Option Int):slicePick its.toArray lo hi none=((its.drop (HT.sIx its.length 0 lo)).take (HT.sIx its.length its.length hi - HT.sIx its.length 0 lo)).toArray:=by
 obtain ⟨h1,h2,h3⟩:=gy lo hi its.toArray.size
 unfold slicePick
 rw [h1,h2,h3]
 simp only [sliceRange_one,pick_run,List.size_toArray] <;> rfl
noncomputable def qN (K:PySem.W.Frag):V->Option Int->Option Int->Hp->VK->Prop:=λx lo hi H Q=>∃ a xs,x=.ref a/\SqL K H a xs/\∀ p,H p=none->Q (.ref p) (upd H p (.lst (j3 xs lo hi)))
theorem mq:SlR X (qN X.K):=by
 intro pins s σ H x v vl vu lo hi sl Q I rx hs pl pu h
 obtain ⟨a,xs,rfl,hx,q⟩:=h
 cases rx
 obtain ⟨its,r,ht,hz⟩:=I.list hx
 have hlen:=r.length
 refine ⟨"list",_,slot_list_getitem.lookup,ht.isList.typeIs,?_⟩
 refine wpAny_getItem_list_slice ht.isList hs pl pu .none (by simp) ?_ (by rw [List.size_toArray] <;> omega)
 rw [eZ,<- hlen]
 refine ⟨.ref s.heap.objs.size,_,I.laid (t':=s.toks) (o:=.lst (j3 xs lo hi)) (λb ob q=>Heap.get?_push_of_some _ q) (Nat.le_refl _) ?_,rfl,q _ (I.hok.fresh (Nat.le_refl _))⟩
 exact ⟨Nat.le_trans (ia xs lo hi) hz,_,0,(r.drop (HT.sIx xs.length 0 lo)).take (HT.sIx xs.length xs.length hi - HT.sIx xs.length 0 lo),Heap.get?_push_size _ rfl⟩
theorem cY:cj X (.builtin "len") (λxs H Q=>∃ p ys,xs=[.ref p]/\(SqL X.K H p ys\/SqT X.K H p ys)/\Q (.int ys.length) H):=by
 intro pins s σ H xs us Q I r h
 obtain ⟨p,ys,rfl,hq,q⟩:=h
 obtain ⟨u,rfl,rx⟩:=vals1 r
 cases rx
 have hn:=gf
 rcases hq with hq | hq
 · obtain ⟨its,r',pl,hz⟩:=I.list hq
   have hlen:=r'.length
   exact Calls.call_len_list pl.isList (by simp only [List.size_toArray] <;> omega) ⟨.int ys.length,H,I.tok _,⟨s.toks + 1,by rw [List.size_toArray,hlen]⟩,q⟩
 · obtain ⟨its,r',pl,hz⟩:=I.tuple hq
   have hlen:=r'.length
   exact len_tuple pl (by simp only [List.size_toArray] <;> omega) ⟨.int ys.length,H,I.tok _,⟨s.toks + 1,by rw [List.size_toArray,hlen]⟩,q⟩
noncomputable def tyV (K:PySem.W.Frag) (T:String) (x:V) (H:Hp):Prop:=match x with
 | .str _=>T = "str"
 | .int _=>T = "int"
 | .ref p=>(T = "list" /\ ∃ xs,SqL K H p xs)\/(T = "tuple" /\ ∃ o,K.lookup p=some o/\o.cls=.type "tuple" /\ o.dict=none) \/
     (T = "dict" /\ ((∃ kvs,H p=some (.dK kvs))\/∃ kvs,H p=some (.dT kvs)))\/(T = "set" /\ ∃ S n,H p=some (.set S n))
 | _=>False
theorem oq {pins:List (Addr × Obj)} {σ:St} {H:Hp} {s:Shared} {T:String} {x:V} {v:Value} (I:Inv X pins σ H s) (r:RelV x v) (ty:tyV X.K T x H) :
   s.TypeIs v T/\∀ a,v=.ref a->∃ ob,s.heap.get? a=some ob/\ob.dict=none:=by
 cases x with
 | str z=>
   obtain ⟨t,rfl⟩:=r
   cases (show T = "str" from ty)
   exact ⟨typeIs_str s z t,λ_ e=>nomatch e⟩
 | int i=>
   obtain ⟨t,rfl⟩:=r
   cases (show T = "int" from ty)
   exact ⟨typeIs_int s i t,λ_ e=>nomatch e⟩
 | ref p=>
   cases r
   rcases ty with ⟨rfl,xs,hq⟩ | ⟨rfl,o,hk,hc,hd⟩ | ⟨rfl,hk⟩ | ⟨rfl,S,n,hk⟩
   · obtain ⟨its,_,pl,_⟩:=I.list hq
     refine ⟨pl.isList.typeIs,λa e=>?_⟩
     cases e
     obtain ⟨o,n,e,c,hd,_⟩:=pl
     exact ⟨o,e,hd⟩
   · refine ⟨⟨o,I.kIn p o hk,hc⟩,λa e=>?_⟩
     cases e
     exact ⟨o,I.kIn _ o hk,hd⟩
   · have z:∃ o,s.heap.get? p=some o/\o.ExactDict:=by
       rcases hk with ⟨kvs,hk⟩ | ⟨kvs,hk⟩
       · obtain ⟨_,_,_,_,o,_,_,e,ex,_⟩:=I.hok p _ hk
         exact ⟨o,e,ex⟩
       · obtain ⟨_,_,_,_,o,_,_,e,ex,_⟩:=I.hok p _ hk
         exact ⟨o,e,ex⟩
     obtain ⟨o,e,ex⟩:=z
     refine ⟨⟨o,e,ex.1⟩,λa e2=>?_⟩
     cases e2
     exact ⟨o,e,ex.2.1⟩
   · obtain ⟨o,_,_,_,e,ex,_⟩:=I.hok p _ hk
     refine ⟨⟨o,e,ex.1⟩,λa e2=>?_⟩
     cases e2
     exact ⟨o,e,ex.2.1⟩
 | _=>exact False.elim ty
noncomputable def tBM (K:PySem.W.Frag) (T:String) (r:V->List V->Hp->VK->Prop) (to:TE) (t:TA):TE:=λσ H Q=>to σ H λx H1=>tyV K T x H1/\t σ H1 λxs H2=>r x xs H2 Q
variable {o e:Expr} {es:List Expr} {to:TE} {t:TA} {name:Str} {apos cpos:Pos} {T id:String} {r:V->List V->Hp->VK->Prop}
theorem mE (pa:PlainAttrs T) (slot:Slot T name id) (hty:typeOf (.builtin id)=pure (.type "method_descriptor")) (hm:MtR X id r) (ho:PE X o to) (ha:PA X (e :: es) t)
   (hbase:attributeBase o name X.env (eval o X.env)=eval o X.env:=by rfl)
   (hfew:((backTo cpos (starEach (e :: es) X.env)).all (λx=>!x.1) && (backToKw cpos (keywordEach [] X.env)).all (λx=>x.1.isSome)
     && decide ((e :: es).length + ([]:List Keyword).length + (if ([]:List Keyword).isEmpty then 0 else 1) < 30))=true:=by rfl)
   (hline:(apos.endLine == cpos.line)=true:=by rfl) (hs:starEach (e :: es) X.env=(false,eval e X.env) :: starEach es X.env:=by rfl) (hplain:(backTo cpos (starEach es X.env)).any (·.1)=false:=by rfl) :
   PE X (.Call (.Attribute o name apos) (e :: es) [] cpos) (tBM X.K T r to t):=by
 intro pins s σ H Q I h
 refine wpAny_Call_method_late hbase hfew hline rfl (thn (ho pins s σ H _ I h) λv s1 ⟨x,H1,I1,r1,ty,q1⟩=>?_)
 obtain ⟨h1,h2⟩:=oq I1 r1 ty
 refine ⟨T,id,pa,slot,hty,h1,h2,?_⟩
 have hA:=ha cpos pins s1 σ H1 _ I1 q1
 rw [hs] at hA ⊢
 refine Calls.callWith_builtin (by show (false || (backTo cpos (starEach es X.env)).any (·.1))=false; rw [hplain] <;> rfl) (Calls.evalArgs_plain ?_)
 exact thn hA λus s2 ⟨vs,H2,I2,r2,q2⟩=>hm pins s2 σ H2 x vs v us Q I2 r1 r2 q2
end
noncomputable def MtM (X:Cx) (id:String) (r:V->List V->Hp->VK->Prop):Prop:=
 ∀ (pins:List (Addr × Obj)) (s:Shared) (σ:St) (H:Hp) (x:V) (xs:List V) (v:Value) (us:List Value) (Q:VK),Inv X pins σ H s->RelV x v->Vals xs us->r x xs H Q ->
   wpAny (model X.prog X.w) X.A (call (.builtin id) (v :: us)) (EP X pins σ Q) X.xe s
theorem Vals.one:∀ {x:V} {us:List Value},Vals [x] us->∃ u,us=[u]/\RelV x u
 | _,_,.cons r .nil=>⟨_,rfl,r⟩
section
variable {X:Cx} {pins:List (Addr × Obj)} {σ:St} {H:Hp} {s:Shared} {l b:Addr} {xs ys zs:List V}
theorem Inv.qK {its its':List Value} {n:Nat} {f:Array Value->Array Value} {t':Nat} (I:Inv X pins σ H s) (hH:H l=some (.lst xs))
   (e:s.heap.get? l=some { cls:=.type "list",data:=.seq its.toArray n }) (hf:f its.toArray=its'.toArray) (hv:Vals ys its') (hz:ys.length<=sizeLine) :
   Inv X pins σ (upd H l (.lst ys)) { s with heap:=s.heap.update l (Obj.mapSeq f),toks:=t' }:=by
 have q:=PySem.IsL.update e f
 rw [hf] at q
 refine I.write (x:=l) (e:=l) (by rw [hH]; exact trivial) (.inl rfl) (λb' u hb hu=>(Heap.get?_update_other s.heap (Obj.mapSeq f) (Ne.symm hb)).trans hu) ⟨_,q⟩ ?_
 exact ⟨hz,its',_,hv,q⟩
theorem Inv.qo {its:List Value} {t':Nat} (I:Inv X pins σ H s) (hv:Vals ys its) (hz:ys.length<=sizeLine) :
   Inv X pins σ (upd H s.heap.objs.size (.lst ys)) { s with heap:=s.heap.push { cls:=.type "list",data:=.seq its.toArray },toks:=t' }:=
 I.laid (λ_ _ q=>Heap.get?_push_of_some _ q) (Nat.le_refl _) ⟨hz,its,0,hv,Heap.get?_push_size _ rfl⟩
theorem Inv.fresh (I:Inv X pins σ H s):H s.heap.objs.size=none:=I.hok.fresh (Nat.le_refl _)
theorem Inv.qp (I:Inv X pins σ H s) (hH:H l=some (.lst xs)):xs.length<=sizeLine/\∃ (its:List Value) (n:Nat),Vals xs its/\xs.length=its.length/\s.heap.get? l=some { cls:=.type "list",data:=.seq its.toArray n }:=by
 obtain ⟨z,its,n,r,e⟩:=I.hok l _ hH
 exact ⟨z,its,n,r,r.length,e⟩
end
section
variable {X:Cx}
noncomputable def lF:V->List V->Hp->VK->Prop:=λx vs H Q=>∃ l xs y,x=.ref l/\vs=[y]/\H l=some (.lst xs)/\xs.length < sizeLine/\Q .non (upd H l (.lst (xs++[y])))
theorem dg:MtM X "list.append" lF:=by
 intro pins s σ H x vs v us Q I rx rv h
 obtain ⟨l,xs,y,rfl,rfl,hH,hz,q⟩:=h
 cases rx
 obtain ⟨u,rfl,ru⟩:=rv.one
 obtain ⟨z,its,n,r,hl,e⟩:=I.qp hH
 refine call_meets F.slot_list_append ⟨_,e,rfl⟩ F.entry_list_append (F.args_list_append_2 _ _) (PySem.list_append l its.toArray n u (by rw [List.size_toArray]; omega)) ⟨e,?_⟩
 refine ⟨.non,_,I.qK (its':=its++[u]) hH e (by simp) (r.append (.cons ru .nil)) ?_,rfl,q⟩
 rw [List.length_append,List.length_singleton]
 omega
end
section
variable {prog:Program} {w:World} {A:Around} {E:Value->Shared->Prop} {s:Shared}
end
section
variable {X:Cx}
end
end L2
namespace Att
open PySem PySem.W PySem.Calls PyProof.Rows
theorem dH {P:Params} {h:Heap}:∀ (ns:List Int) (vs:List Value),WellAll P h vs (ns.map WData.int)->IntsAre vs ns:=by
 intro ns
 induction ns with
 | nil=>
   intro vs w
   rw [List.map_nil] at w
   cases w
   exact .nil
 | cons n ns ih=>
   intro vs w
   rw [List.map_cons] at w
   cases w with
   | cons a b=>
     cases a
     exact .cons _ _ (ih _ b)
theorem jM {l:OpenLaw} {n:Nat} (hn:l.most=some n) {P:Params} {h:Heap} {args:List WData} {vals:List Value}
   (hpre:l.row.toRowW.claim.pre args=true) (hwl:WellAll P h vals args) :
   ∃ a vs ns,vals=[Value.ref a]/\args=[WData.list (ns.map WData.int)]/\h.get? a=some { cls:=.type "list",data:=.seq vs.toArray }/\IntsAre vs ns/\ns.length<=n:=by
 have hsh:WShape.hasAll [] args [.list .int]=true:=(pre_splitW hpre).1
 have hc:l.pre.holds [] { args:=args }=true:=(pre_splitW hpre).2
 obtain ⟨d,r,rfl,h1,h2⟩:=hasAllW_cons hsh
 obtain rfl:=hasAllW_nil h2
 obtain ⟨xs,rfl,h3⟩:=hasW_list h1
 obtain ⟨ns,rfl⟩:=items_int h3
 have hlen:ns.length<=n:=by
   unfold OpenLaw.pre at hc
   have h4:(WTm.not (.lt (.lit (.int (n:Int))) (.len (.arg 0)))).holds [] { args:=[.list (ns.map .int)] }=true:=by
     have h4:=(holds_andW hc).1
     rw [hn] at h4
     exact h4
   have h5:=condW_of h4 (w_not (w_lt w_lit (w_len_list (w_arg rfl))))
   rw [List.length_map] at h5
   refine Nat.le_of_not_lt λq=>?_
   have q':(n:Int) < ((ns.length:Nat):Int):=by omega
   first
     | (rw [decide_eq_true q'] at h5; exact absurd h5 (by decide))
     | (simp at h5; omega)
 cases hwl with
 | cons w1 w2=>
   cases w2
   cases w1 with
   | list ho hall=>exact ⟨_,_,ns,rfl,rfl,ho,dH ns _ hall,hlen⟩
theorem jE (l:OpenLaw) (args:List WData):l.row.toRowW.claim.post args (.bool true) args=true:=
 postW_of (r:=l.row.toRowW) (X:=(true == true))
   (show WShape.has [] (.bool true) .bool=true by first | rfl | decide | simp [WShape.has,WShape.arms,WShape.armsAll])
   (show (WTm.eq .res (.lit (.bool true))).value [] { args:=args,res:=some (.bool true),after:=args }=some (.bool (true == true)) from w_eq_bool (w_res rfl) w_lit) rfl
theorem gU {l:OpenLaw} {n:Nat} {q:Program} {loose:List Str} {XP:(Str->Option Value)->Heap->Prop} {YP:World->Heap->Prop} {d:DefRec}
   (hn:l.most=some n) (hdf:d.params.defaults=[])
   (call:∀ (w:World) (s₀ s₁:Shared) (mg mb:Str->Option Value) (fa:Addr) (o:Obj) (pm cd doc:Value) (a:Addr) (vs:List Value) (ns:List Int),
     Ground q loose [] XP w s₀ mg mb s₁.heap->YP w s₁.heap ->
     s₁.heap.get? fa=some o->o.data=.func (docDef d.name d.params d.body d.scope pm cd doc)->s₁.heap.CodeRec cd d.name->mg d.name=some (.ref fa) ->
     s₁.heap.get? a=some { cls:=.type "list",data:=.seq vs.toArray }->IntsAre vs ns->ns.length<=n->s₁.gens=#[] ->
     codeAny (model l.prog w) callerA (.call (.ref fa) ⟨[.ref a],[]⟩) (λr s'=>r=.ok (.ret (.bool true))/\OldK s₁.heap s'.heap/\s'.os=s₁.os/\AllBare s'.gens) s₁) :
   WalkO q loose XP YP l.row.toRowW d [] (λf vs=>PySem.call f vs):=by
 intro w s₀ s₁ mg mb G Y fa o pm cd doc dV kV ho hd hcd hD hmg hg args vals as hpre hlay hrd hwl hlo
 obtain rfl:dV=.none:=Dflts.none hD hdf
 obtain rfl:kV=.none:=Dflts.noKw hD
 obtain ⟨a,vs,ns,rfl,rfl,hobj,hints,hlen⟩:=jM hn hpre hwl
 refine enter_call (codeAny_mono (call w s₀ s₁ mg mb fa o pm cd doc a vs ns G Y ho (fd_plain hd) hcd hmg hobj hints hlen hg) λr s' hq=>?_)
 obtain ⟨rfl,h2,h3,h4⟩:=hq
 exact ⟨.inl ⟨.bool true,.bool true,[],rfl,λ_=>rfl,.bool true,jE l _,λ_=>⟨List.Pairwise.nil,λ_ hm=>(nomatch hm)⟩⟩,h2,h3,h4⟩
section
variable {prog:Program} {w:World} {A:Around} {E:Value->Shared->Prop} {s:Shared} {K:Frag}
end
end Att
namespace L2
open PySem PySem.Spec PyProof.Rows
theorem fB:∀ {vs:List Value} {ns:List Int},IntsAre vs ns->Vals (ns.map V.int) vs
 | _,_,.nil=>.nil
 | _,_,.cons n t h=>.cons ⟨t,rfl⟩ (fB h)
noncomputable def oG (H:Hp):Prop:=∀ b,H b=none\/∃ o xs,H b=some (.frz o (.lst xs))
theorem kz {P:Program} {w:World} {K:PySem.W.Frag} {mg mb:Str->Option Value} {CX:CXT} {k:Nat} {fa a:Addr} {fd:FuncData} {x:Str} {sp:Sp} {s₁:Shared} {vs:List Value} {ns:List Int}
   (KX:K.In s₁.heap) (hns:s₁.heap.Ns mainGlobals mg) (hb:s₁.heap.Ns builtinsNs mb) (hbb:∀ x:Str,x ≠ "__name__" -> mb x=bootBuiltins x) (hlim:s₁.heap.NoLimit) (hg:s₁.gens=#[])
   (ha:s₁.heap.get? a=some { cls:=.type "list",data:=.seq vs.toArray }) (hi:IntsAre vs ns) (hl:ns.length<=sizeLine) (hr:b8 k callerA)
   (F:∀ base:Heap,K.In base->base.Ns mainGlobals mg->aI P w K mg base CX k fa fd [x] sp) (hbind:∀ (s:Shared) (u:Value),BindsTo s fd ⟨[u],[]⟩ [(x,u)])
   (hsp:∀ H:Hp,oG H->SqL K H a (ns.map V.int)->sp [.ref a] H (λv _=>v=.bl true) λ_ _ _=>False)
   (hCX:∀ H e s',CX [] H s₁ (λ_ _ _=>False) e s'->False) :
   codeAny (model P w) callerA (.call (.ref fa) ⟨[.ref a],[]⟩) (λr s'=>r=.ok (.ret (.bool true))/\OldK s₁.heap s'.heap/\s'.os=s₁.os/\AllBare s'.gens) s₁:=by
 have rv:=fB hi
 have lenV:=hi.length
 have core:∀ H:Hp,oG H->SqL K H a (ns.map V.int)->HOk P w H s₁.heap->(∀ b,H b ≠ none->b=a)->(H a ≠ none->K.lookup a=none) ->
     codeAny (model P w) callerA (.call (.ref fa) ⟨[.ref a],[]⟩) (λr s'=>r=.ok (.ret (.bool true))/\OldK s₁.heap s'.heap/\s'.os=s₁.os/\AllBare s'.gens) s₁:=by
   intro H hO hS hok hA hK
   have base_of:∀ {b:Addr} {o:Obj},s₁.heap.get? b=some o->H b=none->(gh s₁.heap H).get? b=some o:=λe n=>kf e n
   have noA:∀ {b:Addr} {o:Obj} {es:Array DictEntry} {ep:Nat},s₁.heap.get? b=some o->o.data=.dict es ep->H b=none:=λ{b o es ep} e d=>by
     cases q:H b with
     | none=>rfl
     | some u=>
       have e':b=a:=hA b (by rw [q]; simp)
       subst e'
       rw [ha] at e; cases e
       have d':Data.seq vs.toArray _=Data.dict es ep:=d
       cases d'
   have nsK:∀ {b:Addr} {m:Str->Option Value},s₁.heap.Ns b m->(gh s₁.heap H).Ns b m:=λ{b m} ⟨o,es,ep,e,d,r⟩=>⟨o,es,ep,base_of e (noA e d),d,r⟩
   have hKb:K.In (gh s₁.heap H):=λb o e=>base_of (KX b o e) (by
     cases q:H b with
     | none=>rfl
     | some u=>
       have e':b=a:=hA b (by rw [q]; simp)
       subst e'
       rw [hK (by rw [q]; simp)] at e; cases e)
   have hM:Mod K mg (gh s₁.heap H):=⟨hKb,nsK hns,⟨mb,nsK hb,hbb⟩,let ⟨mc,h1,h2⟩:=hlim; ⟨mc,nsK h1,h2⟩⟩
   have e0:ml P w K mg (gh s₁.heap H) callerA [] s₁ H:=⟨rfl,hM,λb o e=>mr e,Nat.le_of_eq (jP _ _),trivial,λb hb=>absurd (show b ∈ ([]:List Addr) from hb) (by simp),hok,.of_eq hg⟩
   refine codeAny_mono ((F _ hKb (nsK hns)).run callerA [] s₁ H ⟨[.ref a],[]⟩ [.ref a] [.ref a] _ _ hr e0 (hbind s₁ (.ref a)) (.cons rfl .nil) (hsp H hO hS)) λr s' h=>?_
   cases r with
   | error e=>exact (hCX H e s' h).elim
   | ok fl=>
     cases fl with
     | next=>exact False.elim h
     | brk=>exact False.elim h
     | cont=>exact False.elim h
     | ret u=>
       obtain ⟨v,H',os,bare,un,hok',r',q⟩:=h
       have q':v=.bl true:=q
       subst q'
       obtain rfl:u=Value.bool true:=r'
       refine ⟨rfl,OldK.of_keep λb o e=>?_,os,bare⟩
       cases q:H b with
       | none=>exact un.keep b o e q (by intro z; exact absurd (show b ∈ ([]:List Addr) from z) (by simp)) (by simp)
       | some u=>
         rcases hO b with z | ⟨ob,xs,z⟩
         · rw [q] at z; cases z
         · have z2:=un.frzs b ob _ z
           obtain ⟨e1,_⟩:=hok b _ z
           obtain ⟨e2,_⟩:=hok' b _ z2
           rw [e] at e1; cases e1
           exact e2
 cases hk:K.lookup a with
 | some o=>
   have e:=KX a o hk
   rw [ha] at e
   cases e
   refine core (λ_=>none) (λ_=>.inl rfl) (.inr ⟨_,vs.toArray,_,hk,rfl,rfl,rfl,by rw [List.size_toArray,lenV]; exact hl,by simpa using rv⟩) (λb u z=>by have z':(none:Option HO)=some u:=z; cases z') (λb z=>absurd rfl z) λz=>absurd rfl z
 | none=>
   refine core (λb=>if b=a then some (.frz { cls:=.type "list",data:=.seq vs.toArray } (.lst (ns.map V.int))) else none) (λb=>?_) (.inl (.inr ⟨{ cls:=.type "list",data:=.seq vs.toArray },if_pos rfl⟩)) (λb u z=>?_) (λb z=>?_) λ_=>hk
   · by_cases hb:b=a
     · exact .inr ⟨_,_,if_pos hb⟩
     · exact .inl (if_neg hb)
   · by_cases hb:b=a
     · have z':=(if_pos hb).symm.trans z
       cases z'
       subst hb
       exact ⟨ha,by rw [List.length_map]; exact hl,vs,_,rv,ha⟩
     · have z':=(if_neg hb).symm.trans z
       cases z'
   · by_cases hb:b=a
     · exact hb
     · exact absurd (if_neg hb) z
theorem lN {l:PySem.W.OpenLaw} {n k:Nat} {q:Program} {loose:List Str} {XP:(Str->Option Value)->Heap->Prop} {YP:World->Heap->Prop} {d:DefRec} {K:Params->PySem.W.Frag} {CX:World->CXT} {sp:World->Sp} {x:Str}
   (hn:l.most=some n) (hn2:n<=sizeLine) (hdf:d.params.defaults=[]) (hr:b8 k callerA)
   (hY:∀ (w:World) (h:Heap),YP w h->(K w.params).In h)
   (F:∀ (w:World) (mg:Str->Option Value) (fa:Addr) (h:Heap),(K w.params).In h->h.Ns mainGlobals mg->mg d.name=some (.ref fa) ->
     ∃ fd:FuncData,(∀ (s:Shared) (u:Value),BindsTo s fd ⟨[u],[]⟩ [(x,u)]) /\
       ∀ base:Heap,(K w.params).In base->base.Ns mainGlobals mg->aI l.prog w (K w.params) mg base (CX w) k fa fd [x] (sp w))
   (hsp:∀ (w:World) (H:Hp) (a:Addr) (ns:List Int),ns.length<=n->oG H->SqL (K w.params) H a (ns.map V.int)->sp w [.ref a] H (λv _=>v=.bl true) λ_ _ _=>False)
   (hCX:∀ (w:World) (H:Hp) (s:Shared) (e:Value) (s':Shared),CX w [] H s (λ_ _ _=>False) e s'->False) :
   PySem.W.WalkO q loose XP YP l.row.toRowW d [] (λf vs=>PySem.call f vs):=by
 refine Att.gU hn hdf λw s₀ s₁ mg mb fa o pm cd doc a vs ns G Y ho hd hcd hmg hobj hints hlen hg=>?_
 have KX:=hY w _ Y
 obtain ⟨fd,hb,hF⟩:=F w mg fa _ KX G.T.g hmg
 exact kz KX G.T.g G.T.b G.T.builtins G.T.nolimit hg hobj hints (Nat.le_trans hlen hn2) hr hF hb (λH hO hS=>hsp w H a ns hlen hO hS) λH e s'=>hCX w H s₁ e s'
noncomputable def bR (s:Stmt):Arguments:=match s with
 | .FunctionDef _ a _ _ _ _ _ _ _ _=>a
 | _=>{ posonlyargs:=[],args:=[],vararg:=none,kwonlyargs:=[],kw_defaults:=[],kwarg:=none,defaults:=[] }
noncomputable def bp (s:Stmt):List Stmt:=match s with
 | .FunctionDef _ _ b _ _ _ _ _ _ _=>b
 | _=>[]
noncomputable def ah (s:Stmt):Scope:=match s with
 | .FunctionDef _ _ _ _ _ _ sc _ _ _=>sc
 | _=>{ kind:=.function,names:=[],isGenerator:=false,isCoroutine:=false }
noncomputable abbrev CX0:CXT:=λ_ _ _ _ _ _=>False
noncomputable abbrev E0:XK:=λ_ _ _=>False
theorem pQ {X:Cx}:Passes CX0 X E0:=λ_ _ _ _ _ _ _ h=>h.elim
structure Fun (K:PySem.W.Frag) (x qual:Str) (st:Stmt) (f:Addr) (fd:FuncData):Prop where
 ex:∃ (oc:Value) (od:Option Addr) (dV kV doc pm:Value) (an:Option Addr) (cdv ct:Value) (osl:Array (Option Value)),
   fd=PySem.W.fnOf x qual (bR st) (bp st) (ah st) dV kV doc pm an cdv ct/\K.lookup f=some ⟨oc,od,.func fd,osl⟩/\PySem.W.codeIn K cdv qual=true
 kp:PySem.W.keepIn K (.ref f)=true
section
variable {P:Program} {w:World} {K:PySem.W.Frag} {mg:Str->Option Value} {base:Heap}
theorem Fun.ok {x qual:Str} {st:Stmt} {f:Addr} {fd:FuncData} {N ps:List Str} {k:Nat} {sp:Sp} (F:Fun K x qual st f fd) (S:ar N ps (ah st)) (len:∀ vs H Q E,sp vs H Q E->vs.length=ps.length)
   (hbody:∀ (cdv:Value) (A:Around) (outer:List Env) (s:Shared) (H:Hp) (vs:List V) (Q:VK) (E:XK),b8 k (A.deeper (envOfC qual (ah st) s.heap.objs.size f cdv))->sp vs H Q E ->
     ∃ t,PSs (iy CX0 P w K mg base N qual (ah st) f cdv A outer s H E).nox (bp st) t/\t { nx:=λ_ H'=>Q .non H',rt:=Q } (start N vs) H):aI P w K mg base CX0 (k + 1) f fd ps sp:=by
 obtain ⟨oc,od,dV,kV,doc,pm,an,cdv,ct,osl,rfl,lk,hcd⟩:=F.ex
 refine pf lk hcd S len λA outer s H vs Q E hr hsp=>?_
 obtain ⟨t,h,q⟩:=hbody cdv A outer s H vs Q E hr hsp
 exact ⟨t,h.nox,q⟩
theorem Fun.binds {x qual:Str} {st:Stmt} {f:Addr} {fd:FuncData} {ps:List Str} (_:Fun K x qual st f fd) (h:∀ us:List Value,us.length=ps.length->bindArgs fd ⟨us,[]⟩=pure (ps.zip us)):Binds K fd ps []:=.all h
theorem kR {x qual:Str} {st:Stmt} {f:Addr} {oc:Value} {od an:Option Addr} {osl:Array (Option Value)} {dV kV doc pm cdv ct:Value} (l:K.lookup f=some ⟨oc,od,.func (PySem.W.fnOf x qual (bR st) (bp st) (ah st) dV kV doc pm an cdv ct),osl⟩)
   (c:PySem.W.codeIn K cdv qual=true) (k:PySem.W.keepIn K (.ref f)=true):Fun K x qual st f (PySem.W.fnOf x qual (bR st) (bp st) (ah st) dV kV doc pm an cdv ct):=⟨⟨oc,od,dV,kV,doc,pm,an,cdv,ct,osl,rfl,l,c⟩,k⟩
end
theorem fy {n:Nat} (h:n<=1000):n < sizeLine:=Nat.lt_of_le_of_lt h (by decide)
section
variable {X:Cx}
theorem pv (i:Nat) {x:Str} {pos:Pos} (hN:X.N[i]?=some x:=by rfl) (hv:Vis X.env.scope x:=by first | exact Or.inl rfl | exact Or.inr (Or.inl rfl) | exact Or.inr (Or.inr rfl)) (hd:(x == ("__debug__" : Str))=false:=by decide)
   (hcd:(x == ("__classdict__" : Str))=false:=by decide):PE X (.Name x pos) (qi i):=di hN hv hd hcd
end
theorem jQ {A B:Prop} (h:B):if false=true then A else B:=by
 rw [if_neg Bool.false_ne_true]
 exact h
theorem ie {A B:Prop} (h:A):if true=true then A else B:=by
 rw [if_pos rfl]
 exact h
noncomputable def ag (H H':Hp):Prop:=∀ b o,H b=some o->H' b=some o
theorem ag.refl (H:Hp):ag H H:=λ_ _ h=>h
theorem ag.trans {H H1 H2:Hp} (a:ag H H1) (b:ag H1 H2):ag H H2:=λc o h=>b c o (a c o h)
theorem ag.free {H H':Hp} (e:ag H H') {l:Addr} (h:H' l=Option.none):H l=Option.none:=by
 cases q:H l with
 | none=>rfl
 | some o=>
   rw [e l o q] at h
   cases h
theorem ag.seq {K:PySem.W.Frag} {H H':Hp} {a:Addr} {xs:List V} (e:ag H H') (h:SqL K H a xs):SqL K H' a xs:=by
 rcases h with (h | ⟨o,h⟩) | h
 · exact .inl (.inl (e _ _ h))
 · exact .inl (.inr ⟨o,e _ _ h⟩)
 · exact .inr h
end L2
set_option linter.all false
set_option maxRecDepth 100000
namespace Hx
open PySem PySem.Spec PyProof.Rows
section
variable {M:Model} {A:Around} {E:Value->Shared->Prop} {s:Shared}
end
end Hx
namespace Hx
open PySem PySem.Spec PySem.Calls PyProof.Rows PySem.W
section
variable {prog:Program} {w:World} {A:Around} {E:Value->Shared->Prop} {s:Shared} {K:Frag} {x D:Addr} {ox:Obj}
end
end Hx
namespace Hx
open PySem PySem.Spec PySem.Calls PyProof.Rows PySem.W L2
section
variable {X:Cx} {x:Str} {C S:Addr} {np cpos pos:Pos} {e:Expr} {es:List Expr} {t:TA}
end
section
variable {fs fs' ch:List Addr} {H H1:Hp} {h h1 h2:Heap} {old:Addr->Prop} {P:Program} {w:World} {a:Addr}
end
theorem there {P:Program} {w:World} {H:Hp} {h:Heap} {a:Addr} {o:HO} (x:bF P w H h a o):∃ u,h.get? a=some u:=by
 cases o with
 | lst xs=>obtain ⟨_,_,_,_,e⟩:=x; exact ⟨_,e⟩
 | tup xs=>obtain ⟨_,_,_,o,e,_⟩:=x; exact ⟨_,e⟩
 | dK kvs=>obtain ⟨_,_,_,_,o,_,_,e,_⟩:=x; exact ⟨_,e⟩
 | dT kvs=>obtain ⟨_,_,_,_,o,_,_,e,_⟩:=x; exact ⟨_,e⟩
 | set S n=>obtain ⟨o,_,_,_,e,_⟩:=x; exact ⟨_,e⟩
 | ins C dx fs=>obtain ⟨_,_,_,e,_⟩:=x; exact ⟨_,e⟩
 | own y=>exact x
 | xd fs=>obtain ⟨_,⟨o,_,_,e,_⟩,_⟩:=x; exact ⟨_,e⟩
 | met f y=>exact ⟨_,x⟩
 | rng lo hi=>obtain ⟨_,_,_,e⟩:=x; exact ⟨_,e⟩
 | frz o u=>exact ⟨_,x.1⟩
 | tbl ps=>exact ⟨_,x⟩
 | ext φ=>exact x.2.1
section
variable {P:Program} {w:World} {K:Frag} {mg:Str->Option Value} {base:Heap} {N:List Str} {qual:Str} {scope:Scope} {f:Addr} {cd:Value} {A:Around} {outer:List Env} {s0:Shared} {H0:Hp} {E:XK} {cl:Nat->Addr}
end
section
variable {X:Cx} {pins:List (Addr × Obj)} {σ:L2.St} {H:Hp} {s:Shared} {a:Addr}
noncomputable abbrev XP (X:Cx) (pins:List (Addr × Obj)) (E:Value->Shared->Prop):Cx:={ X with pn:=X.pn++pins,xe:=E }
theorem pI {E:Value->Shared->Prop} (ok:X.Ok):(XP X pins E).Ok:=⟨ok.mod,ok.kind,ok.glob,ok.blt,ok.above,ok.inj,ok.has,ok.cab,ok.hd,ok.frames,ok.stk,ok.exf,ok.bs,ok.bsz,ok.noex,ok.exfs,ok.dD,ok.frf⟩
theorem nP {E:Value->Shared->Prop} (I:Inv X pins σ H s):Inv (XP X pins E) [] σ H s:=⟨pI I.ok,I.os,I.bare,I.base,I.loc,I.cell,I.free,I.freeC,λp hp=>I.pin p (by simpa using hp),I.hok,I.len⟩
theorem cK {E:Value->Shared->Prop} {pl:List (Addr × Obj)} (ok:X.Ok) (I:Inv (XP X pins E) pl σ H s):Inv X pins σ H s:=⟨ok,I.os,I.bare,I.base,I.loc,I.cell,I.free,I.freeC,λp hp=>I.pin p (List.mem_append_left _ hp),I.hok,I.len⟩
theorem lY {E:Value->Shared->Prop} {D:Ends} {f:Flow} (ok:X.Ok) (h:SP (XP X pins E) [] D f s):SP X pins D f s:=by
 cases f with
 | next=>obtain ⟨σ',H',I,q⟩:=h; exact ⟨σ',H',cK ok I,q⟩
 | brk=>obtain ⟨σ',H',I,q⟩:=h; exact ⟨σ',H',cK ok I,q⟩
 | cont=>obtain ⟨σ',H',I,q⟩:=h; exact ⟨σ',H',cK ok I,q⟩
 | ret u=>obtain ⟨v,σ',H',I,r,q⟩:=h; exact ⟨v,σ',H',cK ok I,r,q⟩
end
section
variable {X:Cx} {cl:Nat->Addr} {ks:List Nat} {n sm:Str} {i:Nat} {S:Addr} {ret:Expr} {psm pr ph pos:Pos} {body:List Stmt} {tb:(Nat->Hp->Prop)->TS} {tr:Addr->Obj->TE}
end
end Hx
namespace Ev
open PySem PySem.Spec PyProof.Rows L2
structure Bx where
 p:PySem.W.Frag->Hp->Addr->Prop
 mono:∀ {K:PySem.W.Frag} {H H':Hp} {a:Addr},ag H H'->p K H a->p K H' a
 isd:∀ {K:PySem.W.Frag} {H:Hp} {a:Addr},p K H a->∃ o:HO,H a=some o/\∀ (P:Program) (w:World) (H':Hp) (h:Heap),bF P w H' h a o->∃ ob,h.get? a=some ob/\ob.cls=.type "dict"
inductive D where
 | non | bl (b:Bool) | int (i:Int) | str (x:Str) | tup (xs:List D) | lst (xs:List D) | box (x:Bx)
noncomputable instance:Inhabited D:=⟨.non⟩
mutual
inductive Den (K:PySem.W.Frag) (H:Hp):V->D->Prop where
 | non:Den K H .non .non
 | bl {b:Bool}:Den K H (.bl b) (.bl b)
 | int {i:Int}:Den K H (.int i) (.int i)
 | str {x:Str}:Den K H (.str x) (.str x)
 | tup {a:Addr} {vs:List V} {ds:List D} (h:SqT K H a vs) (r:aq K H vs ds):Den K H (.ref a) (.tup ds)
 | lst {a:Addr} {vs:List V} {ds:List D} (h:SqL K H a vs) (r:aq K H vs ds):Den K H (.ref a) (.lst ds)
 | box {a:Addr} {x:Bx} (h:x.p K H a):Den K H (.ref a) (.box x)
inductive aq (K:PySem.W.Frag) (H:Hp):List V->List D->Prop where
 | nil:aq K H [] []
 | cons {v:V} {d:D} {vs:List V} {ds:List D} (h:Den K H v d) (r:aq K H vs ds):aq K H (v :: vs) (d :: ds)
end
section
variable {K:PySem.W.Frag} {H H':Hp}
theorem aP (e:ag H H') {a:Addr} {xs:List V} (h:SqT K H a xs):SqT K H' a xs:=by
 rcases h with (h | ⟨o,h⟩) | h
 · exact .inl (.inl (e _ _ h))
 · exact .inl (.inr ⟨o,e _ _ h⟩)
 · exact .inr h
theorem ay (e:ag H H') {a:Addr} {xs:List V} (h:SqL K H a xs):SqL K H' a xs:=e.seq h
mutual
theorem Den.mono (e:ag H H'):∀ {v:V} {d:D},Den K H v d->Den K H' v d
 | _,_,.non=>.non
 | _,_,.bl=>.bl
 | _,_,.int=>.int
 | _,_,.str=>.str
 | _,_,.tup h r=>.tup (aP e h) (aq.mono e r)
 | _,_,.lst h r=>.lst (ay e h) (aq.mono e r)
 | _,_,.box (x:=x) h=>.box (x.mono e h)
theorem aq.mono (e:ag H H'):∀ {vs:List V} {ds:List D},aq K H vs ds->aq K H' vs ds
 | _,_,.nil=>.nil
 | _,_,.cons h r=>.cons (Den.mono e h) (aq.mono e r)
end
theorem aq.length:∀ {vs:List V} {ds:List D},aq K H vs ds->vs.length=ds.length
 | _,_,.nil=>rfl
 | _,_,.cons _ r=>congrArg (· + 1) r.length
theorem aq.get:∀ {vs:List V} {ds:List D} {i:Nat} {d:D},aq K H vs ds->ds[i]?=some d->∃ v,vs[i]?=some v/\Den K H v d
 | _,_,_,_,.nil,e=>by simp at e
 | _,_,0,_,.cons h _,e=>by simp at e; subst e; exact ⟨_,rfl,h⟩
 | _,_,i + 1,d,.cons _ r,e=>by
   obtain ⟨v,h1,h2⟩:=aq.get (i:=i) (d:=d) r (by simpa using e)
   exact ⟨v,by simpa using h1,h2⟩
theorem aq.append:∀ {xs ys:List V} {ds es:List D},aq K H xs ds->aq K H ys es->aq K H (xs++ys) (ds++es)
 | _,_,_,_,.nil,s=>s
 | _,_,_,_,.cons h r,s=>.cons h (aq.append r s)
theorem aq.take:∀ {xs:List V} {ds:List D} (n:Nat),aq K H xs ds->aq K H (xs.take n) (ds.take n)
 | _,_,0,_=>.nil
 | _,_,_ + 1,.nil=>.nil
 | _,_,n + 1,.cons h r=>.cons h (aq.take n r)
theorem aq.drop:∀ {xs:List V} {ds:List D} (n:Nat),aq K H xs ds->aq K H (xs.drop n) (ds.drop n)
 | _,_,0,r=>r
 | _,_,_ + 1,.nil=>.nil
 | _,_,n + 1,.cons _ r=>aq.drop n r
end
noncomputable def aG (i j:Int):Prop:=i.natAbs.log2 < 64\/j.natAbs.log2 < 64\/(i.natAbs.log2 < 1000000/\j.natAbs.log2 < 1000000)
noncomputable def aE (j:Int):Prop:=j ≠ 0/\j.natAbs.log2 < 9000
theorem aj {H:Hp} {p:Addr} (h:H p=none) (o:HO):ag H (upd H p o):=λb u q=>by rw [ak (aw q h)]; exact q
noncomputable def Ite (K:PySem.W.Frag) (a:Addr):L2.It:=
 ⟨λi H=>∃ xs x,SqL K H a xs/\xs[i]?=some x,λi H v H'=>∃ p x,H p=none/\v=.ref p/\H'=upd H p (.tup [.int (i:Nat),x])/\∀ xs,SqL K H a xs->xs[i]?=some x,λi H=>∃ xs,SqL K H a xs/\xs.length<=i⟩
theorem jT {P:Program} {w:World} {K:PySem.W.Frag} {ts:List Expr} {q:Nat} {tp:Pos} (a e it:Addr) (hne:e ≠ it) :
   Turn P w K false (.Tuple ts q tp) (Ite K a) [e,it] e (λi h=>(∃ old,IsEnum h e it (i:Nat) old)/\h.IsListIter it a i) where
 mem:=by simp
 obj:=λi h st b hb=>by
   obtain ⟨⟨old,h1⟩,o,h2,h3,h4⟩:=st
   rcases List.mem_cons.mp hb with rfl | hb
   · exact ⟨_,h1,λv z=>nomatch z⟩
   · have z:b=it:=by simpa using hb
     subst z
     exact ⟨o,h2,λv z=>by rw [h4] at z; cases z⟩
 keep:=λi h h' st k=>by
   obtain ⟨⟨old,h1⟩,o,h2,h3,h4⟩:=st
   exact ⟨⟨old,k e (by simp) _ h1⟩,o,k it (by simp) o h2,h3,h4⟩
 item:=by
   intro X hP hw hK hc i pins s σ H E I hf st hg
   subst hP hw hK
   obtain ⟨xs,x,hq,hx⟩:=hg
   obtain ⟨its,rv,p,hz⟩:=I.list hq
   obtain ⟨u,hu,ru⟩:=rv.get hx
   obtain ⟨⟨old,h1⟩,h2⟩:=st
   have fe:=hf e (by simp)
   have fi:=hf it (by simp)
   refine wpAny_pyNext_enum_item h1 h2 p.isList (x:=u) (by simpa using hu) hne λh' g1 g2 g3 g4 g5=>⟨_,rfl,?_⟩
   refine wpAny_letOwnedTupleGo_enum (s:={ s with heap:=h',toks:=s.toks + 1 }) g1 λh2' k1 k2=>?_
   have hn:H s.heap.objs.size=none:=I.hok.fresh (Nat.le_refl _)
   have le1:e < s.heap.objs.size:=Heap.lt_size h1
   have le2:it < s.heap.objs.size:=by obtain ⟨o,z,_⟩:=h2; exact Heap.lt_size z
   have kp:∀ b o,b ≠ e->b ≠ it->s.heap.get? b=some o->h2'.get? b=some o:=λb o b1 b2 z=>(k2.2 b b1).trans (g5 b o b1 b2 z)
   have nt:h2'.get? s.heap.objs.size=some { cls:=.type "tuple",data:=.seq #[.int (i:Nat) s.toks,u] }:=(k2.2 _ (Nat.ne_of_gt le1)).trans g3
   have ne1:∀ b v,H b=some v->b ≠ e:=λb v z q=>by rw [q,fe.1] at z; cases z
   have ne2:∀ b v,H b=some v->b ≠ it:=λb v z q=>by rw [q,fi.1] at z; cases z
   have hok0:HOk X.prog X.w H h2':=λb v z=>(I.hok b v z).d0 (λc v' hc' q=>kp c v' (by
       rcases hc' with hc' | hc'
       · rw [hc']; exact ne1 b v z
       · exact ne1 c _ hc') (by
       rcases hc' with hc' | hc'
       · rw [hc']; exact ne2 b v z
       · exact ne2 c _ hc') q) (λ_ q=>q) λ_ _ q=>q
   have hok1:HOk X.prog X.w (upd H s.heap.objs.size (.tup [.int (i:Nat),x])) h2':=λb v z=>by
     by_cases hb:b=s.heap.objs.size
     · subst hb
       rw [aF] at z; cases z
       exact ⟨(by show 2<=sizeLine; decide),[.int (i:Nat) s.toks,u],.cons ⟨_,rfl⟩ (.cons ru .nil),_,nt,rfl,_,rfl⟩
     · rw [ak hb] at z
       exact (hok0 b v z).d0 (λc v' _ q=>q) (λc q=>by rw [ak (aw q hn)]; exact q) λc ys q=>by rw [ak (aw q hn)]; exact q
   have I1:Inv X pins σ (upd H s.heap.objs.size (.tup [.int (i:Nat),x])) { s with heap:=h2',toks:=s.toks + 1 }:=by
     refine I.step (g':=s.gens) (d':=s.drawn) (ch:=[e,it]) (λb hb=>?_) (λb o _ _ hc' z _=>kp b o (λq=>hc' (by simp [q])) (λq=>hc' (by simp [q])) z)
       (λb o _ _ hc' z _=>⟨o.slots,kp b o (λq=>hc' (by simp [q])) (λq=>hc' (by simp [q])) z⟩)
       (λb o hc' z n=>by rw [ak (Nat.ne_of_lt (Heap.lt_size z))]; exact n) (λb o hc' z=>⟨o,kp b o (λq=>hc' (by simp [q])) (λq=>hc' (by simp [q])) z⟩)
       (λb ys z=>by rw [ak (aw z hn)]; exact z) (λb o u z=>by rw [ak (aw z hn)]; exact z) (λb ps z=>⟨#[],by rw [ak (aw z hn),z]; simp⟩) (λm hm=>?_) hok1 I.bare
     · rcases List.mem_cons.mp hb with rfl | hb
       · exact ⟨fe.2.2.2.1,fe.2.1,fe.2.2.2.2.1,fe.2.2.2.2.2⟩
       · have z:b=it:=by simpa using hb
         subst z
         exact ⟨fi.2.2.2.1,fi.2.1,fi.2.2.2.2.1,fi.2.2.2.2.2⟩
     · obtain ⟨o,es,ep,ho,r⟩:=hm
       exact ⟨o,es,ep,kp _ o (Ne.symm fe.2.1) (Ne.symm fi.2.1) ho,r⟩
   refine ⟨.ref s.heap.objs.size,_,I1,rfl,⟨s.heap.objs.size,x,hn,rfl,rfl,λys hy=>by rw [I.cW hy hq]; exact hx⟩,⟨⟨_,k1⟩,?_⟩,λb hb=>?_⟩
   · obtain ⟨o,z1,z2,z3⟩:=g2
     exact ⟨o,(k2.2 it (Ne.symm hne)).trans z1,z2,z3⟩
   · rcases List.mem_cons.mp hb with rfl | hb
     · rw [ak (Nat.ne_of_lt le1)]; exact fe.1
     · have z:b=it:=by simpa using hb
       subst z
       rw [ak (Nat.ne_of_lt le2)]; exact fi.1
 done:=by
   intro X hP hw hK hc i pins s σ H E I hf st hg
   subst hP hw hK
   obtain ⟨xs,hq,hx⟩:=hg
   obtain ⟨its,rv,p,hz⟩:=I.list hq
   obtain ⟨⟨old,h1⟩,h2⟩:=st
   obtain ⟨f0,f1,f2,f3,f4,f5⟩:=hf it (by simp)
   have hl:=rv.length
   exact wpAny_pyNext_enum_end (I.ok.hd hc.calm) h1 h2 p.isList (by simp; omega) λh' eb=>⟨rfl,I.turned (t':=s.toks) (λb o hb z=>eb b o hb z) f0 f1 f3 f4 f5⟩
 self:=λ_ _ _ _ _ st h=>by
   obtain ⟨⟨old,h1⟩,_⟩:=st
   exact wpAny_pyIter_enum h1 h
section
variable {X:Cx}
noncomputable def pV (K:PySem.W.Frag) (ta:TA):TI:=λσ H R=>ta σ H λvs H1=>∃ a,vs=[.ref a]/\(∃ xs,SqL K H1 a xs)/\R (Ite K a) H1
theorem jN:bootBuiltins "enumerate" = some (.type "enumerate"):=by decide +kernel
theorem i7 {ts:List Expr} {q:Nat} {tp:Pos} {a:Expr} {ta:TA} {p pos:Pos} (hc:X.calm=true) (hg:Gl X "enumerate") (hm:X.mg "enumerate" = none) (ha:PA X [a] ta) (hs:starEach [a] X.env=[(false,eval a X.env)]) :
   PI X (.Tuple ts q tp) (.Call (.Name "enumerate" p) [a] [] pos) (pV X.K ta):=by
 intro pins s σ H R I h
 refine Call_ (df I hg hm jN (PyProof.Rows.callWith_type1 (thn (ha pos pins s σ H _ I h) λus s1 ⟨vs,H1,I1,r1,q1⟩=>?_) hs rfl))
 obtain ⟨l,e,⟨xs,hq⟩,q⟩:=q1
 subst e
 obtain ⟨u,rfl,ru⟩:=vals1 r1
 cases ru
 obtain ⟨its,rv,pl,hz⟩:=I1.list hq
 refine call_enumerate_list pl.isList λh' g1 g2 g3 g4=>?_
 refine wpAny_pyIter_enum (s:={ s1 with heap:=h' }) g1 ?_
 have I2:Inv X pins σ H1 { s1 with heap:=h' }:=I1.kept (t':=s1.toks) g4
 have n1:H1 (s1.heap.objs.size + 1)=none:=I1.hok.fresh (by omega)
 have n2:H1 s1.heap.objs.size=none:=I1.hok.fresh (Nat.le_refl _)
 refine ⟨false,s1.heap.objs.size + 1,[s1.heap.objs.size + 1,s1.heap.objs.size],_,_,H1,rfl,I2,.inl hc,jT l (s1.heap.objs.size + 1) s1.heap.objs.size (Nat.succ_ne_self _),⟨⟨_,g1⟩,g2⟩,λb hb=>?_,q⟩
 rcases List.mem_cons.mp hb with rfl | hb
 · exact I1.jA (by omega) n1
 · have z:b=s1.heap.objs.size:=by simpa using hb
   subst z
   exact I1.jA (Nat.le_refl _) n2
end
noncomputable def Itz (K:PySem.W.Frag) (a b:Addr):L2.It:=
 ⟨λi H=>∃ xs ys x y,SqL K H a xs/\SqL K H b ys/\xs[i]?=some x/\ys[i]?=some y,
  λi H v H'=>∃ p x y,H p=none/\v=.ref p/\H'=upd H p (.tup [x,y])/\(∀ xs,SqL K H a xs->xs[i]?=some x)/\∀ ys,SqL K H b ys->ys[i]?=some y,
  λi H=>∃ xs ys,SqL K H a xs/\SqL K H b ys/\(xs.length<=i\/ys.length<=i)⟩
noncomputable def zSt (a b z TI TO i1 i2:Addr) (i:Nat) (h:Heap):Prop:=
 IsZip h z TI TO .none/\IsPair h TI (.ref i1) (.ref i2)/\(∃ u v,IsPair h TO u v)/\h.IsListIter i1 a i/\h.IsListIter i2 b i
theorem fJ {h:Heap} {a b z TI TO i1 i2:Addr} {i:Nat} {xs ys:Array Value} (n:TI ≠ TO) (m:i1 ≠ i2) (s:zSt a b z TI TO i1 i2 i h) (l1:h.IsList a xs) (l2:h.IsList b ys):ZipApart z TI TO i1 i2 a b:=by
 obtain ⟨h1,h2,⟨u,v,h3⟩,⟨o4,h4,c4,d4⟩,⟨o5,h5,c5,d5⟩⟩:=s
 obtain ⟨o6,h6,c6,n6,d6⟩:=l1
 obtain ⟨o7,h7,c7,n7,d7⟩:=l2
 have kk:∀ {x y:Addr} {o p:Obj},h.get? x=some o->h.get? y=some p->o.cls ≠ p.cls->x ≠ y:=λe1 e2 c q=>by subst q; rw [e1] at e2; cases e2; exact c rfl
 have cz:∀ {s t:String},s ≠ t->Value.type s ≠ Value.type t:=λn q=>n (by cases q; rfl)
 refine ⟨kk h2 h1 (cz (by decide)),kk h3 h1 (cz (by decide)),kk h4 h1 ?_,kk h5 h1 ?_,n,kk h2 h4 ?_,kk h2 h5 ?_,kk h3 h4 ?_,kk h3 h5 ?_,m,kk h6 h1 ?_,kk h6 h3 ?_,kk h6 h4 ?_,kk h6 h5 ?_,kk h7 h1 ?_,kk h7 h3 ?_,kk h7 h4 ?_,kk h7 h5 ?_⟩
 all_goals first | (rw [c4]; exact cz (by decide)) | (rw [c5]; exact cz (by decide)) | (rw [c6]; exact cz (by decide)) | (rw [c7]; exact cz (by decide)) | (rw [c6,c4]; exact cz (by decide)) | (rw [c6,c5]; exact cz (by decide)) | (rw [c7,c4]; exact cz (by decide)) | (rw [c7,c5]; exact cz (by decide))
theorem kY {P:Program} {w:World} {K:PySem.W.Frag} {ts:List Expr} {q:Nat} {tp:Pos} (a b z TI TO i1 i2:Addr) (nT:TI ≠ TO) (nI:i1 ≠ i2) :
   Turn P w K false (.Tuple ts q tp) (Itz K a b) [z,TI,TO,i1,i2] z (zSt a b z TI TO i1 i2) where
 mem:=by simp
 obj:=λi h st c hb=>by
   obtain ⟨h1,h2,⟨u,v,h3⟩,⟨o4,h4,c4,d4⟩,⟨o5,h5,c5,d5⟩⟩:=st
   simp only [List.mem_cons,List.not_mem_nil,or_false] at hb
   rcases hb with rfl | rfl | rfl | rfl | rfl
   · exact ⟨_,h1,λv z=>nomatch z⟩
   · exact ⟨_,h2,λv z=>nomatch z⟩
   · exact ⟨_,h3,λv z=>nomatch z⟩
   · exact ⟨_,h4,λv z=>by rw [d4] at z; cases z⟩
   · exact ⟨_,h5,λv z=>by rw [d5] at z; cases z⟩
 keep:=λi h h' st k=>by
   obtain ⟨h1,h2,⟨u,v,h3⟩,⟨o4,h4,c4,d4⟩,⟨o5,h5,c5,d5⟩⟩:=st
   exact ⟨k z (by simp) _ h1,k TI (by simp) _ h2,⟨u,v,k TO (by simp) _ h3⟩,⟨o4,k i1 (by simp) _ h4,c4,d4⟩,⟨o5,k i2 (by simp) _ h5,c5,d5⟩⟩
 item:=by
   intro X hP hw hK hc i pins s σ H E I hf st hg
   subst hP hw hK
   obtain ⟨xs,ys,x,y,hq1,hq2,hx,hy⟩:=hg
   obtain ⟨its1,rv1,p1,hz1⟩:=I.list hq1
   obtain ⟨its2,rv2,p2,hz2⟩:=I.list hq2
   obtain ⟨u1,hu1,ru1⟩:=rv1.get hx
   obtain ⟨u2,hu2,ru2⟩:=rv2.get hy
   have D:=fJ nT nI st p1.isList p2.isList
   obtain ⟨h1,h2,⟨u,v,h3⟩,h4,h5⟩:=st
   refine wpAny_pyNext_zip_item D h1 h2 h3 h4 h5 p1.isList p2.isList (x:=u1) (y:=u2) (by simpa using hu1) (by simpa using hu2) λh' g1 g2 g3 g4 g5 g6 g7=>⟨_,rfl,?_⟩
   refine wpAny_letOwnedTupleGo_zip (s:={ s with heap:=h' }) g1 λh2' k1 k2=>?_
   have hn:H s.heap.objs.size=none:=I.hok.fresh (Nat.le_refl _)
   have le1:z < s.heap.objs.size:=Heap.lt_size h1
   have lt2:TI < s.heap.objs.size:=Heap.lt_size h2
   have lt3:TO < s.heap.objs.size:=Heap.lt_size h3
   have lt4:i1 < s.heap.objs.size:=by obtain ⟨o,z,_⟩:=h4; exact Heap.lt_size z
   have lt5:i2 < s.heap.objs.size:=by obtain ⟨o,z,_⟩:=h5; exact Heap.lt_size z
   have kp:∀ c o,c ≠ z->c ≠ TO->c ≠ i1->c ≠ i2->s.heap.get? c=some o->h2'.get? c=some o:=λc o b1 b2 b3 b4 e=>(k2.2 c b1).trans (g7 c o b1 b2 b3 b4 e)
   have nt:IsPair h2' s.heap.objs.size u1 u2:=(k2.2 _ (Nat.ne_of_gt le1)).trans g5
   have ne:∀ c,c ∈ [z,TI,TO,i1,i2]->∀ d v,H d=some v->d ≠ c:=λc hc d v e q=>by
     have:=(hf c hc).1
     rw [q,this] at e; cases e
   have hok0:HOk X.prog X.w H h2':=λd v e=>(I.hok d v e).d0 (λc v' hc' q=>kp c v'
       (by rcases hc' with hc' | hc'
           · rw [hc']; exact ne z (by simp) d v e
           · exact ne z (by simp) c _ hc')
       (by rcases hc' with hc' | hc'
           · rw [hc']; exact ne TO (by simp) d v e
           · exact ne TO (by simp) c _ hc')
       (by rcases hc' with hc' | hc'
           · rw [hc']; exact ne i1 (by simp) d v e
           · exact ne i1 (by simp) c _ hc')
       (by rcases hc' with hc' | hc'
           · rw [hc']; exact ne i2 (by simp) d v e
           · exact ne i2 (by simp) c _ hc') q) (λ_ q=>q) λ_ _ q=>q
   have hok1:HOk X.prog X.w (upd H s.heap.objs.size (.tup [x,y])) h2':=λd v e=>by
     by_cases hb:d=s.heap.objs.size
     · subst hb
       rw [aF] at e; cases e
       exact ⟨(by show 2<=sizeLine; decide),[u1,u2],.cons ru1 (.cons ru2 .nil),_,nt,rfl,_,rfl⟩
     · rw [ak hb] at e
       exact (hok0 d v e).d0 (λc v' _ q=>q) (λc q=>by rw [ak (aw q hn)]; exact q) λc ys q=>by rw [ak (aw q hn)]; exact q
   have I1:Inv X pins σ (upd H s.heap.objs.size (.tup [x,y])) { s with heap:=h2' }:=by
     refine I.step (t':=s.toks) (g':=s.gens) (d':=s.drawn) (ch:=[z,TO,i1,i2]) (λc hb=>?_) (λc o _ _ hc' e _=>kp c o (λq=>hc' (by simp [q])) (λq=>hc' (by simp [q])) (λq=>hc' (by simp [q])) (λq=>hc' (by simp [q])) e)
       (λc o _ _ hc' e _=>⟨o.slots,kp c o (λq=>hc' (by simp [q])) (λq=>hc' (by simp [q])) (λq=>hc' (by simp [q])) (λq=>hc' (by simp [q])) e⟩)
       (λc o hc' e n=>by rw [ak (Nat.ne_of_lt (Heap.lt_size e))]; exact n) (λc o hc' e=>⟨o,kp c o (λq=>hc' (by simp [q])) (λq=>hc' (by simp [q])) (λq=>hc' (by simp [q])) (λq=>hc' (by simp [q])) e⟩)
       (λc ys e=>by rw [ak (aw e hn)]; exact e) (λc o u e=>by rw [ak (aw e hn)]; exact e) (λc ps e=>⟨#[],by rw [ak (aw e hn),e]; simp⟩) (λm hm=>?_) hok1 I.bare
     · have hb':c ∈ [z,TI,TO,i1,i2]:=by
         simp only [List.mem_cons,List.not_mem_nil,or_false] at hb ⊢
         rcases hb with h | h | h | h <;> simp [h]
       have fe:=hf c hb'
       exact ⟨fe.2.2.2.1,fe.2.1,fe.2.2.2.2.1,fe.2.2.2.2.2⟩
     · obtain ⟨o,es,ep,ho,r⟩:=hm
       exact ⟨o,es,ep,kp _ o (Ne.symm (hf z (by simp)).2.1) (Ne.symm (hf TO (by simp)).2.1) (Ne.symm (hf i1 (by simp)).2.1) (Ne.symm (hf i2 (by simp)).2.1) ho,r⟩
   refine ⟨.ref s.heap.objs.size,_,I1,rfl,⟨s.heap.objs.size,x,y,hn,rfl,rfl,λzs hy'=>by rw [I.cW hy' hq1]; exact hx,λzs hy'=>by rw [I.cW hy' hq2]; exact hy⟩,⟨k1,?_,⟨u1,u2,(k2.2 TO D.TOz).trans g2⟩,?_,?_⟩,λc hb=>?_⟩
   · exact kp TI _ D.TIz D.TITO D.TIi1 D.TIi2 h2
   · obtain ⟨o,z1,z2,z3⟩:=g3
     exact ⟨o,(k2.2 i1 D.i1z).trans z1,z2,z3⟩
   · obtain ⟨o,z1,z2,z3⟩:=g4
     exact ⟨o,(k2.2 i2 D.i2z).trans z1,z2,z3⟩
   · have fc:=(hf c hb).1
     have lt:c < s.heap.objs.size:=by
       simp only [List.mem_cons,List.not_mem_nil,or_false] at hb
       rcases hb with rfl | rfl | rfl | rfl | rfl <;> assumption
     rw [ak (Nat.ne_of_lt lt)]
     exact fc
 done:=by
   intro X hP hw hK hc i pins s σ H E I hf st hg
   subst hP hw hK
   obtain ⟨xs,ys,hq1,hq2,hx⟩:=hg
   obtain ⟨its1,rv1,p1,hz1⟩:=I.list hq1
   obtain ⟨its2,rv2,p2,hz2⟩:=I.list hq2
   have D:=fJ nT nI st p1.isList p2.isList
   obtain ⟨h1,h2,⟨u,v,h3⟩,h4,h5⟩:=st
   have hl1:=rv1.length
   have hl2:=rv2.length
   refine wpAny_pyNext_zip_end (I.ok.hd hc.calm) D h1 h2 h3 h4 h5 p1.isList p2.isList (by
     rcases hx with hx | hx
     · left; simp; omega
     · right; simp; omega) λh' eb=>⟨rfl,?_⟩
   have ne:∀ c,c ∈ [z,TI,TO,i1,i2]->∀ d v,H d=some v->d ≠ c:=λc hc d v e q=>by
     have:=(hf c hc).1
     rw [q,this] at e; cases e
   have hok0:HOk X.prog X.w H h':=λd v e=>(I.hok d v e).d0 (λc v' hc' q=>eb c v'
       (by rcases hc' with hc' | hc'
           · rw [hc']; exact ne z (by simp) d v e
           · exact ne z (by simp) c _ hc')
       (by rcases hc' with hc' | hc'
           · rw [hc']; exact ne TO (by simp) d v e
           · exact ne TO (by simp) c _ hc')
       (by rcases hc' with hc' | hc'
           · rw [hc']; exact ne i1 (by simp) d v e
           · exact ne i1 (by simp) c _ hc')
       (by rcases hc' with hc' | hc'
           · rw [hc']; exact ne i2 (by simp) d v e
           · exact ne i2 (by simp) c _ hc') q) (λ_ q=>q) λ_ _ q=>q
   refine I.step (t':=s.toks) (g':=s.gens) (d':=s.drawn) (ch:=[z,TO,i1,i2]) (λc hb=>?_) (λc o _ _ hc' e _=>eb c o (λq=>hc' (by simp [q])) (λq=>hc' (by simp [q])) (λq=>hc' (by simp [q])) (λq=>hc' (by simp [q])) e)
       (λc o _ _ hc' e _=>⟨o.slots,eb c o (λq=>hc' (by simp [q])) (λq=>hc' (by simp [q])) (λq=>hc' (by simp [q])) (λq=>hc' (by simp [q])) e⟩)
       (λc o hc' e n=>n) (λc o hc' e=>⟨o,eb c o (λq=>hc' (by simp [q])) (λq=>hc' (by simp [q])) (λq=>hc' (by simp [q])) (λq=>hc' (by simp [q])) e⟩)
       (λc ys e=>e) (λc o u e=>e) (λc ps e=>⟨#[],by rw [e]; simp⟩) (λm hm=>?_) hok0 I.bare
   · have hb':c ∈ [z,TI,TO,i1,i2]:=by
       simp only [List.mem_cons,List.not_mem_nil,or_false] at hb ⊢
       rcases hb with h | h | h | h <;> simp [h]
     have fe:=hf c hb'
     exact ⟨fe.2.2.2.1,fe.2.1,fe.2.2.2.2.1,fe.2.2.2.2.2⟩
   · obtain ⟨o,es,ep,ho,r⟩:=hm
     exact ⟨o,es,ep,eb _ o (Ne.symm (hf z (by simp)).2.1) (Ne.symm (hf TO (by simp)).2.1) (Ne.symm (hf i1 (by simp)).2.1) (Ne.symm (hf i2 (by simp)).2.1) ho,r⟩
 self:=λ_ _ _ _ _ st h=>wpAny_pyIter_zip st.1 h
section
variable {X:Cx}
noncomputable def nr (K:PySem.W.Frag) (ta:TA):TI:=λσ H R=>ta σ H λvs H1=>∃ a b,vs=[.ref a,.ref b]/\(∃ xs,SqL K H1 a xs)/\(∃ ys,SqL K H1 b ys)/\R (Itz K a b) H1
theorem iV {ts:List Expr} {q:Nat} {tp:Pos} {a b:Expr} {ta:TA} {p pos:Pos} (hc:X.calm=true) (hg:Gl X "zip") (hm:X.mg "zip" = none) (ha:PA X [a,b] ta) (hs:starEach [a,b] X.env=(false,eval a X.env) :: starEach [b] X.env) (hs2:starEach [b] X.env=[(false,eval b X.env)]) :
   PI X (.Tuple ts q tp) (.Call (.Name "zip" p) [a,b] [] pos) (nr X.K ta):=by
 intro pins s σ H R I h
 refine Call_ (df I hg hm boot_zip (PyProof.Rows.callWith_type1 (thn (ha pos pins s σ H _ I h) λus s1 ⟨vs,H1,I1,r1,q1⟩=>?_) hs (by rw [hs2]; rfl)))
 obtain ⟨l,l',e,⟨xs,hq1⟩,⟨ys,hq2⟩,q⟩:=q1
 subst e
 obtain ⟨u,u',rfl,ru,ru'⟩:=vals2 r1
 cases ru
 cases ru'
 obtain ⟨its1,rv1,pl1,hz1⟩:=I1.list hq1
 obtain ⟨its2,rv2,pl2,hz2⟩:=I1.list hq2
 refine call_zip_2 pl1.isList pl2.isList λh' g1 g2 g3 g4 g5 g6 g7=>?_
 refine wpAny_pyIter_zip (s:={ s1 with heap:=h' }) g1 ?_
 have I2:Inv X pins σ H1 { s1 with heap:=h' }:=I1.kept (t':=s1.toks) g7
 have nn:∀ j,H1 (s1.heap.objs.size + j)=none:=λj=>I1.hok.fresh (by omega)
 refine ⟨false,s1.heap.objs.size + 4,[s1.heap.objs.size + 4,s1.heap.objs.size + 2,s1.heap.objs.size + 3,s1.heap.objs.size,s1.heap.objs.size + 1],_,_,H1,rfl,I2,.inl hc,kY l l' (s1.heap.objs.size + 4) (s1.heap.objs.size + 2) (s1.heap.objs.size + 3) s1.heap.objs.size (s1.heap.objs.size + 1) (by simp) (Ne.symm (Nat.succ_ne_self _)),⟨g1,g2,⟨_,_,g3⟩,g4,g5⟩,λc hb=>?_,q⟩
 have hb':∃ j,c=s1.heap.objs.size + j:=by
   simp only [List.mem_cons,List.not_mem_nil,or_false] at hb
   rcases hb with h | h | h | h | h
   · exact ⟨_,h⟩
   · exact ⟨_,h⟩
   · exact ⟨_,h⟩
   · exact ⟨0,h⟩
   · exact ⟨_,h⟩
 obtain ⟨j,rfl⟩:=hb'
 exact I1.jA (Nat.le_add_right _ _) (nn j)
end
section
variable {X:Cx} {tg:Expr}
end
theorem km:∀ (names:List (Str × NameKind)) (n:Nat) (acc:List (Str × Addr)) (x:Str) (c:Addr),(cellsFrom n names acc).lookup x=some c->n<=c\/acc.lookup x=some c
 | [],_,_,_,_,h=>.inr h
 | (y,k) :: r,n,acc,x,c,h=>by
   unfold cellsFrom at h
   split at h
   · rcases km r (n + 1) _ x c h with q | q
     · exact .inl (by omega)
     · rw [List.lookup_cons] at q
       split at q
       · cases q; exact .inl (Nat.le_refl _)
       · exact .inr q
   · exact km r n acc x c h
theorem dZ:∀ (names:List (Str × NameKind)) (n:Nat) (acc:List (Str × Addr)) (x:Str),(x,NameKind.cell) ∉ names->(cellsFrom n names acc).lookup x=acc.lookup x
 | [],_,_,_,_=>rfl
 | (y,k) :: r,n,acc,x,h=>by
   have h1:(x,NameKind.cell) ∉ r:=λz=>h (List.mem_cons_of_mem _ z)
   unfold cellsFrom
   split
   · rename_i hk
     rw [dZ r _ _ x h1,List.lookup_cons]
     have:(x == y)=false:=by
       rw [beq_eq_false_iff_ne]
       rintro rfl
       exact h (by rw [eq_of_beq hk]; exact List.mem_cons_self)
     rw [this]
   · exact dZ r n acc x h1
theorem fQ:∀ (names:List (Str × NameKind)) (n:Nat) (acc:List (Str × Addr)) (x:Str),(x,NameKind.cell) ∈ names->∃ c,(cellsFrom n names acc).lookup x=some c/\n<=c
 | (y,k) :: r,n,acc,x,h=>by
   unfold cellsFrom
   by_cases hr:(x,NameKind.cell) ∈ r
   · split
     · obtain ⟨c,e,l⟩:=fQ r (n + 1) ((y,n) :: acc) x hr
       exact ⟨c,e,by omega⟩
     · exact fQ r n acc x hr
   · rcases List.mem_cons.mp h with q | q
     · cases q
       rw [if_pos (by rfl),dZ r _ _ _ hr]
       exact ⟨n,by simp [List.lookup_cons],Nat.le_refl _⟩
     · exact absurd q hr
theorem iG:∀ (names:List (Str × NameKind)) (n:Nat) (acc:List (Str × Addr)),(∀ x c,acc.lookup x=some c->c < n)->(∀ x y c,acc.lookup x=some c->acc.lookup y=some c->x=y) ->
   ∀ x y c,(cellsFrom n names acc).lookup x=some c->(cellsFrom n names acc).lookup y=some c->x=y
 | [],_,_,_,h=>h
 | (z,k) :: r,n,acc,hl,h=>by
   unfold cellsFrom
   split
   · refine iG r (n + 1) _ (λx c e=>?_) (λx y c e1 e2=>?_)
     · rw [List.lookup_cons] at e
       split at e
       · cases e; exact Nat.lt_succ_self _
       · exact Nat.lt_succ_of_lt (hl x c e)
     · rw [List.lookup_cons] at e1 e2
       split at e1
       · rename_i q1
         cases e1
         split at e2
         · rename_i q2
           exact (eq_of_beq q1).trans (eq_of_beq q2).symm
         · exact absurd (hl y _ e2) (Nat.lt_irrefl _)
       · split at e2
         · cases e2
           exact absurd (hl x _ e1) (Nat.lt_irrefl _)
         · exact h x y c e1 e2
   · exact iG r n acc hl h
theorem gm:∀ (names:List (Str × NameKind)) (h:Heap) (acc:List (Str × Addr)),(∀ x c,acc.lookup x=some c->∃ v,h.IsCell c v)->∀ x c,(cellsFrom h.objs.size names acc).lookup x=some c->∃ v,(pushCells h names).IsCell c v
 | [],_,_,ha,x,c,e=>ha x c e
 | (z,k) :: r,h,acc,ha,x,c,e=>by
   unfold cellsFrom at e
   unfold pushCells
   split at e
   · rename_i hk
     rw [if_pos hk]
     refine gm r _ ((z,h.objs.size) :: acc) (λy d q=>?_) x c (by rw [Heap.size_push]; exact e)
     rw [List.lookup_cons] at q
     split at q
     · cases q
       exact ⟨none,_,Heap.get?_push_size _ rfl,rfl⟩
     · obtain ⟨v,o,ho,hd⟩:=ha y d q
       exact ⟨v,o,Heap.get?_push_of_some _ ho,hd⟩
   · rename_i hk
     rw [if_neg hk]
     exact gm r h acc ha x c e
noncomputable def bj (env:PySem.Env):List (Str × NameKind)->List (Str × Addr)->List (Str × Addr)
 | [],acc=>acc
 | (n,k) :: r,acc=>if k == .free then (match env.cells.lookup n with | some c=>bj env r ((n,c) :: acc) | none=>bj env r acc) else bj env r acc
theorem eP (env:PySem.Env):∀ (names:List (Str × NameKind)) (acc:List (Str × Addr)),(∀ x ∈ names,x.2=.free->∃ c,env.cells.lookup x.1=some c) ->
   (forIn (m:=Sem) names acc λx cs=>do
     let (name,kind):=x
     if kind == .free then do
       let c <- cellOf env name
       pure (ForInStep.yield ((name,c) :: cs))
     else pure (ForInStep.yield cs))=pure (bj env names acc)
 | [],acc,_=>rfl
 | (n,k) :: r,acc,h=>by
   rw [List.forIn_cons]
   unfold bj
   by_cases hk:(k == .free)=true
   · obtain ⟨c,hc⟩:=h (n,k) List.mem_cons_self (eq_of_beq hk)
     simp only [hk,if_true,cellOf,hc,pure_bind]
     exact eP env r _ λx hx=>h x (List.mem_cons_of_mem _ hx)
   · simp only [hk,Bool.false_eq_true,if_false,pure_bind]
     exact eP env r _ λx hx=>h x (List.mem_cons_of_mem _ hx)
theorem lP {env:PySem.Env} {scope:Scope} (h:∀ x ∈ scope.names,x.2=.free->∃ c,env.cells.lookup x.1=some c):closureFor scope env=pure (bj env scope.names []):=by
 unfold closureFor
 have:=eP env scope.names [] h
 simp only [bind_pure]
 exact this
theorem bU (env:PySem.Env):∀ (names:List (Str × NameKind)) (acc:List (Str × Addr)) (x:Str) (c:Addr),(∀ y d,acc.lookup y=some d->env.cells.lookup y=some d)->(bj env names acc).lookup x=some c->env.cells.lookup x=some c
 | [],_,x,c,ha,h=>ha x c h
 | (n,k) :: r,acc,x,c,ha,h=>by
   unfold bj at h
   split at h
   · split at h
     · rename_i c' hc
       refine bU env r _ x c (λy d q=>?_) h
       rw [List.lookup_cons] at q
       split at q
       · rename_i qq
         cases q
         rw [eq_of_beq qq]; exact hc
       · exact ha y d q
     · exact bU env r acc x c ha h
   · exact bU env r acc x c ha h
theorem bx (env:PySem.Env):∀ (names:List (Str × NameKind)) (acc:List (Str × Addr)) (x:Str) (c:Addr),(∀ y d,acc.lookup y=some d->env.cells.lookup y=some d)->env.cells.lookup x=some c->((x,NameKind.free) ∈ names\/acc.lookup x=some c)->(bj env names acc).lookup x=some c
 | [],_,x,c,_,_,h=>h.elim (λz=>absurd z (by simp)) id
 | (n,k) :: r,acc,x,c,ha,hc,h=>by
   unfold bj
   split
   · split
     · rename_i c' hc'
       refine bx env r _ x c (λy d q=>?_) hc ?_
       · rw [List.lookup_cons] at q
         split at q
         · rename_i qq
           cases q
           rw [eq_of_beq qq]; exact hc'
         · exact ha y d q
       · by_cases q:x=n
         · subst q
           rw [hc] at hc'; cases hc'
           exact .inr (by simp [List.lookup_cons])
         · rcases h with h | h
           · rcases List.mem_cons.mp h with z | z
             · cases z; exact absurd rfl q
             · exact .inl z
           · refine .inr ?_
             rw [List.lookup_cons,beq_eq_false_iff_ne.mpr q]
             exact h
     · rename_i hc'
       refine bx env r acc x c ha hc ?_
       rcases h with h | h
       · rcases List.mem_cons.mp h with z | z
         · cases z; rw [hc] at hc'; cases hc'
         · exact .inl z
       · exact .inr h
   · rename_i hk
     refine bx env r acc x c ha hc ?_
     rcases h with h | h
     · rcases List.mem_cons.mp h with z | z
       · cases z; exact absurd rfl hk
       · exact .inl z
     · exact .inr h
theorem j6 {M:Model} {A:Around} {E:Value->Shared->Prop} {s:Shared} {scope:Scope} {cl:List (Str × Addr)} {env:PySem.Env} {Q:PySem.Env->Shared->Prop}
   (h:Q (newEnv scope s.heap.objs.size env.globals (cellsFrom (s.heap.objs.size + 1) scope.names cl) env.qual none .none (some env) builtinsNs) { s with heap:=pushCells (s.heap.push { cls:=.type "dict",data:=.dict #[] }) scope.names }) :
   wpAny M A (newFunctionEnv scope env.globals cl [] env.qual none .none (some env)) Q E s:=by
 simp only [newFunctionEnv,Option.isSome_some,if_true]
 refine wpAny_bind (wpAny_alloc ?_)
 refine wpAny_bind (wpAny_layCells _ (λname kind cells=>by cases hkc:kind == NameKind.cell <;> simp [hkc]) _ _ _ _ ?_)
 rw [show ({ s with heap:=s.heap.push { cls:=.type "dict",data:=.dict #[] } }:Shared).heap.objs.size=s.heap.objs.size + 1 from Heap.size_push ..]
 exact wpAny_bind (wpAny_pure (wpAny_pure h))
noncomputable def ax (X:Cx) (s:Shared) (H:Hp) (scope:Scope) (N:List Str) (fp:List Addr):Cx:=
 { prog:=X.prog,w:=X.w,K:=X.K,mg:=X.mg,base:=X.base,A:=X.A,N:=N,s₀:=s,H₀:=H
   env:=compEnvC scope (cellsFrom (s.heap.objs.size + 1 + 1) scope.names (bj X.env scope.names [])) (s.heap.objs.size + 1) X.env
   outer:=X.stack,stack:=X.stack,ex:=fp,fn:=λx=>decide ((x,NameKind.cell) ∈ scope.names),calm:=X.calm,pn:=[],xe:=λ_ _=>False }
noncomputable def cg (σ:L2.St) (caps:List (Option Nat)):L2.St:=caps.map λo=>o.bind λi=>(σ[i]?).join
structure b7 (X:Cx) (scope:Scope) (N:List Str) (caps:List (Option Nat)):Prop where
 kind:scope.kind=.function
 loc:∀ x ∈ scope.names,x.2=.local->scope.names.lookup x.1=some .local
 fre:∀ x ∈ scope.names,x.2=.free->X.env.kindOf x.1=some .cell
 one:∀ x,(x,NameKind.free) ∈ scope.names->(x,NameKind.cell) ∉ scope.names
 noboth:∀ x,(x,NameKind.free) ∈ scope.names->(x,NameKind.local) ∉ scope.names
 len:N.length=caps.length + 1
 cap:∀ (j i:Nat),caps[j]?=some (some i)->∃ x,N[j]?=some x/\X.N[i]?=some x/\(x,NameKind.free) ∈ scope.names
 acc:∃ z,N[caps.length]?=some z/\¬ Vis (relabel scope X.env) z
section
variable {X:Cx} {pins:List (Addr × Obj)} {σ:L2.St} {H:Hp} {s:Shared} {scope:Scope} {N:List Str} {caps:List (Option Nat)} {fp:List Addr}
theorem bT {env:PySem.Env} {x:Str} {names:List (Str × NameKind)} (h:∀ y,(y,NameKind.free) ∈ names->env.kindOf y=some .cell) (hk:env.scope.kind=.function) {k:NameKind}
   (e:(names.map λ(n,k)=>if (k == NameKind.free && env.scope.kind == .function && env.kindOf n == some .cell) then (n,NameKind.cell) else (n,k)).lookup x=some k) :
   (x,k) ∈ names\/((x,NameKind.free) ∈ names/\k=.cell):=by
 induction names with
 | nil=>cases e
 | cons p r ih=>
   obtain ⟨n,q⟩:=p
   rw [List.map_cons] at e
   have hr:∀ y,(y,NameKind.free) ∈ r->env.kindOf y=some .cell:=λy hy=>h y (List.mem_cons_of_mem _ hy)
   have sub:((x,k) ∈ r\/((x,NameKind.free) ∈ r/\k=.cell))->(x,k) ∈ (n,q) :: r\/((x,NameKind.free) ∈ (n,q) :: r/\k=.cell):=λz=>
     z.elim (λy=>.inl (List.mem_cons_of_mem _ y)) λy=>.inr ⟨List.mem_cons_of_mem _ y.1,y.2⟩
   dsimp only at e
   split at e
   · rename_i c
     rw [List.lookup_cons] at e
     split at e
     · rename_i qq
       cases e
       rw [Bool.and_eq_true,Bool.and_eq_true] at c
       rw [eq_of_beq qq,eq_of_beq c.1.1]
       exact .inr ⟨List.mem_cons_self,rfl⟩
     · exact sub (ih hr e)
   · rename_i c
     rw [List.lookup_cons] at e
     split at e
     · rename_i qq
       cases e
       rw [eq_of_beq qq]
       exact .inl List.mem_cons_self
     · exact sub (ih hr e)
theorem eG (I:Inv X pins σ H s) (c:b7 X scope N caps):∀ x ∈ scope.names,x.2=.free->∃ d,X.env.cells.lookup x.1=some d:=λx hx hf=>I.ok.has x.1 (.inl (c.fre x hx hf))
theorem ku (I:Inv X pins σ H s) (hf:∀ b ∈ fp,hU X pins H b) (ho:∀ b ∈ fp,∃ o,s.heap.get? b=some o) (c:b7 X scope N caps) :
   Inv (ax X s H scope N fp) [] (cg σ caps++[some (.ref s.heap.objs.size)]) (upd H s.heap.objs.size (.lst []))
     { s with heap:=pushCells ((s.heap.push { cls:=.type "list",data:=.seq ([]:List Value).toArray }).push { cls:=.type "dict",data:=.dict #[] }) scope.names }:=by
 have hcl:∀ x d,(bj X.env scope.names []).lookup x=some d->X.env.cells.lookup x=some d:=λx d=>bU X.env scope.names [] x d (λy d z=>by simp at z)
 have kp:∀ b o,s.heap.get? b=some o->(pushCells ((s.heap.push { cls:=.type "list",data:=.seq ([]:List Value).toArray }).push { cls:=.type "dict",data:=.dict #[] }) scope.names).get? b=some o:=λb o e=>
   pushCells_keeps _ _ b o (Heap.get?_push_of_some _ (Heap.get?_push_of_some _ e))
 have sz2:((s.heap.push { cls:=.type "list",data:=.seq ([]:List Value).toArray }).push { cls:=.type "dict",data:=.dict #[] }).objs.size=s.heap.objs.size + 1 + 1:=by rw [Heap.size_push,Heap.size_push]
 have oldc:∀ x d,X.env.cells.lookup x=some d->d < s.heap.objs.size:=λx d e=>by
   obtain ⟨v,o,q,_⟩:=I.cell x d e
   exact Heap.lt_size q
 have cel:∀ x d,(ax X s H scope N fp).env.cells.lookup x=some d->s.heap.objs.size + 1 + 1<=d\/X.env.cells.lookup x=some d:=λx d e=>by
   rcases km _ _ _ x d e with q | q
   · exact .inl q
   · exact .inr (hcl x d q)
 have ok:(ax X s H scope N fp).Ok:=by
   refine ⟨I.ok.mod,c.kind,I.ok.glob,I.ok.blt,Nat.le_succ _,?_,?_,?_,I.ok.hd,I.ok.frames,.inl rfl,?_,I.bs,Nat.le_trans I.ok.bsz I.sz,?_,?_,I.stack,I.jv⟩
   · exact iG _ _ _ (λx d e=>Nat.lt_of_lt_of_le (oldc x d (hcl x d e)) (by omega)) λx y d e1 e2=>I.ok.inj x y d (hcl x d e1) (hcl y d e2)
   · intro x hx
     have hfk:∀ y,(y,NameKind.free) ∈ scope.names->X.env.kindOf y=some .cell:=λy hy=>c.fre _ hy rfl
     have fre:(x,NameKind.free) ∈ scope.names->∃ d,(ax X s H scope N fp).env.cells.lookup x=some d:=λhm=>by
       obtain ⟨d,hd⟩:=eG I c _ hm rfl
       exact ⟨d,by
         show (cellsFrom _ scope.names _).lookup x=_
         rw [dZ _ _ _ x (c.one x hm)]
         exact bx X.env scope.names [] x d (λy e z=>by simp at z) hd (.inl hm)⟩
     have own:(x,NameKind.cell) ∈ scope.names->∃ d,(ax X s H scope N fp).env.cells.lookup x=some d:=λhm=>by
       obtain ⟨d,e,_⟩:=fQ scope.names (s.heap.objs.size + 1 + 1) (bj X.env scope.names []) x hm
       exact ⟨d,e⟩
     rcases hx with hx | hx
     · rcases bT hfk I.ok.kind (show (scope.names.map _).lookup x=some .cell from hx) with q | q
       · exact own q
       · exact fre q.1
     · rcases bT hfk I.ok.kind (show (scope.names.map _).lookup x=some .free from hx) with q | q
       · exact fre q
       · exact fre q.1
   · intro x d hfn e
     have hm:(x,NameKind.cell) ∈ scope.names:=of_decide_eq_true hfn
     obtain ⟨d',e',l⟩:=fQ scope.names (s.heap.objs.size + 1 + 1) (bj X.env scope.names []) x hm
     have e2:(cellsFrom (s.heap.objs.size + 1 + 1) scope.names (bj X.env scope.names [])).lookup x=some d:=e
     rw [e'] at e2; cases e2
     exact Nat.le_trans (Nat.le_trans (Nat.le_succ _) (Nat.le_succ _)) l
   · intro b hb
     obtain ⟨o,q⟩:=ho b hb
     have bl:=Heap.lt_size q
     refine ⟨λz=>?_,λx d e z=>?_⟩
     · have z':b=s.heap.objs.size + 1:=z
       rw [z'] at bl
       exact absurd bl (Nat.not_lt.mpr (Nat.le_succ _))
     · subst z
       rcases cel x d e with q | q
       · exact absurd (Nat.lt_of_lt_of_le bl (Nat.le_trans (Nat.le_trans (Nat.le_succ _) (Nat.le_succ _)) q)) (Nat.lt_irrefl _)
       · exact (hf d hb).2.2.2.2.1 x d q rfl
   · intro b o e hb
     rcases (hf b hb).2.2.2.1 with q | q
     · exact I.ok.noex b o e q
     · have:=Nat.lt_of_lt_of_le (Heap.lt_size e) I.ok.bsz
       exact absurd (Nat.lt_of_lt_of_le this q) (Nat.lt_irrefl _)
   · intro b hb hm
     rcases List.mem_cons.mp (I.iz b hm) with q | q
     · exact (hf b hb).2.1 q
     · exact (hf b hb).2.2.1 q
 have hD:(pushCells ((s.heap.push { cls:=.type "list",data:=.seq ([]:List Value).toArray }).push { cls:=.type "dict",data:=.dict #[] }) scope.names).get? s.heap.objs.size=some { cls:=.type "list",data:=.seq ([]:List Value).toArray }:=
   pushCells_keeps _ _ _ _ (Heap.get?_push_of_some _ (Heap.get?_push_size _ rfl))
 have fr:∀ a,s.heap.objs.size<=a->a ≠ s.heap.objs.size->(upd H s.heap.objs.size (.lst [])) a=none:=λa h1 h2=>by rw [ak h2]; exact I.hok.fresh h1
 refine ⟨ok,rfl,I.bare,Un.laid kp (Nat.le_refl _) (I.hok.fresh (Nat.le_refl _)),⟨λ_=>none,?_,λi x v e1 e2 e3=>?_⟩,λx d e=>?_,?_,λx d e=>?_,λp hp=>absurd (show p ∈ ([]:List (Addr × Obj)) from hp) (by simp),?_,?_⟩
 · have:=Heap.Ns.new (s.heap.push { cls:=.type "list",data:=.seq ([]:List Value).toArray }) (.type "dict")
   rw [Heap.size_push] at this
   exact this.keeps (pushCells_keeps _ _)
 · by_cases hi:i < caps.length
   · rw [List.getElem?_append_left (by unfold cg; rw [List.length_map]; exact hi)] at e2
     unfold cg at e2
     rw [List.getElem?_map] at e2
     cases hc:caps[i]? with
     | none=>rw [hc] at e2; cases e2
     | some o=>
       rw [hc] at e2
       cases o with
       | none=>cases e2
       | some j=>
         have e2':(σ[j]?).join=some v:=Option.some.inj e2
         have e4:σ[j]?=some (some v):=by
           cases q:σ[j]? with
           | none=>rw [q] at e2'; cases e2'
           | some y=>rw [q] at e2'; exact congrArg some e2'
         obtain ⟨x',g1,g2,g3⟩:=c.cap i j hc
         rw [show (ax X s H scope N fp).N=N from rfl,g1] at e1
         cases e1
         have hkc:=c.fre _ g3 rfl
         obtain ⟨m,_,hl⟩:=I.loc
         obtain ⟨u,ru,look⟩:=hl j x v g2 e4 (.inr (.inl hkc))
         refine ⟨u,ru,?_⟩
         rcases look with ⟨k,_⟩ | ⟨k,d,hd,hcell⟩
         · rw [hkc] at k; cases k
         · have e5:(ax X s H scope N fp).env.cells.lookup x=some d:=by
             show (cellsFrom _ scope.names _).lookup x=_
             rw [dZ _ _ _ x (c.one x g3)]
             exact bx X.env scope.names [] x d (λy e z=>by simp at z) hd (.inl g3)
           have hcell':Heap.IsCell (pushCells ((s.heap.push { cls:=.type "list",data:=.seq ([]:List Value).toArray }).push { cls:=.type "dict",data:=.dict #[] }) scope.names) d (some u):=by
             obtain ⟨o,q1,q2⟩:=hcell
             exact ⟨o,kp _ _ q1,q2⟩
           refine .inr ⟨?_,d,e5,hcell'⟩
           rcases e3 with e3 | e3 | e3
           · exfalso
             rcases bT (λy hy=>c.fre _ hy rfl) I.ok.kind (show (scope.names.map _).lookup x=some .local from e3) with q | q
             · have q1:=c.loc _ q rfl
               exact c.noboth x g3 q
             · cases q.2
           · exact .inl e3
           · exact .inr e3
   · exfalso
     obtain ⟨z,z1,z2⟩:=c.acc
     have hl:i < N.length:=(List.getElem?_eq_some_iff.mp e1).1
     have:i=caps.length:=by have:=c.len; omega
     subst this
     rw [show (ax X s H scope N fp).N=N from rfl,z1] at e1
     cases e1
     exact z2 e3
 · rw [show (ax X s H scope N fp).env.cells=cellsFrom (s.heap.objs.size + 1 + 1) scope.names (bj X.env scope.names []) from rfl,<- sz2] at e
   refine gm scope.names _ _ (λy d' q=>?_) x d e
   obtain ⟨v,o,q1,q2⟩:=I.cell y d' (hcl y d' q)
   exact ⟨v,o,Heap.get?_push_of_some _ (Heap.get?_push_of_some _ q1),q2⟩
 · exact fr _ (Nat.le_succ _) (Nat.succ_ne_self _)
 · rcases cel x d e with q | q
   · exact fr d (by omega) (by intro z; omega)
   · rw [ak (Nat.ne_of_lt (oldc x d q))]; exact I.freeC x d q
 · exact I.hok.laid kp (Nat.le_refl _) ⟨Nat.zero_le _,[],0,.nil,hD⟩
 · rw [List.length_append]
   unfold cg
   rw [List.length_map,show (ax X s H scope N fp).N=N from rfl,c.len]
   rfl
end
noncomputable def PTs (X:Cx) (ifs:List Expr) (t:TT):Prop:=
 ∀ (pins:List (Addr × Obj)) (s:Shared) (σ:L2.St) (H:Hp) (Q:Bool->Hp->Prop),Inv X pins σ H s->t σ H Q ->
   wpAny (model X.prog X.w) X.A (forIn ifs true λc r=>if r=true then do let ok <- isTrue c X.env (eval c X.env); pure (ForInStep.yield ok) else pure (ForInStep.yield r)) (TP X pins σ Q) X.xe s
section
variable {prog:Program} {w:World} {A:Around} {R:Result->Shared->Prop} {s:Shared}
theorem iR {elt target iter:Expr} {ifs:List Expr} {scope:Scope} {pos:Pos} {it acc:Value} {env:PySem.Env} (Iv:Nat->Shared->Prop)
   (step:∀ n s,Iv n s->wpAny (model prog w) A (pyNext it) (λr s₁=>match r with
     | none=>R (.ok .next) s₁
     | some v=>wpAny (model prog w) A (letOwnedTupleGo target it v) (λ_ s₀=>wpAny (model prog w) A (assign target env v) (λ_ s₂=>
         wpAny (model prog w) A (forIn ifs true λc r=>if r=true then do let ok <- isTrue c env (eval c env); pure (ForInStep.yield ok) else pure (ForInStep.yield r)) (λok s₃=>
           if ok=true then wpAny (model prog w) A (eval elt env) (λx s₄=>
             wpAny (model prog w) A (call (.builtin "list.append") [acc,x]) (λ_ s₅=>∃ m,m < n/\Iv m s₅) (λ_ _=>False) s₄) (λ_ _=>False) s₃
           else ∃ m,m < n/\Iv m s₃) (λ_ _=>False) s₂) (λ_ _=>False) s₀) (λ_ _=>False) s₁) (λ_ _=>False) s)
   (n:Nat) (h:Iv n s):codeAny (model prog w) A (.compLoop (.ListComp elt [⟨target,iter,ifs,0⟩] scope pos) 0 it acc env) R s:=by
 have no:∀ {α:Type} {t:Sem α} {Q:α->Shared->Prop} {s:Shared} {E:Value->Shared->Prop},wpAny (model prog w) A t Q (λ_ _=>False) s->wpAny (model prog w) A t Q E s:=λh=>wpAny_mono h (λ_ _ q=>q) λ_ _ q=>q.elim
 refine codeAny_loop rfl Iv (λn s hI=>?_) n h
 show wpAny _ A (Sem.onRaise (compTurn (.ListComp elt [⟨target,iter,ifs,0⟩] scope pos) 0 it acc env) (λx=>do noteFrame x env; theTreesLotGoes x)) _ _ s
 refine wpAny_noted ?_
 rw [compTurn_list]
 refine wpAny_bind (wpAny_standAt (wpAny_bind (thn (no (step n s hI)) λr s₁ h₁=>?_)))
 cases r with
 | none=>exact wpAny_pure h₁
 | some v=>
   refine wpAny_bind (thn (no h₁) λ_ s₀ h₀=>wpAny_bind (thn (no h₀) λ_ s₂ h₂=>wpAny_bind (thn (no h₂) λok s₃ h₃=>?_)))
   cases ok with
   | false=>exact wpAny_pure ⟨rfl,h₃⟩
   | true=>exact wpAny_bind (wpAny_bind (thn (no h₃) λx s₄ h₄=>wpAny_bind (thn (no h₄) λ_ s₅ h₅=>wpAny_pure (wpAny_pure ⟨rfl,h₅⟩))))
end
theorem lO {X:Cx} {kd:Bool} {pins:List (Addr × Obj)} {σ:L2.St} {H:Hp} {s:Shared} {scope:Scope} {N:List Str} {fp:List Addr} (h:Ck kd X) (I:Inv X pins σ H s):Ck kd (ax X s H scope N fp):=by
 rcases h with h | ⟨hk,q,o,u,vs,e1,e2,e3,e4⟩
 · exact .inl h
 · exact .inr ⟨hk,q,o,u,vs,e1,I.base.frzs q o u e2,e3,e4⟩
noncomputable def cx (In:TG->TT->TE->Prop) (caps:List (Option Nat)) (wi:TI):TE:=λσ H Q=>wi σ H λJ H1=>∃ g tt te,In g tt te/\∀ D,H1 D=none ->
 ∃ Z:Nat->Nat->L2.St->Hp->Prop,(∃ m,Z 0 m (cg σ caps++[some (.ref D)]) (upd H1 D (.lst [])))/\∀ i m σ' H',Z i m σ' H' ->
   (J.stop i H'/\Q (.ref D) H')\/(J.go i H'/\∀ x H2,J.yld i H' x H2->g x σ' H2 λσ2 H3=>tt σ2 H3 λb H4=>
     if b=true then te σ2 H4 λv H5=>∃ vs m',H5 D=some (.lst vs)/\vs.length < sizeLine/\m' < m/\Z (i + 1) m' σ2 (upd H5 D (.lst (vs++[v]))) else ∃ m',m' < m/\Z (i + 1) m' σ2 H4)
theorem br {X:Cx} {elt tg iter:Expr} {ifs:List Expr} {scope:Scope} {N:List Str} {caps:List (Option Nat)} {pos:Pos} {wi:TI} {In:TG->TT->TE->Prop} (c:b7 X scope N caps) (hi:PI X tg iter wi)
   (hs:∀ x,foldedSetIterable iter X.env x=pure x)
   (hin:∀ g tt te,In g tt te->∀ s H fp,PG (ax X s H scope N fp) tg g/\PTs (ax X s H scope N fp) ifs tt/\PE (ax X s H scope N fp) elt te) :
   PE X (.ListComp elt [⟨tg,iter,ifs,0⟩] scope pos) (cx In caps wi):=by
 intro pins s σ H Q I h
 rw [eval_ListComp]
 have hcl:=lP (eG I c)
 refine wpAny_comprehension_free (use:=none) (g:=⟨tg,iter,ifs,0⟩) (gs:=[]) rfl hs hcl c.kind c.loc ?_
 show wpAny _ _ (eval iter X.env) _ _ s
 refine thn (hi pins s σ H _ I h) λv s1 h1=>thn h1 λitv s2 h2=>?_
 obtain ⟨kd,it,fp,tn,J,H2,e,I2,hck,T,st2,f2,g,tt,te,hI,q⟩:=h2
 have hc:=lO (scope:=scope) (N:=N) (fp:=fp) hck I2
 subst e
 obtain ⟨Z,⟨m0,z0⟩,turn⟩:=q s2.heap.objs.size (I2.hok.fresh (Nat.le_refl _))
 have ho:∀ b ∈ fp,∃ o,s2.heap.get? b=some o:=λb hb=>let ⟨o,e,_⟩:=T.obj _ _ st2 b hb; ⟨o,e⟩
 have I4:=ku (scope:=scope) (N:=N) (caps:=caps) I2 f2 ho c
 obtain ⟨hg,ht,he⟩:=hin g tt te hI s2 H2 fp
 refine wpAny_newObj_type (j6 ?_) (by show 0<=sizeLine; decide)
 have hC:(s2.heap.push { cls:=.type "list",dict:=none,data:=.seq ([]:List Value).toArray }).objs.size=s2.heap.objs.size + 1:=Heap.size_push ..
 dsimp only
 rw [hC]
 have kp:∀ b o,s2.heap.get? b=some o->(pushCells ((s2.heap.push { cls:=.type "list",data:=.seq ([]:List Value).toArray }).push { cls:=.type "dict",data:=.dict #[] }) scope.names).get? b=some o:=λb o e=>
   pushCells_keeps _ _ b o (Heap.get?_push_of_some _ (Heap.get?_push_of_some _ e))
 have st4:tn 0 (pushCells ((s2.heap.push { cls:=.type "list",data:=.seq ([]:List Value).toArray }).push { cls:=.type "dict",data:=.dict #[] }) scope.names):=T.keep _ _ _ st2 λb _ o e=>kp b o e
 have stat:∀ {H':Hp},(∀ b ∈ fp,H' b=none)->∀ b ∈ fp,hU (ax X s2 H2 scope N fp) [] H' b:=λhn b hb=>
   ⟨hn b hb,(I4.ok.exf b hb).1,I4.ok.exfs b hb,.inl hb,(I4.ok.exf b hb).2,λp hp=>absurd (show p ∈ ([]:List (Addr × Obj)) from hp) (by simp)⟩
 have fr4:∀ b ∈ fp,(upd H2 s2.heap.objs.size (.lst [])) b=none:=λb hb=>by
   obtain ⟨o,e⟩:=ho b hb
   rw [ak (Nat.ne_of_lt (Heap.lt_size e))]; exact (f2 b hb).1
 have loop:codeAny (model X.prog X.w) X.A (.compLoop (.ListComp elt [⟨tg,iter,ifs,0⟩] scope pos) 0 (.ref it) (.ref s2.heap.objs.size) (ax X s2 H2 scope N fp).env)
     (compPost (model X.prog X.w) X.A X.xe none (EP X pins σ Q) (.ref s2.heap.objs.size) (s2.heap.objs.size + 1))
     { s2 with heap:=pushCells ((s2.heap.push { cls:=.type "list",data:=.seq ([]:List Value).toArray }).push { cls:=.type "dict",data:=.dict #[] }) scope.names }:=by
   refine iR (λn s'=>∃ i σ' H',Inv (ax X s2 H2 scope N fp) [] σ' H' s'/\tn i s'.heap/\(∀ b ∈ fp,H' b=none)/\Z i n σ' H') ?_ m0 ⟨0,_,_,I4,st4,fr4,z0⟩
   rintro n s3 ⟨i,σ3,H3,I3,st3,fr3,w3⟩
   rcases turn i n σ3 H3 w3 with ⟨stop,qn⟩ | ⟨go,step⟩
   · refine thn (T.done (ax X s2 H2 scope N fp) rfl rfl rfl hc i [] s3 σ3 H3 _ I3 (stat fr3) st3 stop) λr s5 ⟨hr,I5⟩=>?_
     subst hr
     obtain ⟨m,hn,_⟩:=id I5.loc
     refine ⟨m,hn,λh' sb=>⟨.ref s2.heap.objs.size,H3,?_,rfl,qn⟩⟩
     have lt:∀ b o,s2.heap.get? b=some o->b ≠ s2.heap.objs.size + 1:=λb o e=>Nat.ne_of_lt (Nat.lt_succ_of_lt (Heap.lt_size e))
     have u:=I5.base
     have u':Un (frs X.stack) fp H2 H3 s2.heap h':=⟨λb o e n1 n2 n3=>(sb.2 b (lt b o e)).trans (u.keep b o e n1 n2 n3),λb o e n1 n2 n3=>let ⟨sl,z⟩:=u.slot b o e n1 n2 n3; ⟨sl,(sb.2 b (lt b o e)).trans z⟩,
       u.free,λb o e n1=>let ⟨o',z⟩:=u.there b o e n1; ⟨o',(sb.2 b (lt b o e)).trans z⟩,u.tups,u.frzs,u.tbls⟩
     have fC:H3 (s2.heap.objs.size + 1)=none:=I5.free
     refine I2.pO (s':={ s5 with heap:=h' }) I5.os u' (λb o e=>(I5.hok b o e).d0 (λd v hd z=>(sb.2 d ?_).trans z) (λ_ z=>z) λ_ _ z=>z) I5.bare λb hb=>⟨(f2 b hb).2.2.2.1,(f2 b hb).2.1,(f2 b hb).2.2.2.2.1,(f2 b hb).2.2.2.2.2⟩
     rcases hd with hd | hd
     · rw [hd]; exact aw e fC
     · exact aw hd fC
   · refine thn (T.item (ax X s2 H2 scope N fp) rfl rfl rfl hc i [] s3 σ3 H3 _ I3 (stat fr3) st3 go) λr s4 ⟨u,hr,h4⟩=>?_
     subst hr
     refine thn h4 λ_ s5 ⟨x,H5,I5,r5,y5,st5,fr5⟩=>?_
     have I5':=I5.pinned (stat fr5) (T.obj _ _ st5)
     refine thn (hg _ s5 σ3 H5 x u _ I5' r5 (step x H5 y5)) λ_ s6 ⟨σ6,H6,I6,q6⟩=>?_
     have again:∀ {s7:Shared} {σ7:L2.St} {H7:Hp} {m':Nat},Inv (ax X s2 H2 scope N fp) ([]++eF fp s5.heap) σ7 H7 s7->m' < n->Z (i + 1) m' σ7 H7 ->
         ∃ m,m < n/\∃ i σ' H',Inv (ax X s2 H2 scope N fp) [] σ' H' s7/\tn i s7.heap/\(∀ b ∈ fp,H' b=none)/\Z i m σ' H':=λ{s7 σ7 H7 m'} I7 hm z7=>by
       refine ⟨m',hm,i + 1,σ7,H7,I7.cI,T.keep _ _ _ st5 λb hb o e=>(I7.pin (b,o) (List.mem_append_right _ (List.mem_append_right _ (bS hb e)))).1,λb hb=>?_,z7⟩
       obtain ⟨o,e,d⟩:=T.obj _ _ st5 b hb
       exact (I7.pin (b,o) (List.mem_append_right _ (List.mem_append_right _ (bS hb e)))).2.1
     refine thn (ht _ s6 σ6 H6 _ I6 q6) λok s7 ⟨H7,I7,q7⟩=>?_
     cases ok with
     | false=>
       rw [if_neg (by decide)] at q7
       obtain ⟨m',hm,z7⟩:=q7
       exact again I7 hm z7
     | true=>
       rw [if_pos rfl] at q7
       refine thn (he _ s7 σ6 H7 _ I7 q7) λv' s8 ⟨v,H8,I8,r8,vs,m',q8,l8,hm,z8⟩=>?_
       refine thn (dg (X:=ax X s2 H2 scope N fp) _ s8 σ6 H8 (.ref s2.heap.objs.size) [v] (.ref s2.heap.objs.size) [v'] (λ_ H9=>H9=upd H8 s2.heap.objs.size (.lst (vs++[v]))) I8 rfl (.cons r8 .nil) ⟨_,vs,v,rfl,rfl,q8,l8,rfl⟩) λ_ s9 ⟨_,H9,I9,_,e9⟩=>?_
       subst e9
       exact again I9 hm z8
 exact codeAny_compStart_list loop (T.self _ 0 _ _ _ st4 loop)
end Ev
namespace Hy
open PySem PySem.Spec PyProof.Rows L2
open Ev (D Den aq)
open Classical in
noncomputable def hd (H:Hp) (M:Addr->Prop):Hp:=λb=>if M b then none else H b
theorem ao {H:Hp} {M:Addr->Prop} {b:Addr} {o:HO}:hd H M b=some o ↔ ¬ M b/\H b=some o:=by
 unfold hd
 by_cases h:M b
 · rw [if_pos h]; exact ⟨λz=>(nomatch z),λz=>absurd h z.1⟩
 · rw [if_neg h]; exact ⟨λz=>⟨h,z⟩,λz=>z.2⟩
theorem au {H H':Hp} {M M':Addr->Prop} (e:ag H H') (m:∀ b,M' b->M b):ag (hd H M) (hd H' M'):=λb _ h=>ao.mpr ⟨λz=>(ao.mp h).1 (m b z),e b _ (ao.mp h).2⟩
theorem aQ {H:Hp} {M:Addr->Prop}:ag (hd H M) H:=λ_ _ h=>(ao.mp h).2
inductive Nd where
 | d (x:D) | l (xs:List Nd) | t (xs:List Nd)
structure Ex where
 p:PySem.W.Frag->Hp->HO->Addr->Prop
 mono:∀ {K:PySem.W.Frag} {G G':Hp} {o:HO} {a:Addr},ag G G'->p K G o a->p K G' o a
 ext:∀ {K:PySem.W.Frag} {G:Hp} {o:HO} {a:Addr},p K G o a->(∃ φ,o=.ext φ)\/(∃ ob φ,o=.frz ob (.ext φ))\/∃ kvs,o=.dK kvs\/∃ ob,o=.frz ob (.dK kvs)
inductive Sl where
 | un | d (x:D) | o (xs:List D) | n (t:Nd) | x (E:Ex)
mutual
inductive aS (K:PySem.W.Frag) (G H:Hp):V->List Addr->Nd->Prop where
 | d {u:V} {x:D} (h:Den K G u x):aS K G H u [] (.d x)
 | l {a:Addr} {vs:List V} {bs:List Addr} {xs:List Nd} (h:H a=some (.lst vs)) (r:az K G H vs bs xs):aS K G H (.ref a) (a :: bs) (.l xs)
 | t {a:Addr} {vs:List V} {bs:List Addr} {xs:List Nd} (h:H a=some (.tup vs)) (r:az K G H vs bs xs):aS K G H (.ref a) (a :: bs) (.t xs)
inductive az (K:PySem.W.Frag) (G H:Hp):List V->List Addr->List Nd->Prop where
 | nil:az K G H [] [] []
 | cons {v:V} {vs:List V} {b1 b2:List Addr} {s:Nd} {ss:List Nd} (h:aS K G H v b1 s) (r:az K G H vs b2 ss):az K G H (v :: vs) (b1++b2) (s :: ss)
end
noncomputable def a9 (K:PySem.W.Frag) (G H:Hp) (v:Option V) (bs:List Addr):Sl->Prop
 | .un=>bs=[]
 | .d x=>bs=[]/\∃ u,v=some u/\Den K G u x
 | .o xs=>∃ a vs,bs=[a]/\v=some (.ref a)/\H a=some (.lst vs)/\aq K G vs xs
 | .n t=>bs.Nodup/\∃ u,v=some u/\aS K G H u bs t
 | .x E=>∃ a o,bs=[a]/\v=some (.ref a)/\H a=some o/\E.p K G o a
section
variable {K:PySem.W.Frag} {G G' H H':Hp}
mutual
theorem aS.frame (g:ag G G'):∀ {u:V} {bs:List Addr} {t:Nd},(∀ b ∈ bs,H' b=H b)->aS K G H u bs t->aS K G' H' u bs t
 | _,_,_,_,.d h=>.d (h.mono g)
 | _,_,_,e,.l h r=>.l (by rw [e _ (List.mem_cons_self ..)]; exact h) (az.frame g (λb hb=>e b (List.mem_cons_of_mem _ hb)) r)
 | _,_,_,e,.t h r=>.t (by rw [e _ (List.mem_cons_self ..)]; exact h) (az.frame g (λb hb=>e b (List.mem_cons_of_mem _ hb)) r)
theorem az.frame (g:ag G G'):∀ {vs:List V} {bs:List Addr} {xs:List Nd},(∀ b ∈ bs,H' b=H b)->az K G H vs bs xs->az K G' H' vs bs xs
 | _,_,_,_,.nil=>.nil
 | _,_,_,e,.cons h r=>.cons (aS.frame g (λb hb=>e b (List.mem_append_left _ hb)) h) (az.frame g (λb hb=>e b (List.mem_append_right _ hb)) r)
end
mutual
theorem aS.some_of:∀ {u:V} {bs:List Addr} {t:Nd},aS K G H u bs t->∀ b ∈ bs,∃ o,H b=some o
 | _,_,_,.d _,_,z=>nomatch z
 | _,_,_,.l h r,b,z=>(List.mem_cons.mp z).elim (λe=>e ▸ ⟨_,h⟩) λz=>az.some_of r b z
 | _,_,_,.t h r,b,z=>(List.mem_cons.mp z).elim (λe=>e ▸ ⟨_,h⟩) λz=>az.some_of r b z
theorem az.some_of:∀ {vs:List V} {bs:List Addr} {xs:List Nd},az K G H vs bs xs->∀ b ∈ bs,∃ o,H b=some o
 | _,_,_,.nil,_,z=>nomatch z
 | _,_,_,.cons h r,b,z=>(List.mem_append.mp z).elim (λz=>aS.some_of h b z) λz=>az.some_of r b z
end
theorem aS.mono (g:ag G G') (e:ag H H') {u:V} {bs:List Addr} {t:Nd} (h:aS K G H u bs t):aS K G' H' u bs t:=h.frame g λb hb=>by
 obtain ⟨o,q⟩:=h.some_of b hb
 rw [q,e b o q]
theorem a9.mono (g:ag G G') (e:ag H H') {v:Option V} {bs:List Addr}:∀ {s:Sl},a9 K G H v bs s->a9 K G' H' v bs s
 | .un,h=>h
 | .d _,⟨h,u,e1,h2⟩=>⟨h,u,e1,h2.mono g⟩
 | .o _,⟨a,vs,h1,h2,h3,h4⟩=>⟨a,vs,h1,h2,e _ _ h3,h4.mono g⟩
 | .n _,⟨h0,u,h1,h2⟩=>⟨h0,u,h1,h2.mono g e⟩
 | .x E,⟨a,o,h1,h2,h3,h4⟩=>⟨a,o,h1,h2,e _ _ h3,E.mono g h4⟩
end
noncomputable def own (A:Addr->Prop) (B:Nat->List Addr) (b:Addr):Prop:=A b\/∃ i,b ∈ B i
noncomputable def vw (C:Bool) (A:Addr->Prop) (B:Nat->List Addr):Addr->Prop:=match C with
 | true=>own A B
 | false=>A
structure Sta (K:PySem.W.Frag) (A:Addr->Prop) (H₀:Hp) (τ:List Sl) (B:Nat->List Addr) (σ:L2.St) (H:Hp):Prop where
 same:ag H₀ H
 len:σ.length=τ.length
 sl:∀ i s,τ[i]?=some s->a9 K (hd H (own A B)) H (σ[i]?).join (B i) s
 fr:∀ i b,b ∈ B i->H₀ b=none
 uq:∀ i j b,b ∈ B i->b ∈ B j->i=j
 ad:∀ b,A b->∃ o,H₀ b=some o
 bd:∀ i b,b ∈ B i->∃ o,H b=some o
noncomputable def upB (B:Nat->List Addr) (i:Nat) (bs:List Addr):Nat->List Addr:=λj=>if j=i then bs else B j
section
variable {K:PySem.W.Frag} {A:Addr->Prop} {H₀ H H':Hp} {τ:List Sl} {B:Nat->List Addr} {σ:L2.St}
theorem Sta.dm (S:Sta K A H₀ τ B σ H) (b:Addr) (h:own A B b):∃ o,H b=some o:=h.elim (λz=>let ⟨o,q⟩:=S.ad b z; ⟨o,S.same _ _ q⟩) λ⟨i,z⟩=>S.bd i b z
theorem Sta.mono (S:Sta K A H₀ τ B σ H) (e:ag H H'):Sta K A H₀ τ B σ H' where
 same:=S.same.trans e
 len:=S.len
 sl:=λi s h=>(S.sl i s h).mono (au e λ_ z=>z) e
 fr:=S.fr
 uq:=S.uq
 ad:=S.ad
 bd:=λi b h=>let ⟨o,q⟩:=S.bd i b h; ⟨o,e _ _ q⟩
theorem aK {i j:Nat} {bs:List Addr} {b:Addr} (h:b ∈ upB B i bs j):(j=i/\b ∈ bs)\/(j ≠ i/\b ∈ B j):=by
 unfold upB at h
 by_cases e:j=i
 · rw [if_pos e] at h; exact .inl ⟨e,h⟩
 · rw [if_neg e] at h; exact .inr ⟨e,h⟩
theorem Sta.set (S:Sta K A H₀ τ B σ H) (e:ag H H') {i:Nat} {v:V} {s:Sl} {bs:List Addr} (hf:∀ b ∈ bs,H b=none/\∃ o,H' b=some o) (h:a9 K (hd H' λb=>own A B b\/b ∈ bs) H' (some v) bs s) :
   Sta K A H₀ (τ.set i s) (upB B i bs) (σ.set i (some v)) H':=by
 have sub:∀ b,own A (upB B i bs) b->own A B b\/b ∈ bs:=λb z=>z.elim (λz=>.inl (.inl z)) λ⟨j,z⟩=>(aK z).elim (λz=>.inr z.2) λz=>.inl (.inr ⟨j,z.2⟩)
 have some_of:∀ b j,b ∈ B j->∃ o,H b=some o:=λb j z=>S.dm b (.inr ⟨j,z⟩)
 refine ⟨S.same.trans e,by rw [List.length_set,List.length_set,S.len],λj t hj=>?_,λj b hb=>?_,λj k b h1 h2=>?_,S.ad,λj b hb=>?_⟩
 · by_cases ej:j=i
   · subst ej
     have hl:j < τ.length:=by
       have:=(List.getElem?_eq_some_iff.mp hj).1
       rwa [List.length_set] at this
     rw [List.getElem?_set_self hl] at hj
     cases hj
     rw [List.getElem?_set_self (by rw [S.len]; exact hl)]
     unfold upB
     rw [if_pos rfl]
     exact h.mono (au (ag.refl _) sub) (ag.refl _)
   · rw [List.getElem?_set_ne (λz=>ej z.symm)] at hj
     rw [List.getElem?_set_ne (λz=>ej z.symm)]
     unfold upB
     rw [if_neg ej]
     have q:=S.sl j t hj
     refine q.mono (λb o z=>?_) e
     obtain ⟨z1,z2⟩:=ao.mp z
     refine ao.mpr ⟨λy=>?_,e _ _ z2⟩
     rcases sub b y with y | y
     · exact z1 y
     · rw [(hf b y).1] at z2; cases z2
 · rcases aK hb with ⟨_,z⟩ | ⟨_,z⟩
   · exact S.same.free (hf b z).1
   · exact S.fr j b z
 · rcases aK h1 with ⟨e1,z1⟩ | ⟨e1,z1⟩ <;> rcases aK h2 with ⟨e2,z2⟩ | ⟨e2,z2⟩
   · exact e1.trans e2.symm
   · obtain ⟨o,q⟩:=some_of b k z2; rw [(hf b z1).1] at q; cases q
   · obtain ⟨o,q⟩:=some_of b j z1; rw [(hf b z2).1] at q; cases q
   · exact S.uq j k b z1 z2
 · rcases aK hb with ⟨_,z⟩ | ⟨_,z⟩
   · exact (hf b z).2
   · obtain ⟨o,q⟩:=S.bd j b z; exact ⟨o,e _ _ q⟩
theorem Sta.less (S:Sta K A H₀ τ B σ H) {i:Nat} {s:Sl} {bs:List Addr} (hb:∀ b ∈ bs,b ∈ B i) (h:∀ G:Hp,ag (hd H (own A B)) G->(∀ b o,b ∈ B i->b ∉ bs->H b=some o->G b=some o)->a9 K G H (σ[i]?).join bs s):Sta K A H₀ (τ.set i s) (upB B i bs) σ H:=by
 have sub:∀ b,own A (upB B i bs) b->own A B b:=λb z=>z.elim .inl λ⟨j,z⟩=>(aK z).elim (λz=>.inr ⟨i,hb b z.2⟩) λz=>.inr ⟨j,z.2⟩
 refine ⟨S.same,by rw [List.length_set,S.len],λj t hj=>?_,λj b h=>?_,λj k b h1 h2=>?_,S.ad,λj b h=>(aK h).elim (λz=>S.bd i b (hb b z.2)) λz=>S.bd j b z.2⟩
 · by_cases ej:j=i
   · subst ej
     have hl:j < τ.length:=by
       have:=(List.getElem?_eq_some_iff.mp hj).1
       rwa [List.length_set] at this
     rw [List.getElem?_set_self hl] at hj
     cases hj
     unfold upB
     rw [if_pos rfl]
     refine h _ (au (ag.refl _) sub) λb o z1 z2 z3=>ao.mpr ⟨λy=>?_,z3⟩
     rcases y with y | ⟨m,y⟩
     · obtain ⟨_,q⟩:=S.ad b y
       rw [S.fr j b z1] at q; cases q
     · rcases aK y with ⟨e,y⟩ | ⟨e,y⟩
       · exact z2 y
       · exact e (S.uq m j b y z1)
   · rw [List.getElem?_set_ne (λz=>ej z.symm)] at hj
     unfold upB
     rw [if_neg ej]
     exact (S.sl j t hj).mono (au (ag.refl _) sub) (ag.refl _)
 · rcases aK h with ⟨e,z⟩ | ⟨_,z⟩
   · exact S.fr i b (hb b z)
   · exact S.fr j b z
 · rcases aK h1 with ⟨e1,z1⟩ | ⟨e1,z1⟩ <;> rcases aK h2 with ⟨e2,z2⟩ | ⟨e2,z2⟩
   · exact e1.trans e2.symm
   · exact absurd (S.uq k i b z2 (hb b z1)) e2
   · exact absurd (S.uq j i b z1 (hb b z2)) e1
   · exact S.uq j k b z1 z2
end
end Hy
namespace Hy
open PySem PySem.Spec PyProof.Rows L2
open Ev (D Den aq aG aE aj aP ay)
noncomputable def Fr (H H':Hp) (bs:List Addr):Prop:=∀ b ∈ bs,H b=none/\∃ o,H' b=some o
noncomputable def dE (K:PySem.W.Frag) (C:Bool) (τ:List Sl) (s:Sl):TE:=λσ H Q=>∃ A H₀ B,Sta K A H₀ τ B σ H /\
 ∀ v H' bs,ag H H'->Fr H H' bs->a9 K (hd H' λb=>vw C A B b\/b ∈ bs) H' (some v) bs s->Q v H'
noncomputable def dA (K:PySem.W.Frag) (C:Bool) (τ:List Sl) (ds:List D):TA:=λσ H Q=>∃ A H₀ B,Sta K A H₀ τ B σ H /\
 ∀ vs H',ag H H'->aq K (hd H' (vw C A B)) vs ds->Q vs H'
noncomputable def dT (K:PySem.W.Frag) (τ:List Sl) (c:Bool):TT:=λσ H Q=>∃ A H₀ B,Sta K A H₀ τ B σ H/\∀ H',ag H H'->Q c H'
structure Po where
 nx:List Sl->Prop
 rt:Sl->Prop
 bk:List Sl->Prop:=λ_=>False
 ct:List Sl->Prop:=λ_=>False
 xc:Hp->Prop:=λ_=>True
structure Meets (K:PySem.W.Frag) (A:Addr->Prop) (H₀:Hp) (N:Po) (D:Ends):Prop where
 nx:∀ τ B σ H,N.nx τ->Sta K A H₀ τ B σ H->D.nx σ H
 bk:∀ τ B σ H,N.bk τ->Sta K A H₀ τ B σ H->D.bk σ H
 ct:∀ τ B σ H,N.ct τ->Sta K A H₀ τ B σ H->D.ct σ H
 rt:∀ v H bs s,N.rt s->ag H₀ H->Fr H₀ H bs->a9 K (hd H λb=>A b\/b ∈ bs) H (some v) bs s->D.rt v H
 xc:∀ H,ag H₀ H->N.xc H
noncomputable def dS (K:PySem.W.Frag) (τ:List Sl) (N:Po):TS:=λD σ H=>∃ A H₀ B,Sta K A H₀ τ B σ H/\Meets K A H₀ N D
theorem peW {X:Cx} {e:Expr} {t t':TE} (h:PE X e t) (f:∀ σ H Q,t' σ H Q->t σ H Q):PE X e t':=λpins s σ H Q I q=>h pins s σ H Q I (f σ H Q q)
theorem ptW {X:Cx} {e:Expr} {t t':TT} (h:PT X e t) (f:∀ σ H Q,t' σ H Q->t σ H Q):PT X e t':=λpins s σ H Q I q=>h pins s σ H Q I (f σ H Q q)
theorem pwW {X:Cx} {e:Expr} {t t':TT} (h:PW X e t) (f:∀ σ H Q,t' σ H Q->t σ H Q):PW X e t':=λwh pins s σ H Q I q=>h wh pins s σ H Q I (f σ H Q q)
theorem paW {X:Cx} {e:List Expr} {t t':TA} (h:PA X e t) (f:∀ σ H Q,t' σ H Q->t σ H Q):PA X e t':=λp pins s σ H Q I q=>h p pins s σ H Q I (f σ H Q q)
theorem psW {X:Cx} {e:Stmt} {t t':TS} (h:PS X e t) (f:∀ D σ H,t' D σ H->t D σ H):PS X e t':=λpins s σ H D I q=>h pins s σ H D I (f D σ H q)
theorem lz {X:Cx} {e:List Stmt} {t t':TS} (h:PSs X e t) (f:∀ D σ H,t' D σ H->t D σ H):PSs X e t':=λpins s σ H D I q=>h pins s σ H D I (f D σ H q)
section
variable {K:PySem.W.Frag} {C:Bool} {τ:List Sl} {A:Addr->Prop} {H₀ H H':Hp} {B:Nat->List Addr} {σ:L2.St} {x y z:D} {Q:VK}
theorem gi {b:Addr} (h:vw C A B b):own A B b:=by
 cases C with
 | true=>exact h
 | false=>exact .inl h
theorem Sta.vd (S:Sta K A H₀ τ B σ H) (b:Addr) (h:vw C A B b):∃ o,H b=some o:=S.dm b (gi h)
theorem aH (S:Sta K A H₀ τ B σ H) (k:∀ v H',ag H H'->Den K (hd H' (vw C A B)) v x->Q v H'):dE K C τ (.d x) σ H Q:=
 ⟨A,H₀,B,S,λv H' bs e _ ⟨hb,u,eu,h⟩=>by
   cases eu
   exact k v H' e (h.mono (au (ag.refl _) λ_ z=>.inl z))⟩
theorem cq (h:dE K C τ (.d x) σ H Q):∃ A H₀ B,Sta K A H₀ τ B σ H/\∀ v H',ag H H'->Den K (hd H' (vw C A B)) v x->Q v H':=by
 obtain ⟨A,H₀,B,S,k⟩:=h
 exact ⟨A,H₀,B,S,λv H' e d=>k v H' [] e (λ_ z=>nomatch z) ⟨rfl,v,rfl,d.mono (au (ag.refl _) λ_ z=>z.elim id λz=>nomatch z)⟩⟩
theorem dz {ds:List D} {Q:List V->Hp->Prop} (S:Sta K A H₀ τ B σ H) (k:∀ vs H',ag H H'->aq K (hd H' (vw C A B)) vs ds->Q vs H'):dA K C τ ds σ H Q:=⟨A,H₀,B,S,k⟩
theorem iX {M:Addr->Prop} {p:Addr} {o:HO} (hM:∀ b,M b->∃ o,H b=some o) (hp:H p=none):hd (upd H p o) M p=some o:=
 ao.mpr ⟨λz=>(by obtain ⟨o,q⟩:=hM p z; rw [hp] at q; cases q),aF⟩
mutual
noncomputable def ndD:Nd->D
 | .d x=>x
 | .l xs=>.lst (fX xs)
 | .t xs=>.tup (fX xs)
noncomputable def fX:List Nd->List D
 | []=>[]
 | x :: xs=>ndD x :: fX xs
end
noncomputable def fzD:Sl->Option D
 | .un=>none
 | .d x=>some x
 | .o xs=>some (.lst xs)
 | .n t=>some (ndD t)
 | .x _=>none
mutual
theorem aS.den {G G':Hp} (g:ag G G'):∀ {u:V} {bs:List Addr} {t:Nd},(∀ b ∈ bs,∀ o,H b=some o->G' b=some o)->aS K G H u bs t->Den K G' u (ndD t)
 | _,_,_,_,.d h=>h.mono g
 | _,_,_,e,.l h r=>.lst (SqL.of (e _ (List.mem_cons_self ..) _ h)) (az.den g (λb hb=>e b (List.mem_cons_of_mem _ hb)) r)
 | _,_,_,e,.t h r=>.tup (SqT.of (e _ (List.mem_cons_self ..) _ h)) (az.den g (λb hb=>e b (List.mem_cons_of_mem _ hb)) r)
theorem az.den {G G':Hp} (g:ag G G'):∀ {vs:List V} {bs:List Addr} {xs:List Nd},(∀ b ∈ bs,∀ o,H b=some o->G' b=some o)->az K G H vs bs xs->aq K G' vs (fX xs)
 | _,_,_,_,.nil=>.nil
 | _,_,_,e,.cons h r=>.cons (aS.den g (λb hb=>e b (List.mem_append_left _ hb)) h) (az.den g (λb hb=>e b (List.mem_append_right _ hb)) r)
end
theorem a9.den {G G':Hp} {v:Option V} {bs:List Addr} {s:Sl} (h:a9 K G H v bs s) (g:ag G G') (hv:∀ b ∈ bs,∀ o,H b=some o->G' b=some o) (e:fzD s=some x):∃ u,v=some u/\Den K G' u x:=by
 cases s with
 | un=>cases e
 | d y=>cases e; obtain ⟨_,u,e,q⟩:=h; exact ⟨u,e,q.mono g⟩
 | o xs=>
   cases e
   obtain ⟨a,vs,rfl,h2,h3,h4⟩:=h
   exact ⟨_,h2,.lst (SqL.of (hv a (List.mem_cons_self ..) _ h3)) (h4.mono g)⟩
 | n t=>
   cases e
   obtain ⟨_,u,e,q⟩:=h
   exact ⟨u,e,q.den g hv⟩
 | x E=>cases e
theorem slot_of {i:Nat} {u:V} (h:(σ[i]?).join=some u):σ[i]?=some (some u):=by
 cases e:σ[i]? with
 | none=>rw [e] at h; cases h
 | some o=>rw [e] at h; exact congrArg some h
end
section
variable {X:Cx} {C:Bool} {τ:List Sl} {x y z:D} {a b e:Expr} {es:List Expr} {pos:Pos}
theorem ab (i:Nat) {n:Str} {x:D} (h:τ[i]?=some (.d x):=by rfl) (hN:X.N[i]?=some n:=by rfl) (hv:Vis X.env.scope n:=by first | exact Or.inl rfl | exact Or.inr (Or.inl rfl) | exact Or.inr (Or.inr rfl))
   (hd:(n == ("__debug__" : Str))=false:=by decide) (hcd:(n == ("__classdict__" : Str))=false:=by decide):PE X (.Name n pos) (dE X.K C τ (.d x)):=peW (di hN hv hd hcd) λσ H Q q=>by
 obtain ⟨A,H₀,B,S,k⟩:=cq q
 obtain ⟨_,u,e,d⟩:=S.sl i _ h
 exact ⟨u,slot_of e,k u H (ag.refl _) (d.mono (au (ag.refl _) λ_ z=>gi z))⟩
theorem gd (i:Nat) {n:Str} {s:Sl} {x:D} (h:τ[i]?=some s:=by rfl) (hx:fzD s=some x:=by rfl) (hN:X.N[i]?=some n:=by rfl) (hv:Vis X.env.scope n:=by first | exact Or.inl rfl | exact Or.inr (Or.inl rfl) | exact Or.inr (Or.inr rfl))
   (hd:(n == ("__debug__" : Str))=false:=by decide) (hcd:(n == ("__classdict__" : Str))=false:=by decide):PE X (.Name n pos) (dE X.K false τ (.d x)):=peW (di hN hv hd hcd) λσ H Q q=>by
 obtain ⟨A,H₀,B,S,k⟩:=cq q
 obtain ⟨u,e,d⟩:=(S.sl i _ h).den (G':=Hy.hd H A) (au (ag.refl _) λ_ z=>.inl z) (λb hb o ho=>ao.mpr ⟨λz=>(by obtain ⟨_,q⟩:=S.ad b z; rw [S.fr i b hb] at q; cases q),ho⟩) hx
 exact ⟨u,slot_of e,k u H (ag.refl _) d⟩
theorem gK {v:V} (h:PE X e (tC v)) (d:∀ H,Den X.K H v x):PE X e (dE X.K C τ (.d x)):=peW h λσ H Q q=>by
 obtain ⟨A,H₀,B,S,k⟩:=cq q
 exact k v H (ag.refl _) (d _)
theorem ae {i j}:PE X (.Constant (.int i) j pos) (dE X.K C τ (.d (.int i))):=gK ou λ_=>.int
theorem j2 {b j}:PE X (.Constant (.bool b) j pos) (dE X.K C τ (.d (.bl b))):=gK pH λ_=>.bl
theorem bz {s j}:PE X (.Constant (.str s) j pos) (dE X.K C τ (.d (.str s))):=gK nB λ_=>.str
theorem nY {n:Str} {i:Int} (hm:∃ t,X.mg n=some (.int i t)) (hg:Gl X n:=by rfl) (hd:(n == ("__debug__" : Str))=false:=by decide):PE X (.Name n pos) (dE X.K C τ (.d (.int i))):=by
 obtain ⟨t,hm⟩:=hm
 exact gK (i8 (v:=.int i) hg hm ⟨t,rfl⟩ hd) λ_=>.int
theorem aU {s:Sl} (h:PE X e (dE X.K C τ s)) (hx:fzD s=some x:=by rfl):PE X e (dE X.K C τ (.d x)):=peW h λσ H Q q=>by
 obtain ⟨A,H₀,B,S,k⟩:=cq q
 refine ⟨A,H₀,B,S,λv H' bs e hf q=>?_⟩
 have vd:=S.vd (C:=C)
 obtain ⟨u,e1,d⟩:=q.den (G':=Hy.hd H' (vw C A B)) (au (ag.refl _) λ_ z=>.inl z) (λb hb o ho=>ao.mpr ⟨λz=>(by obtain ⟨_,q⟩:=vd b z; rw [(hf b hb).1] at q; cases q),ho⟩) hx
 cases e1
 exact k v H' e d
noncomputable def flat:D->Bool
 | .tup _=>false
 | .lst _=>false
 | .box _=>false
 | _=>true
theorem dQ {K:PySem.W.Frag} {G G':Hp} {v:V} (h:Den K G v x) (f:flat x=true):Den K G' v x:=by
 cases h with
 | non=>exact .non
 | bl=>exact .bl
 | int=>exact .int
 | str=>exact .str
 | tup _ _=>cases f
 | lst _ _=>cases f
 | box _=>cases f
noncomputable def bE (X:Cx) (f:Value->Value->Sem Value) (x y z:D):Prop:=∃ r:R2,OpR X f r /\
 ∀ (M:Addr->Prop) (v w:V) (H:Hp) (Q:VK),(∀ b,M b->∃ o,H b=some o)->Den X.K (hd H M) v x->Den X.K (hd H M) w y->(∀ u H',ag H H'->Den X.K (hd H' M) u z->Q u H')->r v w H Q
theorem two {r:R2} (hr:∀ (M:Addr->Prop) (v w:V) (H:Hp) (Q:VK),(∀ b,M b->∃ o,H b=some o)->Den X.K (hd H M) v x->Den X.K (hd H M) w y->(∀ u H',ag H H'->Den X.K (hd H' M) u z->Q u H')->r v w H Q) :
   ∀ σ H Q,dE X.K C τ (.d z) σ H Q->tOp r (dE X.K C τ (.d x)) (dE X.K C τ (.d y)) σ H Q:=by
 intro σ H Q h
 obtain ⟨A,H₀,B,S,k⟩:=cq h
 refine aH S λv H1 e1 d1=>aH (S.mono e1) λw H2 e2 d2=>hr (vw C A B) v w H2 Q ((S.mono e1).mono e2).vd (d1.mono (au e2 λ_ z=>z)) d2 λu H' e3 d3=>k u H' (e1.trans (e2.trans e3)) d3
theorem av {op:Operator} (ha:PE X a (dE X.K C τ (.d x))) (hb:PE X b (dE X.K C τ (.d y))) (ho:bE X (binaryOp op) x y z):PE X (.BinOp a op b pos) (dE X.K C τ (.d z)):=by
 obtain ⟨r,h1,h2⟩:=ho
 exact peW (mT h1 ha hb) (two h2)
theorem eU {op:CmpOp} (ha:PE X a (dE X.K C τ (.d x))) (hb:PE X b (dE X.K C τ (.d y))) (ho:bE X (compareOp op) x y z) (hm:behindInMarks op b=false:=by first | exact kM _ | rfl):PE X (.Compare a [op] [b] pos) (dE X.K C τ (.d z)):=by
 obtain ⟨r,h1,h2⟩:=ho
 exact peW (mh h1 ha hb hm) (two h2)
theorem ll {t:TE} {c:Bool} (h:∀ σ H Q,dE X.K false τ (.d (.bl c)) σ H Q->t σ H Q):∀ σ H Q,dT X.K τ c σ H Q->t σ H λx H'=>∃ k,x=.bl k/\Q k H':=λσ H Q ⟨A,H₀,B,S,k⟩=>
 h σ H _ (aH S λv H' e d=>by cases d; exact ⟨c,rfl,k H' e⟩)
theorem aJ {op:CmpOp} {c:Bool} (ha:PE X a (dE X.K false τ (.d x))) (hb:PE X b (dE X.K false τ (.d y))) (ho:bE X (compareOp op) x y (.bl c)) (hm:behindInMarks op b=false:=by first | exact kM _ | rfl):PT X (.Compare a [op] [b] pos) (dT X.K τ c):=by
 obtain ⟨r,h1,h2⟩:=ho
 exact ptW (lL h1 ha hb hm) (ll (two h2))
theorem aN {c:Bool} (h:PE X e (dE X.K false τ (.d (.bl c)))) (he:∀ whole,isTrue e X.env whole=(do let v <- whole; standAt e.pos; holding [v] (truthy v)):=by intro _; rfl):PT X e (dT X.K τ c):=
 ptW (oE h he) (ll λ_ _ _ q=>q)
theorem jt {g:Int->Int->V} {P:Int->Int->Prop} {i j:Int} (hc:P i j) (hz:∀ K H,Den K H (g i j) z):∀ (M:Addr->Prop) (v w:V) (H:Hp) (Q:VK),(∀ b,M b->∃ o,H b=some o)->Den X.K (hd H M) v (.int i)->Den X.K (hd H M) w (.int j) ->
   (∀ u H',ag H H'->Den X.K (hd H' M) u z->Q u H')->rI P g v w H Q:=λ_ v w H Q _ d1 d2 k=>by
 cases d1
 cases d2
 exact ⟨i,j,rfl,rfl,hc,k _ H (ag.refl _) (hz _ _)⟩
theorem fo {g:Int->Int->V} {i j:Int} (hz:∀ K H,Den K H (g i j) z):∀ (M:Addr->Prop) (v w:V) (H:Hp) (Q:VK),(∀ b,M b->∃ o,H b=some o)->Den X.K (hd H M) v (.int i)->Den X.K (hd H M) w (.int j) ->
   (∀ u H',ag H H'->Den X.K (hd H' M) u z->Q u H')->rI0 g v w H Q:=λ_ v w H Q _ d1 d2 k=>by
 cases d1
 cases d2
 exact ⟨i,j,rfl,rfl,k _ H (ag.refl _) (hz _ _)⟩
variable {i j:Int}
theorem aZ:bE X (binaryOp .Add) (.int i) (.int j) (.int (i + j)):=⟨_,n8,fo λ_ _=>.int⟩
theorem jc:bE X (binaryOp .Sub) (.int i) (.int j) (.int (i - j)):=⟨_,m9,fo λ_ _=>.int⟩
theorem aG.ok' {i j:Int} (h:aG i j):IntMulOk i j:=by
 have b:∀ {k:Int} {n:Nat},k.natAbs.log2 < n->Builtin.Int.intBits k<=n:=λ{k n} q=>by
   unfold Builtin.Int.intBits
   split
   · exact Nat.zero_le _
   · exact q
 rcases h with h | h | ⟨h1,h2⟩
 · exact .of_left (b h)
 · exact .of_right (b h)
 · exact .of_bits (Nat.le_trans (b h1) (by decide)) (Nat.le_trans (b h2) (by decide))
theorem ba (h:aG i j):bE X (binaryOp .Mult) (.int i) (.int j) (.int (i * j)):=⟨rI aG λi j=>.int (i * j),opI λ_ _ _ _ _ _ _ hc q=>mul_int q (aG.ok' hc),jt h λ_ _=>.int⟩
theorem bL (h:aE j):bE X (binaryOp .FloorDiv) (.int i) (.int j) (.int (i.fdiv j)):=⟨rI (λ_ j=>aE j) λi j=>.int (i.fdiv j),opI λ_ _ _ _ _ _ _ hc q=>floordiv_int hc.1 q (.inl (PyProof.noPylong_of_log2 hc.2)),jt h λ_ _=>.int⟩
theorem bb (h:j ≠ 0):bE X (binaryOp .Mod) (.int i) (.int j) (.int (i.fmod j)):=⟨_,mv,jt h λ_ _=>.int⟩
theorem bM (h:p9 i j):bE X (binaryOp .Pow) (.int i) (.int j) (.int (i ^ j.toNat)):=⟨_,nF,jt h λ_ _=>.int⟩
theorem oB:bE X (compareOp .Lt) (.int i) (.int j) (.bl (decide (i < j))):=⟨_,oW,fo λ_ _=>.bl⟩
theorem pD:bE X (compareOp .LtE) (.int i) (.int j) (.bl (decide (i<=j))):=⟨_,oT,fo λ_ _=>.bl⟩
theorem oJ:bE X (compareOp .Gt) (.int i) (.int j) (.bl (decide (j < i))):=⟨_,oY,fo λ_ _=>.bl⟩
theorem nc:bE X (compareOp .GtE) (.int i) (.int j) (.bl (decide (j<=i))):=⟨_,qc,fo λ_ _=>.bl⟩
theorem dF:bE X (compareOp .Eq) (.int i) (.int j) (.bl (decide (i=j))):=⟨_,mB,λ_ v w H Q _ d1 d2 k=>by
 cases d1
 cases d2
 exact ⟨rfl,by rw [show decide (V.int i=V.int j)=decide (i=j) by simp]; exact k _ H (ag.refl _) .bl⟩⟩
theorem iS:bE X (compareOp .NotEq) (.int i) (.int j) (.bl (!decide (i=j))):=⟨_,mM,λ_ v w H Q _ d1 d2 k=>by
 cases d1
 cases d2
 exact ⟨rfl,by rw [show decide (V.int i=V.int j)=decide (i=j) by simp]; exact k _ H (ag.refl _) .bl⟩⟩
theorem lr (h:PE X a (dE X.K C τ (.d (.int i)))):PE X (.UnaryOp .USub a pos) (dE X.K C τ (.d (.int (-i)))):=peW (qa oz h) λσ H Q q=>by
 obtain ⟨A,H₀,B,S,k⟩:=cq q
 refine aH S λv H1 e1 d1=>?_
 cases d1
 exact ⟨i,rfl,k _ H1 e1 .int⟩
theorem kG {e:Expr}:PE X e λ_ _ _=>False:=λ_ _ _ _ _ _ h=>h.elim
theorem pw_no {e:Expr}:PW X e λ_ _ _=>False:=λ_ _ _ _ _ _ _ h=>h.elim
variable {p q:Bool} {c:Expr} {rest:List Expr}
theorem dB {op} {s:Sl} (h:PE X a (dE X.K C τ s)):PE X (.BoolOp op [a] pos) (dE X.K C τ s):=oF h
theorem cw (ha:PE X a (dE X.K C τ (.d (.bl p)))) (hb:p=true->PE X (.BoolOp .And (b :: rest) pos) (dE X.K C τ (.d (.bl q)))):PE X (.BoolOp .And (a :: b :: rest) pos) (dE X.K C τ (.d (.bl (p && q)))):=by
 cases p with
 | false=>
   refine peW (kg ha kG) λσ H Q z=>?_
   obtain ⟨A,H₀,B,S,k⟩:=cq z
   exact aH S λv H' e d=>by cases d; exact ⟨_,rfl,k _ H' e .bl⟩
 | true=>
   refine peW (kg ha (hb rfl)) λσ H Q z=>?_
   obtain ⟨A,H₀,B,S,k⟩:=cq z
   exact aH S λv H' e d=>by cases d; exact ⟨_,rfl,aH (S.mono e) λv H2 e2 d2=>k v H2 (e.trans e2) d2⟩
theorem mU (ha:PE X a (dE X.K C τ (.d (.bl p)))):PE X (.UnaryOp .Not a pos) (dE X.K C τ (.d (.bl (!p)))):=peW (oK ha) λσ H Q z=>by
 obtain ⟨A,H₀,B,S,k⟩:=cq z
 exact aH S λv H' e d=>by cases d; exact ⟨_,rfl,k _ H' e .bl⟩
theorem iq (ha:PT X a (dT X.K τ p)):PW X (.BoolOp .And [a] pos) (dT X.K τ p):=pw_and1 ha
theorem bo (ha:PT X a (dT X.K τ p)):PW X (.BoolOp .Or [a] pos) (dT X.K τ p):=pw_or1 ha
theorem lx (ha:PT X a (dT X.K τ p)) (hb:p=true->PW X (.BoolOp .And (b :: rest) pos) (dT X.K τ q)):PW X (.BoolOp .And (a :: b :: rest) pos) (dT X.K τ (p && q)):=by
 cases p with
 | false=>exact pwW (pw_and ha pw_no) λσ H Q ⟨A,H₀,B,S,k⟩=>⟨A,H₀,B,S,λH' e=>jQ (k H' e)⟩
 | true=>exact pwW (pw_and ha (hb rfl)) λσ H Q ⟨A,H₀,B,S,k⟩=>⟨A,H₀,B,S,λH' e=>ie (⟨A,H₀,B,S.mono e,λH2 e2=>k H2 (e.trans e2)⟩)⟩
theorem bO (ha:PT X a (dT X.K τ p)) (hb:p=false->PW X (.BoolOp .Or (b :: rest) pos) (dT X.K τ q)):PW X (.BoolOp .Or (a :: b :: rest) pos) (dT X.K τ (p || q)):=by
 cases p with
 | true=>exact pwW (pw_or ha pw_no) λσ H Q ⟨A,H₀,B,S,k⟩=>⟨A,H₀,B,S,λH' e=>ie (k H' e)⟩
 | false=>exact pwW (pw_or ha (hb rfl)) λσ H Q ⟨A,H₀,B,S,k⟩=>⟨A,H₀,B,S,λH' e=>jQ (⟨A,H₀,B,S.mono e,λH2 e2=>k H2 (e.trans e2)⟩)⟩
theorem aO (ha:PT X a (dT X.K τ p)):PT X (.UnaryOp .Not a pos) (dT X.K τ (!p)):=ptW (ot ha) λσ H Q ⟨A,H₀,B,S,k⟩=>⟨A,H₀,B,S,λH' e=>k H' e⟩
theorem mW {s:Sl} (hc:PT X c (dT X.K τ p)) (ha:p=true->PE X a (dE X.K C τ s)) (hb:p=false->PE X b (dE X.K C τ s)):PE X (.IfExp c a b pos) (dE X.K C τ s):=by
 have fin:∀ {σ H H' Q} {A:Addr->Prop} {H₀ B},Sta X.K A H₀ τ B σ H->(∀ v H' bs,ag H H'->Fr H H' bs->a9 X.K (hd H' λb=>vw C A B b\/b ∈ bs) H' (some v) bs s->Q v H')->ag H H'->dE X.K C τ s σ H' Q:=λS k e=>
   ⟨_,_,_,S.mono e,λv H2 bs e2 hf h=>k v H2 bs (e.trans e2) (λb hb=>⟨e.free (hf b hb).1,(hf b hb).2⟩) h⟩
 cases p with
 | true=>exact peW (gP hc (ha rfl) kG) λσ H Q ⟨A,H₀,B,S,k⟩=>⟨A,H₀,B,S,λH' e=>ie (fin S k e)⟩
 | false=>exact peW (gP hc kG (hb rfl)) λσ H Q ⟨A,H₀,B,S,k⟩=>⟨A,H₀,B,S,λH' e=>jQ (fin S k e)⟩
theorem lS {op op':CmpOp} (ha:PE X a (dE X.K C τ (.d x))) (hb:PE X b (dE X.K C τ (.d y))) (hc:PE X c (dE X.K C τ (.d z))) (h1:bE X (compareOp op) x y (.bl p)) (h2:bE X (compareOp op') y z (.bl q))
   (hm:lastMarks [op,op'] [b,c]=false:=by with_unfolding_all rfl):PE X (.Compare a [op,op'] [b,c] pos) (dE X.K C τ (.d (.bl (p && q))))/\(C=false->PT X (.Compare a [op,op'] [b,c] pos) (dT X.K τ (p && q))):=by
 obtain ⟨r,o1,k1⟩:=h1
 obtain ⟨r',o2,k2⟩:=h2
 have key:∀ σ H Q,dE X.K C τ (.d (.bl (p && q))) σ H Q->iH r r' (dE X.K C τ (.d x)) (dE X.K C τ (.d y)) (dE X.K C τ (.d z)) σ H Q:=λσ H Q h=>by
   obtain ⟨A,H₀,B,S,k⟩:=cq h
   refine aH S λv H1 e1 d1=>aH (S.mono e1) λw H2 e2 d2=>k1 (vw C A B) v w H2 _ ((S.mono e1).mono e2).vd (d1.mono (au e2 λ_ z=>z)) d2 λu H3 e3 d3=>?_
   cases d3
   refine ⟨p,rfl,?_⟩
   cases p with
   | false=>exact jQ (k _ H3 (e1.trans (e2.trans e3)) .bl)
   | true=>exact ie (aH (((S.mono e1).mono e2).mono e3) λw' H4 e4 d4=>k2 (vw C A B) w w' H4 Q ((((S.mono e1).mono e2).mono e3).mono e4).vd (d2.mono (au (e3.trans e4) λ_ z=>z)) d4 λu H5 e5 d5=>k u H5 (e1.trans (e2.trans (e3.trans (e4.trans e5)))) d5)
 exact ⟨peW (kq o1 o2 ha hb hc hm) key,λhC=>by subst hC; exact ptW (lj o1 o2 ha hb hc hm) (ll key)⟩
theorem af:PA X [] (dA X.K C τ []):=paW fV λσ H Q ⟨A,H₀,B,S,k⟩=>k [] H (ag.refl _) .nil
theorem aa {ds:List D} (ha:PE X e (dE X.K C τ (.d x))) (hr:PA X es (dA X.K C τ ds)) (hs:starEach (e :: es) X.env=(false,eval e X.env) :: starEach es X.env:=by rfl):PA X (e :: es) (dA X.K C τ (x :: ds)):=paW (cN ha hr hs) λσ H Q ⟨A,H₀,B,S,k⟩=>
 aH S λv H1 e1 d1=>dz (S.mono e1) λvs H2 e2 d2=>k _ H2 (e1.trans e2) (.cons (d1.mono (au e2 λ_ z=>z)) d2)
theorem cy {ds:List D} {m} (h:PA X es (dA X.K C τ ds)) (hl:Nat.ble ds.length 1000=true:=by rfl):PE X (.Tuple es m pos) (dE X.K C τ (.d (.tup ds))):=peW (m3 h) λσ H Q q=>by
 obtain ⟨A,H₀,B,S,k⟩:=cq q
 refine dz S λvs H1 e1 d1=>⟨by rw [d1.length]; exact Nat.le_of_lt (fy (Nat.le_of_ble_eq_true hl)),λp hp=>k _ _ (e1.trans (aj hp _)) ?_⟩
 exact .tup (SqT.of (iX (S.mono e1).vd hp)) (d1.mono (au (aj hp _) λ_ z=>z))
theorem cu {ds:List D} (h:PA X es (dA X.K C τ ds)) (hl:Nat.ble ds.length 1000=true:=by rfl):PE X (.List es pos) (dE X.K C τ (.o ds)):=peW (nX h) λσ H Q ⟨A,H₀,B,S,k⟩=>
 dz S λvs H1 e1 d1=>⟨by rw [d1.length]; exact Nat.le_of_lt (fy (Nat.le_of_ble_eq_true hl)),λp hp=>k _ _ [p] (e1.trans (aj hp _)) (λb hb=>by
   obtain rfl:=List.mem_singleton.mp hb
   exact ⟨e1.free hp,_,aF⟩) ⟨p,vs,rfl,rfl,aF,d1.mono λb o z=>by
     obtain ⟨z1,z2⟩:=ao.mp z
     refine ao.mpr ⟨λy=>?_,aj hp _ _ _ z2⟩
     rcases y with y | y
     · exact z1 y
     · rw [List.mem_singleton.mp y] at z2; rw [hp] at z2; cases z2⟩⟩
end
noncomputable def spD (K:PySem.W.Frag) (Φ:List D->Sl->Prop):Sp:=λvs H Q _=>∃ A ds s,(∀ b,A b->∃ o,H b=some o)/\aq K (hd H A) vs ds/\Φ ds s /\
 ∀ v H' bs,ag H H'->Fr H H' bs->a9 K (hd H' λb=>A b\/b ∈ bs) H' (some v) bs s->Q v H'
noncomputable def Cal (P:Program) (w:World) (K:PySem.W.Frag) (mg:Str->Option Value) (base:Heap) (k:Nat) (n:Str) (Φ:List D->Sl->Prop):Prop:=
 ∃ f fd ps,aI P w K mg base CX0 k f fd ps (spD K Φ)/\mg n=some (.ref f)/\PySem.W.keepIn K (.ref f)=true/\Binds K fd ps []
theorem Cal.mono {P:Program} {w:World} {K:PySem.W.Frag} {mg:Str->Option Value} {base:Heap} {j k:Nat} {n:Str} {Φ:List D->Sl->Prop} (c:Cal P w K mg base j n Φ) (h:j<=k):Cal P w K mg base k n Φ:=
 let ⟨f,fd,ps,F,r⟩:=c; ⟨f,fd,ps,F.mono h,r⟩
noncomputable def ai:List Str:=["len","abs","max","min","int","bool","list","tuple","str","isinstance","range","enumerate","all","zip","sorted","sum","any","reversed"]
structure Bk (X:Cx) (k:Nat):Prop where
 room:b8 k X.A
 calm:X.calm=true
 blt:∀ x ∈ ai,X.mg x=none
 po:PassesOwn (model X.prog X.w) X.A X.env X.xe
section
variable {X:Cx} {C:Bool} {τ:List Sl} {x y z:D} {a b e:Expr} {es:List Expr} {pos p:Pos} {k:Nat} {s:Sl} {ds:List D} {i j:Int}
theorem x_call {n:Str} {Φ:List D->Sl->Prop} (B:Bk X k) (c:Cal X.prog X.w X.K X.mg X.base k n Φ) (ha:PA X (e :: es) (dA X.K C τ ds)) (h:Φ ds s) (hg:Gl X n:=by rfl) (hdb:(n == ("__debug__" : Str))=false:=by decide)
   (he:starEach (e :: es) X.env=(false,eval e X.env) :: starEach es X.env:=by rfl) (hpl:(backTo pos (starEach es X.env)).any (·.1)=false:=by rfl):PE X (.Call (.Name n p) (e :: es) [] pos) (dE X.K C τ s):=by
 obtain ⟨f,fd,ps,F,hm,hk,hb⟩:=c
 refine peW (me F B.room hg hm hk hb .nil pQ ha hdb he hpl) λσ H Q ⟨A,H₀,B,S,q⟩=>dz S λvs H1 e1 d1=>?_
 rw [List.append_nil]
 exact ⟨vw C A B,ds,s,(S.mono e1).vd,d1,h,λv H' bs e2 hf h2=>q v H' bs (e1.trans e2) (λb hb=>⟨e1.free (hf b hb).1,(hf b hb).2⟩) h2⟩
noncomputable def eR (X:Cx) (f:Value) (ds:List D) (s:Sl):Prop:=∃ r:List V->Hp->VK->Prop,cj X f r /\
 ∀ (M:Addr->Prop) (vs:List V) (H:Hp) (Q:VK),(∀ b,M b->∃ o,H b=some o)->aq X.K (hd H M) vs ds->(∀ u H' bs,ag H H'->Fr H H' bs->a9 X.K (hd H' λb=>M b\/b ∈ bs) H' (some u) bs s->Q u H')->r vs H Q
theorem kW {r:List V->Hp->VK->Prop} (hr:∀ (M:Addr->Prop) (vs:List V) (H:Hp) (Q:VK),(∀ b,M b->∃ o,H b=some o)->aq X.K (hd H M) vs ds->(∀ u H' bs,ag H H'->Fr H H' bs->a9 X.K (hd H' λb=>M b\/b ∈ bs) H' (some u) bs s->Q u H')->r vs H Q) :
   ∀ σ H Q,dE X.K C τ s σ H Q->tCB r (dA X.K C τ ds) σ H Q:=λσ H Q ⟨A,H₀,B,S,q⟩=>
 dz S λvs H1 e1 d1=>hr (vw C A B) vs H1 Q (S.mono e1).vd d1 λv H' bs e2 hf h2=>q v H' bs (e1.trans e2) (λb hb=>⟨e1.free (hf b hb).1,(hf b hb).2⟩) h2
theorem a8 {n:Str} {id:String} (B:Bk X k) (ha:PA X (e :: es) (dA X.K C τ ds)) (c:eR X (.builtin id) ds s) (hn:n ∈ ai:=by decide) (hg:Gl X n:=by rfl) (hv:bootBuiltins n=some (.builtin id):=by decide +kernel) (h1:n ≠ "__name__":=by decide) (hdb:(n == ("__debug__" : Str))=false:=by decide)
   (he:starEach (e :: es) X.env=(false,eval e X.env) :: starEach es X.env:=by rfl) (hpl:(backTo pos (starEach es X.env)).any (·.1)=false:=by rfl):PE X (.Call (.Name n p) (e :: es) [] pos) (dE X.K C τ s):=by
 obtain ⟨r,h1,h2⟩:=c
 exact peW (g0 h1 hg (B.blt _ hn) hv ha (by assumption) hdb he hpl) (kW h2)
theorem jG {n:Str} {T:String} (B:Bk X k) (ha:PA X (e :: es) (dA X.K C τ ds)) (c:eR X (.type T) ds s) (hn:n ∈ ai:=by decide) (hg:Gl X n:=by rfl) (hv:bootBuiltins n=some (.type T):=by decide +kernel) (h1:n ≠ "__name__":=by decide) (hdb:(n == ("__debug__" : Str))=false:=by decide)
   (he:starEach (e :: es) X.env=(false,eval e X.env) :: starEach es X.env:=by rfl) (hpl:(backTo pos (starEach es X.env)).any (·.1)=false:=by rfl):PE X (.Call (.Name n p) (e :: es) [] pos) (dE X.K C τ s):=by
 obtain ⟨r,h1,h2⟩:=c
 exact peW (j1 h1 hg (B.blt _ hn) hv ha (by assumption) hdb he hpl) (kW h2)
theorem dh {K:PySem.W.Frag} {H:Hp} {M:Addr->Prop} {v:V} (h:Den K (hd H M) v x):a9 K (hd H λb=>M b\/b ∈ ([]:List Addr)) H (some v) [] (.d x):=⟨rfl,v,rfl,h.mono (au (ag.refl _) λ_ z=>z.elim id λz=>nomatch z)⟩
theorem bV {H H':Hp}:Fr H H' []:=λ_ z=>nomatch z
theorem b6 {xs:List D}:eR X (.builtin "len") [.lst xs] (.d (.int xs.length)):=⟨_,cY,λM vs H Q _ d q=>by
 cases d with
 | cons d r=>
   cases r
   cases d with
   | lst h r=>
     refine ⟨_,_,rfl,.inl (ay aQ h),?_⟩
     rw [r.length]
     exact q _ H [] (ag.refl _) bV (dh .int)⟩
theorem ly {xs:List D}:eR X (.builtin "len") [.tup xs] (.d (.int xs.length)):=⟨_,cY,λM vs H Q _ d q=>by
 cases d with
 | cons d r=>
   cases r
   cases d with
   | tup h r=>
     refine ⟨_,_,rfl,.inr (aP aQ h),?_⟩
     rw [r.length]
     exact q _ H [] (ag.refl _) bV (dh .int)⟩
noncomputable def iW (i:Int):Int:=if i < 0 then -i else i
theorem fq:eR X (.builtin "abs") [.int i] (.d (.int (iW i))):=⟨_,kn,λM vs H Q _ d q=>by
 cases d with
 | cons d r=>
   cases r
   cases d
   exact ⟨_,rfl,q _ H [] (ag.refl _) bV (dh .int)⟩⟩
theorem pZ (hc:X.calm=true):eR X (.builtin "max") [.int i,.int j] (.d (.int (if j > i then j else i))):=⟨_,jX hc,λM vs H Q _ d q=>by
 cases d with
 | cons d r=>
   cases r with
   | cons d' r=>
     cases r
     cases d
     cases d'
     exact ⟨_,_,rfl,q _ H [] (ag.refl _) bV (dh .int)⟩⟩
theorem qb (hc:X.calm=true):eR X (.builtin "min") [.int i,.int j] (.d (.int (if j < i then j else i))):=⟨_,j5 hc,λM vs H Q _ d q=>by
 cases d with
 | cons d r=>
   cases r with
   | cons d' r=>
     cases r
     cases d
     cases d'
     exact ⟨_,_,rfl,q _ H [] (ag.refl _) bV (dh .int)⟩⟩
theorem iB {K:PySem.W.Frag} {H:Hp} {M:Addr->Prop} {p:Addr} {vs:List V} {xs:List D} (hp:H p=none) (d:aq K (hd H M) vs xs) :
   ag H (upd H p (.lst vs))/\Fr H (upd H p (.lst vs)) [p]/\a9 K (hd (upd H p (.lst vs)) λb=>M b\/b ∈ [p]) (upd H p (.lst vs)) (some (.ref p)) [p] (.o xs):=
 ⟨aj hp _,λb hb=>by
   obtain rfl:=List.mem_singleton.mp hb
   exact ⟨hp,_,aF⟩,p,vs,rfl,rfl,aF,d.mono λb o z=>by
     obtain ⟨z1,z2⟩:=ao.mp z
     refine ao.mpr ⟨λy=>?_,aj hp _ _ _ z2⟩
     rcases y with y | y
     · exact z1 y
     · rw [List.mem_singleton.mp y] at z2; rw [hp] at z2; cases z2⟩
theorem kx {K:PySem.W.Frag} {H:Hp} {vs:List V} {ds:List D} {i:Int} {d:D} (r:aq K H vs ds) (h:atI ds i=some d):∃ v,atI vs i=some v/\Den K H v d:=by
 unfold atI at h ⊢
 rw [r.length]
 cases e:ixN ds.length i with
 | none=>rw [e] at h; cases h
 | some j=>rw [e] at h; exact r.get h
noncomputable def lX (X:Cx) (x y z:D):Prop:=∃ r:R2,IxR X r /\
 ∀ (M:Addr->Prop) (v w:V) (H:Hp) (Q:VK),(∀ b,M b->∃ o,H b=some o)->Den X.K (hd H M) v x->Den X.K (hd H M) w y->(∀ u H',ag H H'->Den X.K (hd H' M) u z->Q u H')->r v w H Q
theorem aL (ha:PE X a (dE X.K C τ (.d x))) (hb:PE X b (dE X.K C τ (.d y))) (ho:lX X x y z) (hs:gx b:=by exact λ_ _=>rfl):PE X (.Subscript a b pos) (dE X.K C τ (.d z)):=by
 obtain ⟨r,h1,h2⟩:=ho
 exact peW (mV h1 ha hb hs) (two h2)
theorem a4 {xs:List D} (h:atI xs i=some z):lX X (.lst xs) (.int i) z:=⟨_,jg,λM v w H Q _ d1 d2 q=>by
 cases d2
 cases d1 with
 | lst hs r=>
   obtain ⟨v,e,d⟩:=kx r h
   exact ⟨_,_,_,_,rfl,rfl,ay aQ hs,e,q _ H (ag.refl _) d⟩⟩
theorem aR {xs:List D} (h:atI xs i=some z):lX X (.tup xs) (.int i) z:=⟨_,nG,λM v w H Q _ d1 d2 q=>by
 cases d2
 cases d1 with
 | tup hs r=>
   obtain ⟨v,e,d⟩:=kx r h
   exact ⟨_,_,_,_,rfl,rfl,aP aQ hs,e,q _ H (ag.refl _) d⟩⟩
noncomputable def dO (K:PySem.W.Frag) (τ:List Sl) (c:Option Int):TO:=λσ H Q=>∃ A H₀ B,Sta K A H₀ τ B σ H/\∀ H',ag H H'->Q c H'
theorem pA {e:Option Expr} {t t':TO} (h:PO X e t) (f:∀ σ H Q,t' σ H Q->t σ H Q):PO X e t':=λpins s σ H Q I q=>h pins s σ H Q I (f σ H Q q)
theorem iJ:PO X none (dO X.K τ none):=pA lJ λσ H Q ⟨A,H₀,B,S,k⟩=>k H (ag.refl _)
theorem iK (h:PE X e (dE X.K false τ (.d (.int i)))):PO X (some e) (dO X.K τ (some i)):=pA (l3 h) λσ H Q ⟨A,H₀,B,S,k⟩=>aH S λv H1 e1 d1=>by
 cases d1
 exact ⟨_,rfl,k H1 e1⟩
noncomputable def cutD (xs:List D) (lo hi:Option Int):List D:=(xs.drop (HT.sIx xs.length 0 lo)).take (HT.sIx xs.length xs.length hi - HT.sIx xs.length 0 lo)
theorem pE {lo hi:Option Expr} {l u:Option Int} {xs:List D} {p2:Pos} (ha:PE X a (dE X.K C τ (.d (.lst xs)))) (hl:PO X lo (dO X.K τ l)) (hu:PO X hi (dO X.K τ u)):PE X (.Subscript a (.Slice lo hi none p2) pos) (dE X.K C τ (.o (cutD xs l u))):=
 peW (hZ mq ha hl hu) λσ H Q ⟨A,H₀,B,S,k⟩=>aH S λv H1 e1 d1=>⟨A,H₀,B,S.mono e1,λH2 e2=>⟨A,H₀,B,(S.mono e1).mono e2,λH3 e3=>by
   cases d1 with
   | @lst _ ws _ h r=>
     have h:=ay (e2.trans e3) (ay aQ h)
     refine ⟨_,_,rfl,h,λp hp=>?_⟩
     have r:=r.mono (au (e2.trans e3) λ_ z=>z)
     have r':aq X.K (hd H3 (vw C A B)) (j3 ws l u) (cutD xs l u):=by
       unfold j3 cutD
       rw [r.length]
       exact (r.drop _).take _
     obtain ⟨z1,z2,z3⟩:=iB (K:=X.K) hp r'
     exact k _ _ [p] (e1.trans (e2.trans (e3.trans z1))) (λb hb=>⟨(e1.trans (e2.trans e3)).free (z2 b hb).1,(z2 b hb).2⟩) z3⟩⟩
inductive Ty where
 | int | bool | str | list | tuple
noncomputable def tyN:Ty->String
 | .int=>"int" | .bool=>"bool" | .str=>"str" | .list=>"list" | .tuple=>"tuple"
noncomputable def pS:D->String
 | .non=>"NoneType" | .bl _=>"bool" | .int _=>"int" | .str _=>"str" | .tup _=>"tuple" | .lst _=>"list" | .box _=>"dict"
noncomputable def dW:Ty->D->Bool
 | .int,.int _=>true
 | .int,.bl _=>true
 | .bool,.bl _=>true
 | .str,.str _=>true
 | .list,.lst _=>true
 | .tuple,.tup _=>true
 | _,_=>false
theorem oo (K:PySem.W.Frag) (d:D) (t:Ty):PySem.W.kitOne K (.type (pS d)) (.type (tyN t))=some (dW t d):=by
 cases d <;> cases t <;> (show PySem.W.kitOne K (.type _) (.type _)=some _) <;> with_unfolding_all rfl
theorem m5 (t:Ty):cj X (.builtin "isinstance") (λxs H Q=>∃ G x d,ag G H/\xs=[x,.ty (tyN t)]/\Den X.K G x d/\Q (.bl (dW t d)) H):=by
 intro pins s σ H xs us Q I r q
 obtain ⟨G,x,d,sg,rfl,dx,q⟩:=q
 obtain ⟨u,w,rfl,rx,rt⟩:∃ u w,us=[u,w]/\RelV x u/\RelV (.ty (tyN t)) w:=by
   cases r with
   | cons r1 r=>cases r with
     | cons r2 r=>cases r; exact ⟨_,_,rfl,r1,r2⟩
 cases (show w=Value.type (tyN t) from rt)
 have kt:=oo X.K d t
 have fin:∀ tk,EP X pins σ Q (.bool (dW t d)) { s with toks:=tk }:=λtk=>⟨.bl _,H,I.tok _,rfl,q⟩
 cases dx with
 | non=>cases (show u=Value.none from rx); exact PySem.W.kia_one PySem.W.kitx_none I.kIn True.intro kt (λz=>nomatch z) fin
 | bl=>cases (show u=Value.bool _ from rx); exact PySem.W.kia_one PySem.W.kitx_bool I.kIn True.intro kt (λz=>nomatch z) fin
 | int=>obtain ⟨t',z⟩:=(show ∃ t,u=Value.int _ t from rx); cases z; exact PySem.W.kia_one PySem.W.kitx_int I.kIn True.intro kt (λz=>nomatch z) fin
 | str=>obtain ⟨t',z⟩:=(show ∃ t,u=Value.str _ t from rx); cases z; exact PySem.W.kia_one PySem.W.kitx_str I.kIn True.intro kt (λz=>nomatch z) fin
 | tup h r1=>
   cases (show u=Value.ref _ from rx)
   obtain ⟨its,_,⟨o,h1,h2,_⟩,_⟩:=I.tuple (aP sg h)
   exact PySem.W.kia_one PySem.W.kitx_tuple I.kIn ⟨o,h1,h2⟩ kt (λz=>nomatch z) fin
 | lst h r1=>
   cases (show u=Value.ref _ from rx)
   obtain ⟨its,_,⟨o,n,h1,h2,_⟩,_⟩:=I.list (ay sg h)
   exact PySem.W.kia_one PySem.W.kitx_list I.kIn ⟨o,h1,h2⟩ kt (λz=>nomatch z) fin
 | @box a x h=>
   cases (show u=Value.ref _ from rx)
   obtain ⟨o',h1,h2⟩:=x.isd h
   obtain ⟨o,h3,h4⟩:=h2 _ _ _ _ (I.hok a _ (sg _ _ h1))
   exact PySem.W.kia_one PySem.W.kitx_dict I.kIn ⟨o,h3,h4⟩ kt (λz=>nomatch z) fin
theorem bA {n:Str} {q:Pos} (t:Ty) (B:Bk X k) (ha:PE X a (dE X.K false τ (.d x))) (hn:n ∈ ai:=by decide) (ht:bootBuiltins n=some (.type (tyN t)):=by decide +kernel) (hg:Gl X "isinstance":=by rfl) (hg':Gl X n:=by rfl) (h1:n ≠ "__name__":=by decide) (hdb:(n == ("__debug__" : Str))=false:=by decide)
   (he:starEach [a,.Name n q] X.env=(false,eval a X.env) :: starEach [.Name n q] X.env:=by rfl) (hpl:(backTo pos (starEach [.Name n q] X.env)).any (·.1)=false:=by rfl):PE X (.Call (.Name "isinstance" p) [a,.Name n q] [] pos) (dE X.K C τ (.d (.bl (dW t x)))):=by
 refine peW (g0 (m5 t) hg (B.blt _ (by decide)) (by decide +kernel) (cN ha (cN (lU (v:=.ty (tyN t)) hg' (B.blt _ hn) ht rfl h1 hdb) fV) he) (by decide) (by decide) he hpl) λσ H Q q=>?_
 obtain ⟨A,H₀,B,S,k⟩:=cq q
 exact aH S λv H1 e1 d1=>⟨_,v,x,aQ,rfl,d1,k _ H1 e1 .bl⟩
end
section
variable {K:PySem.W.Frag} {A:Addr->Prop} {H₀ H H':Hp} {τ:List Sl} {B:Nat->List Addr} {σ:L2.St}
theorem Sta.put (S:Sta K A H₀ τ B σ H) {i:Nat} {a:Addr} {xs ys:List D} {vs:List V} (hi:τ[i]?=some (.o xs)) (hB:B i=[a]) (d:aq K (hd H (own A B)) vs ys):Sta K A H₀ (τ.set i (.o ys)) B σ (upd H a (.lst vs)):=by
 have ha:own A B a:=.inr ⟨i,by rw [hB]; exact List.mem_singleton.mpr rfl⟩
 have ne:∀ b,b ≠ a->upd H a (.lst vs) b=H b:=λb h=>ak h
 have sm:ag (hd H (own A B)) (hd (upd H a (.lst vs)) (own A B)):=λb o z=>by
   obtain ⟨z1,z2⟩:=ao.mp z
   exact ao.mpr ⟨z1,by rw [ne b (λe=>z1 (e ▸ ha))]; exact z2⟩
 have f0:H₀ a=none:=S.fr i a (by rw [hB]; exact List.mem_singleton.mpr rfl)
 have hs:ag H₀ (upd H a (.lst vs)):=λb o z=>by rw [ne b (λe=>by rw [e,f0] at z; cases z)]; exact S.same b o z
 refine ⟨hs,by rw [List.length_set,S.len],λj t hj=>?_,S.fr,S.uq,S.ad,λj b hb=>?_⟩
 · by_cases ej:j=i
   · subst ej
     have hl:=(List.getElem?_eq_some_iff.mp hi).1
     rw [List.getElem?_set_self hl] at hj
     cases hj
     obtain ⟨a',vs',e1,e2,_,_⟩:=S.sl j _ hi
     rw [hB] at e1
     cases e1
     exact ⟨a,vs,hB,e2,aF,d.mono sm⟩
   · rw [List.getElem?_set_ne (λz=>ej z.symm)] at hj
     have q:=S.sl j t hj
     have off:∀ b ∈ B j,b ≠ a:=λb hb e=>ej (S.uq j i a (e ▸ hb) (by rw [hB]; exact List.mem_singleton.mpr rfl))
     cases t with
     | un=>exact q
     | d x=>obtain ⟨z,u,e,d⟩:=q; exact ⟨z,u,e,d.mono sm⟩
     | o zs=>
       obtain ⟨c,ws,z1,z2,z3,z4⟩:=q
       exact ⟨c,ws,z1,z2,by rw [ne c (off c (by rw [z1]; exact List.mem_singleton.mpr rfl))]; exact z3,z4.mono sm⟩
     | n t=>
       obtain ⟨z0,u,z1,z2⟩:=q
       exact ⟨z0,u,z1,z2.frame sm λb hb=>ne b (off b hb)⟩
     | x E=>
       obtain ⟨c,o,z1,z2,z3,z4⟩:=q
       exact ⟨c,o,z1,z2,by rw [ne c (off c (by rw [z1]; exact List.mem_singleton.mpr rfl))]; exact z3,E.mono sm z4⟩
 · by_cases e:b=a
   · subst e; exact ⟨_,aF⟩
   · rw [ne b e]; exact S.bd j b hb
theorem Sta.fz (S:Sta K A H₀ τ B σ H) {i:Nat} {s:Sl} {x:D} (hi:τ[i]?=some s) (hx:fzD s=some x):Sta K A H₀ (τ.set i (.d x)) (upB B i []) σ H:=
 S.less (λ_ z=>nomatch z) λG g hv=>by
   obtain ⟨u,e,d⟩:=(S.sl i s hi).den (G':=G) g (λb hb o ho=>hv b o hb (λz=>nomatch z) ho) hx
   exact ⟨rfl,u,e,d⟩
end
section
variable {X:Cx} {C:Bool} {τ:List Sl} {x y z:D} {a b e c:Expr} {es:List Expr} {pos p:Pos} {k:Nat} {s:Sl} {ds:List D} {N:Po} {st:Stmt} {rest body els:List Stmt}
theorem bw (h:N.nx τ):PSs X [] (dS X.K τ N):=lz lQ λD σ H ⟨A,H₀,B,S,M⟩=>M.nx τ B σ H h S
theorem bh {M:List Sl->Prop} (h1:PS X st (dS X.K τ { N with nx:=M })) (h2:∀ τ',M τ'->PSs X rest (dS X.K τ' N)):PSs X (st :: rest) (dS X.K τ N):=by
 have h:PSs X rest λD σ H=>∃ τ',M τ'/\dS X.K τ' N D σ H:=λpins s σ H D I ⟨τ',m,q⟩=>h2 τ' m pins s σ H D I q
 exact lz (ki h1 h) λD σ H ⟨A,H₀,B,S,Me⟩=>⟨A,H₀,B,S,λτ' B' σ' H' m S'=>⟨τ',m,A,H₀,B',S',Me⟩,Me.bk,Me.ct,Me.rt,Me.xc⟩
theorem oZ (i:Nat) {s:Sl} {x:D} (h:PSs X rest (dS X.K (τ.set i (.d x)) N)) (hi:τ[i]?=some s:=by rfl) (hx:fzD s=some x:=by rfl):PSs X rest (dS X.K τ N):=lz h λD σ H ⟨A,H₀,B,S,Me⟩=>⟨A,H₀,_,S.fz hi hx,Me⟩
theorem aC (i:Nat) {n:Str} {p:Pos} (hN:X.N.Nodup) (he:PE X e (dE X.K true τ s)) (hr:PSs X rest (dS X.K (τ.set i s) N)) (hi:X.N[i]?=some n:=by rfl) (hx:Loc X.env.scope n:=by first | exact .inl rfl | exact .inr rfl) (hs:swapsWith e (some (.Name n p)) pos.line X.env=pure false:=by rfl)
   (hf:X.fn n=true\/X.env.scope.names.lookup n=some .local:=by first | exact .inl rfl | exact .inr rfl | assumption):PSs X (.Assign [.Name n p] e pos :: rest) (dS X.K τ N):=
 bh (M:=(·=τ.set i s)) (psW (om hN hi hx he hs hf) λD σ H ⟨A,H₀,B,S,Me⟩=>⟨A,H₀,B,S,λv H' bs e hf h=>Me.nx _ _ _ _ rfl (S.set e hf h)⟩) λ_ e=>e ▸ hr
theorem ee (he:PE X e (dE X.K true τ s)) (hr:PSs X rest (dS X.K τ N)) (hs:swapsWith e none pos.line X.env=pure false:=by rfl):PSs X (.Expr e pos :: rest) (dS X.K τ N):=
 bh (M:=(·=τ)) (psW (gn he hs) λD σ H ⟨A,H₀,B,S,Me⟩=>⟨A,H₀,B,S,λv H' bs e hf h=>Me.nx _ _ _ _ rfl (S.mono e)⟩) λ_ e=>e ▸ hr
theorem aB (he:PE X e (dE X.K false τ s)) (h:N.rt s):PSs X (.Return (some e) pos :: rest) (dS X.K τ N):=
 bh (M:=λ_=>False) (psW (lA he) λD σ H ⟨A,H₀,B,S,Me⟩=>⟨A,H₀,B,S,λv H' bs e hf q=>Me.rt v H' bs s h (S.same.trans e) (λb hb=>⟨S.same.free (hf b hb).1,(hf b hb).2⟩) q⟩) λ_ e=>e.elim
theorem iT (i:Nat) {n:Str} (h:N.rt s) (hi:τ[i]?=some s:=by rfl) (h0:s ≠ .un:=by exact nofun) (hN:X.N[i]?=some n:=by rfl) (hv:Vis X.env.scope n:=by first | exact Or.inl rfl | exact Or.inr (Or.inl rfl) | exact Or.inr (Or.inr rfl))
   (hd:(n == ("__debug__" : Str))=false:=by decide) (hcd:(n == ("__classdict__" : Str))=false:=by decide):PSs X (.Return (some (.Name n p)) pos :: rest) (dS X.K τ N):=
 bh (M:=λ_=>False) (psW (lA (di hN hv hd hcd)) λD σ H ⟨A,H₀,B,S,Me⟩=>by
   have q:=S.sl i s hi
   obtain ⟨u,e⟩:∃ u,(σ[i]?).join=some u:=by
     cases s with
     | un=>exact absurd rfl h0
     | d x=>obtain ⟨_,u,e,_⟩:=q; exact ⟨u,e⟩
     | o xs=>obtain ⟨_,_,_,e,_⟩:=q; exact ⟨_,e⟩
     | n t=>obtain ⟨_,u,e,_⟩:=q; exact ⟨u,e⟩
     | x E=>obtain ⟨_,_,_,e,_⟩:=q; exact ⟨_,e⟩
   rw [e] at q
   exact ⟨u,slot_of e,Me.rt u H (B i) s h S.same (λb hb=>⟨S.fr i b hb,S.bd i b hb⟩) (q.mono (au (ag.refl _) λb z=>z.elim .inl λz=>.inr ⟨i,z⟩) (ag.refl _))⟩) λ_ e=>e.elim
theorem mY {H H':Hp} {σ:L2.St} {D:Ends} {A:Addr->Prop} {H₀:Hp} {B:Nat->List Addr} (S:Sta X.K A H₀ τ B σ H) (Me:Meets X.K A H₀ N D) (e:ag H H'):dS X.K τ N D σ H':=⟨A,H₀,B,S.mono e,Me⟩
theorem qO {t:Bool} (hc:PT X c (dT X.K τ t)) (ha:t=true->PSs X body (dS X.K τ N)) (hb:t=false->PSs X els (dS X.K τ N)):PS X (.If c body els pos) (dS X.K τ N):=by
 cases t with
 | true=>exact psW (mF hc (ha rfl) fG) λD σ H ⟨A,H₀,B,S,Me⟩=>⟨A,H₀,B,S,λH' e=>ie (mY S Me e)⟩
 | false=>exact psW (mF hc fG (hb rfl)) λD σ H ⟨A,H₀,B,S,Me⟩=>⟨A,H₀,B,S,λH' e=>jQ (mY S Me e)⟩
theorem oe {t:Bool} {M:List Sl->Prop} (hc:PT X c (dT X.K τ t)) (ha:t=true->PSs X body (dS X.K τ { N with nx:=M })) (hb:t=false->PSs X els (dS X.K τ { N with nx:=M })) (hr:∀ τ',M τ'->PSs X rest (dS X.K τ' N)):PSs X (.If c body els pos :: rest) (dS X.K τ N):=
 bh (qO hc ha hb) hr
theorem bN {t:Bool} (hc:PT X c (dT X.K τ t)) (ha:t=true->PSs X body (dS X.K τ { N with nx:=λ_=>False })) (hr:t=false->PSs X rest (dS X.K τ N)):PSs X (.If c body [] pos :: rest) (dS X.K τ N):=by
 cases t with
 | true=>exact oe (M:=λ_=>False) hc ha (λz=>nomatch z) λ_ z=>z.elim
 | false=>exact oe (M:=(·=τ)) hc (λz=>nomatch z) (λ_=>bw rfl) λ_ e=>e ▸ hr rfl
theorem aT {t:Bool} (hc:PT X c (dT X.K τ t)) (ht:t=false) (hr:PSs X rest (dS X.K τ N)):PSs X (.If c body [] pos :: rest) (dS X.K τ N):=bN hc (λz=>by rw [ht] at z; cases z) λ_=>hr
theorem k8 (i:Nat) {n:Str} {xs:List D} {ap cp:Pos} (he:PE X e (dE X.K true τ (.d x))) (hl:xs.length < 1000000) (hr:PSs X rest (dS X.K (τ.set i (.o (xs++[x]))) N)) (hi:τ[i]?=some (.o xs):=by rfl) (hN:X.N[i]?=some n:=by rfl)
   (hv:Vis X.env.scope n:=by first | exact Or.inl rfl | exact Or.inr (Or.inl rfl) | exact Or.inr (Or.inr rfl)) (hd:(n == ("__debug__" : Str))=false:=by decide) (hcd:(n == ("__classdict__" : Str))=false:=by decide)
   (hfew:((backTo cp (starEach [e] X.env)).all (λx=>!x.1) && (backToKw cp (keywordEach [] X.env)).all (λx=>x.1.isSome) && decide (([e]:List Expr).length + ([]:List Keyword).length + (if ([]:List Keyword).isEmpty then 0 else 1) < 30))=true:=by rfl)
   (hline:(ap.endLine == cp.line)=true:=by rfl) (hst:starEach [e] X.env=(false,eval e X.env) :: starEach [] X.env:=by rfl) (hpl:(backTo cp (starEach [] X.env)).any (·.1)=false:=by rfl)
   (hs:swapsWith (.Call (.Attribute (.Name n p) "append" ap) [e] [] cp) none pos.line X.env=pure false:=by rfl) (hbase:attributeBase (.Name n p) "append" X.env (eval (.Name n p) X.env)=eval (.Name n p) X.env:=by rfl) :
   PSs X (.Expr (.Call (.Attribute (.Name n p) "append" ap) [e] [] cp) pos :: rest) (dS X.K τ N):=
 bh (M:=(·=τ.set i (.o (xs++[x])))) (psW (gn (mE PySem.F.plainAttrs_list PySem.F.slot_list_append PySem.F.type_list_append dg (di hN hv hd hcd) (cN he fV hst) hbase hfew hline hst hpl) hs) λD σ H ⟨A,H₀,B,S,Me⟩=>by
   obtain ⟨l,vs,hb,e1,e2,d⟩:=S.sl i _ hi
   refine ⟨_,slot_of e1,.inl ⟨rfl,_,SqL.of e2⟩,aH S λv H1 e3 d1=>⟨l,vs,v,rfl,rfl,e3 _ _ e2,by rw [d.length]; exact Nat.lt_trans hl (by decide),?_⟩⟩
   exact Me.nx _ _ _ _ rfl ((S.mono e3).put hi hb ((d.mono (au e3 λ_ z=>z)).append (.cons d1 .nil)))) λ_ e=>e ▸ hr
end
end Hy
namespace Hy
open PySem PySem.Spec PyProof.Rows L2
open Ev (D Den aq aj aP ay Ite Itz pV nr i7 iV ax cg b7 PTs br cx)
noncomputable def Yl (K:PySem.W.Frag) (J:L2.It) (xs:List D) (G:Hp):Prop:=∀ H,ag G H->(∀ i,xs.length<=i->J.stop i H)/\∀ (i:Nat) (h:i < xs.length),J.go i H /\
 ∀ x H',J.yld i H x H'->ag H H'/\∀ M:Addr->Prop,(∀ b,M b->∃ o,H b=some o)->ag G (hd H M)->Den K (hd H' M) x xs[i]
noncomputable def dI (K:PySem.W.Frag) (τ:List Sl) (xs:List D):TI:=λσ H R=>∃ A H₀ B,Sta K A H₀ τ B σ H/\∀ J H',ag H H'->Yl K J xs (hd H' (own A B))->R J H'
noncomputable def dG (K:PySem.W.Frag) (τ:List Sl) (x:D) (τ':List Sl):TG:=λv σ H Q=>∃ A H₀ B,Sta K A H₀ τ B σ H/\Den K (hd H (own A B)) v x/\∀ σ' B',Sta K A H₀ τ' B' σ' H->Q σ' H
theorem piW {X:Cx} {tg e:Expr} {t t':TI} (h:PI X tg e t) (f:∀ σ H Q,t' σ H Q->t σ H Q):PI X tg e t':=λpins s σ H Q I q=>h pins s σ H Q I (f σ H Q q)
theorem pgW {X:Cx} {e:Expr} {t t':TG} (h:PG X e t) (f:∀ v σ H Q,t' v σ H Q->t v σ H Q):PG X e t':=λpins s σ H v u Q I r q=>h pins s σ H v u Q I r (f v σ H Q q)
section
variable {K:PySem.W.Frag} {G:Hp} {a:Addr} {vs:List V} {xs:List D}
theorem lR (h:SqL K G a vs) (r:aq K G vs xs):Yl K (Itl K a) xs G:=by
 intro H sg
 have hl:=r.length
 refine ⟨λi hi=>⟨vs,ay sg h,by omega⟩,λi hi=>?_⟩
 obtain ⟨v,hv,dv⟩:=r.get (List.getElem?_eq_getElem hi)
 refine ⟨⟨vs,v,ay sg h,hv⟩,λx H' ⟨e1,e2⟩=>?_⟩
 subst e1
 have ex:x=v:=by have:=e2 vs (ay sg h); rw [hv] at this; exact (Option.some.inj this).symm
 subst ex
 exact ⟨ag.refl _,λM _ sv=>dv.mono sv⟩
noncomputable def gA (lo:Int) (n:Nat):List D:=(List.range n).map λk=>D.int (lo + (k:Nat))
theorem aY (lo:Int) (n:Nat):(gA lo n).length=n:=by simp [gA]
theorem js (lo:Int) (n i:Nat) (h:i < (gA lo n).length):(gA lo n)[i]=.int (lo + (i:Nat)):=by simp [gA]
theorem nO (lo:Int) (n:Nat):Yl K (Itr lo n) (gA lo n) G:=by
 intro H sg
 refine ⟨λi hi=>by rw [aY] at hi; exact hi,λi hi=>?_⟩
 have hi':i < n:=by rw [aY] at hi; exact hi
 refine ⟨hi',λx H' ⟨e1,e2⟩=>?_⟩
 subst e1 e2
 refine ⟨ag.refl _,λM _ sv=>?_⟩
 rw [js]
 exact .int
noncomputable def fZ (xs:List D):List D:=(List.range xs.length).map λi=>D.tup [.int (i:Nat),xs.getD i .non]
theorem cS (xs:List D):(fZ xs).length=xs.length:=by simp [fZ]
theorem iZ (xs:List D) (i:Nat) (h:i < (fZ xs).length):(fZ xs)[i]=.tup [.int (i:Nat),xs.getD i .non]:=by simp [fZ]
theorem nJ (h:SqL K G a vs) (r:aq K G vs xs):Yl K (Ite K a) (fZ xs) G:=by
 intro H sg
 have hl:=r.length
 have el:=cS xs
 refine ⟨λi hi=>⟨vs,ay sg h,by omega⟩,λi hi=>?_⟩
 have hi':i < xs.length:=by omega
 obtain ⟨v,hv,dv⟩:=r.get (List.getElem?_eq_getElem hi')
 refine ⟨⟨vs,v,ay sg h,hv⟩,λy H' ⟨p,x,hp,e0,e1,e2⟩=>?_⟩
 subst e0 e1
 have ex:x=v:=by have:=e2 vs (ay sg h); rw [hv] at this; exact (Option.some.inj this).symm
 subst ex
 refine ⟨aj hp _,λM hM sv=>?_⟩
 rw [iZ,show xs.getD i .non=xs[i] by simp [List.getD,hi']]
 exact .tup (SqT.of (iX hM hp)) (.cons .int (.cons (dv.mono (sv.trans (au (aj hp _) λ_ z=>z))) .nil))
end
section
variable {X:Cx} {C:Bool} {τ:List Sl} {x y z:D} {a b e c tg it:Expr} {es:List Expr} {pos p q:Pos} {k:Nat} {s:Sl} {xs:List D} {N:Po} {st:Stmt} {rest body els:List Stmt}
theorem a6 (h:PE X it (dE X.K true τ (.d (.lst xs)))) (hc:X.calm=true:=by first | rfl | assumption):PI X tg it (dI X.K τ xs):=piW (mf hc h) λσ H R ⟨A,H₀,B,S,k⟩=>aH S λv H1 e1 d1=>by
 cases d1 with
 | lst h r=>exact ⟨_,rfl,⟨_,ay aQ h⟩,k _ H1 e1 (lR h r)⟩
theorem fL {n:Int} (B:Bk X k) (h:PE X a (dE X.K false τ (.d (.int n)))) (h1:-(2 ^ 62)<=n) (h2:n < 2 ^ 62) (hg:Gl X "range":=by rfl) (hs:starEach [a] X.env=[(false,eval a X.env)]:=by rfl):PI X tg (.Call (.Name "range" p) [a] [] pos) (dI X.K τ (gA 0 n.toNat)):=
 piW (j9 (.inl B.calm) hg (B.blt _ (by decide)) (aa h af hs) hs) λσ H R ⟨A,H₀,B,S,k⟩=>dz S λvs H1 e1 d1=>by
   cases d1 with
   | cons d r=>
     cases r
     cases d
     exact ⟨n,rfl,h1,h2,k _ H1 e1 (nO 0 _)⟩
theorem px {ts:List Expr} {m:Nat} {tp:Pos} (B:Bk X k) (h:PE X a (dE X.K true τ (.d (.lst xs)))) (hg:Gl X "enumerate":=by rfl) (hs:starEach [a] X.env=[(false,eval a X.env)]:=by rfl):PI X (.Tuple ts m tp) (.Call (.Name "enumerate" p) [a] [] pos) (dI X.K τ (fZ xs)):=
 piW (i7 B.calm hg (B.blt _ (by decide)) (aa h af hs) hs) λσ H R ⟨A,H₀,B,S,k⟩=>dz S λvs H1 e1 d1=>by
   cases d1 with
   | cons d r=>
     cases r
     cases d with
     | lst h r=>exact ⟨_,rfl,⟨_,ay aQ h⟩,k _ H1 e1 (nJ h r)⟩
theorem oD (i:Nat) {n:Str} (hN:X.N.Nodup) (hi:X.N[i]?=some n:=by rfl) (hx:Loc X.env.scope n:=by first | exact .inl rfl | exact .inr rfl) (hf:X.fn n=true\/X.env.scope.names.lookup n=some .local:=by first | exact .inl rfl | exact .inr rfl | assumption):PG X (.Name n p) (dG X.K τ x (τ.set i (.d x))):=
 pgW (dN (i:=i) hN hi hx hf) λv σ H Q ⟨A,H₀,B,S,d,k⟩=>k _ _ (S.set (ag.refl _) (bs:=[]) (λ_ z=>nomatch z) (dh d))
theorem pY (i j:Nat) {n m:Str} {p2 pt:Pos} {md:Nat} (hc:X.calm=true) (hN:X.N.Nodup) (hi:X.N[i]?=some n:=by rfl) (hj:X.N[j]?=some m:=by rfl) (hx:Loc X.env.scope n:=by first | exact .inl rfl | exact .inr rfl) (hy:Loc X.env.scope m:=by first | exact .inl rfl | exact .inr rfl)
   (hf:X.fn n=true\/X.env.scope.names.lookup n=some .local:=by first | exact .inl rfl | exact .inr rfl | assumption) (hf':X.fn m=true\/X.env.scope.names.lookup m=some .local:=by first | exact .inl rfl | exact .inr rfl | assumption) :
   PG X (.Tuple [.Name n p,.Name m p2] md pt) (dG X.K τ (.tup [x,y]) ((τ.set i (.d x)).set j (.d y))):=by
 refine pgW (kI hc (eC (dN (i:=i) hN hi hx hf) (eC (dN (i:=j) hN hj hy hf') i6))) λv σ H Q ⟨A,H₀,B,S,d,k⟩=>?_
 cases d with
 | tup h r=>
   cases r with
   | cons d1 r=>
     cases r with
     | cons d2 r=>
       cases r
       have S1:=S.set (i:=i) (ag.refl _) (bs:=[]) (λ_ z=>nomatch z) (dh d1)
       have sub:∀ b,own A (upB B i []) b->own A B b:=λb z=>z.elim .inl λ⟨j,z⟩=>(aK z).elim (λz=>nomatch z.2) λz=>.inr ⟨j,z.2⟩
       exact ⟨_,_,rfl,aP aQ h,rfl,_,_,rfl,_,_,rfl,rfl,k _ _ (S1.set (i:=j) (ag.refl _) (bs:=[]) (λ_ z=>nomatch z) (dh (d2.mono (au (ag.refl _) sub))))⟩
theorem Sta.base {K:PySem.W.Frag} {A:Addr->Prop} {H₀ H:Hp} {τ:List Sl} {B:Nat->List Addr} {σ:L2.St} (S:Sta K A H₀ τ B σ H):ag H₀ (hd H λb=>∃ i,b ∈ B i)/\Sta K A (hd H λb=>∃ i,b ∈ B i) τ B σ H:=by
 have s0:ag H₀ (hd H λb=>∃ i,b ∈ B i):=λb o h=>ao.mpr ⟨λ⟨i,z⟩=>(by rw [S.fr i b z] at h; cases h),S.same _ _ h⟩
 exact ⟨s0,aQ,S.len,S.sl,λi b hb=>by
   cases e:hd H (λb=>∃ i,b ∈ B i) b with
   | none=>rfl
   | some o=>exact absurd ⟨i,hb⟩ (ao.mp e).1,S.uq,λb hb=>let ⟨o,q⟩:=S.ad b hb; ⟨o,s0 _ _ q⟩,S.bd⟩
theorem Sta.back {K:PySem.W.Frag} {A:Addr->Prop} {H₀ G H:Hp} {τ:List Sl} {B:Nat->List Addr} {σ:L2.St} (S:Sta K A G τ B σ H) (s:ag H₀ G) (ad:∀ b,A b->∃ o,H₀ b=some o):Sta K A H₀ τ B σ H:=
 ⟨s.trans S.same,S.len,S.sl,λi b hb=>s.free (S.fr i b hb),S.uq,ad,S.bd⟩
theorem mQ {M:Nat->List Sl->Prop} {T:Nat->List Sl->List Sl} (B:Bk X k) (hi:PI X tg it (dI X.K τ xs)) (h0:M 0 τ) (hg:∀ i (h:i < xs.length) τ',M i τ'->PG X tg (dG X.K τ' xs[i] (T i τ')))
   (hb:∀ i,i < xs.length->∀ τ',M i τ'->PSs X body (dS X.K (T i τ') { N with nx:=M (i + 1),ct:=M (i + 1),bk:=N.nx })) (hn:∀ τ',M xs.length τ'->N.nx τ')
   (hs:∀ x,foldedSetIterable it X.env x=pure x:=by intro _; rfl):PS X (.For tg it body [] pos) (dS X.K τ N):=by
 have hg':PG X tg λv σ H Q=>∃ (i:Nat) (h:i < xs.length) (τ':List Sl),M i τ'/\dG X.K τ' xs[i] (T i τ') v σ H Q:=λpins s σ H v u Q I r ⟨i,h,τ',m,q⟩=>hg i h τ' m pins s σ H v u Q I r q
 have hb':PSs X body λD σ H=>∃ i τ',i < xs.length/\M i τ'/\dS X.K (T i τ') { N with nx:=M (i + 1),ct:=M (i + 1),bk:=N.nx } D σ H:=λpins s σ H D I ⟨i,τ',h,m,q⟩=>hb i h τ' m pins s σ H D I q
 refine psW (oO B.po hi hg' hb' hs) λD σ H ⟨A,H₀,B,S,Me⟩=>⟨A,H₀,B,S,λJ H1 e1 yl=>?_⟩
 obtain ⟨s0,S1⟩:=(S.mono e1).base
 have sub:∀ {H'},ag (hd H1 λb=>∃ i,b ∈ B i) H'->ag (hd H1 (own A B)) H':=λe=>(au (ag.refl _) λ_ z=>.inr z).trans e
 refine ⟨λi m σ' H'=>m=xs.length - i/\i<=xs.length/\∃ τ' B',M i τ'/\Sta X.K A (hd H1 λb=>∃ i,b ∈ B i) τ' B' σ' H',⟨xs.length,rfl,Nat.zero_le _,τ,B,h0,S1⟩,?_⟩
 rintro i m σ' H' ⟨rfl,hi,τ',B',hM,S'⟩
 obtain ⟨y1,y2⟩:=yl H' (sub S'.same)
 by_cases hlt:i < xs.length
 · obtain ⟨g,y⟩:=y2 i hlt
   refine .inr ⟨g,λσ2 H2=>∃ τ2 B2,M (i + 1) τ2/\Sta X.K A (hd H1 λb=>∃ i,b ∈ B i) τ2 B2 σ2 H2,λσ2 H2 q=>⟨xs.length - (i + 1),by omega,rfl,hlt,q⟩,λx H2 hy=>?_⟩
   obtain ⟨e2,dx⟩:=y x H2 hy
   have S2:=S'.mono e2
   refine ⟨i,hlt,τ',hM,A,_,B',S2,dx (own A B') S'.dm ?_,λσ3 B3 S3=>⟨i,τ',hlt,hM,A,_,B3,S3,?_⟩⟩
   · intro b o z
     obtain ⟨z1,z2⟩:=ao.mp z
     have z3:hd H1 (λb=>∃ i,b ∈ B i) b=some o:=ao.mpr ⟨λy=>z1 (.inr y),z2⟩
     refine ao.mpr ⟨λy=>?_,S'.same _ _ z3⟩
     rcases y with y | ⟨l,y⟩
     · exact z1 (.inl y)
     · rw [S'.fr l b y] at z3; cases z3
   · exact ⟨λτ3 B3 σ3 H3 m S3=>⟨τ3,B3,m,S3⟩,λτ3 B3 σ3 H3 m S3=>Me.nx τ3 B3 σ3 H3 m (S3.back s0 S.ad),λτ3 B3 σ3 H3 m S3=>⟨τ3,B3,m,S3⟩,
       λv H3 bs s3 hr e3 hf q=>Me.rt v H3 bs s3 hr (s0.trans e3) (λb hb=>⟨s0.free (hf b hb).1,(hf b hb).2⟩) q,λH3 e3=>Me.xc H3 (s0.trans e3)⟩
 · have e:i=xs.length:=by omega
   subst e
   exact .inl ⟨y1 _ (Nat.le_refl _),Me.nx τ' B' σ' H' (hn τ' hM) (S'.back s0 S.ad)⟩
theorem hE (j:Nat) {n:Str} (M:Nat->List Sl->Prop) {g:Nat->D} (B:Bk X k) (hN:X.N.Nodup) (hi:PI X (.Name n p) it (dI X.K τ xs)) (hx:∀ i (h:i < xs.length),xs[i]=g i) (h0:M 0 τ)
   (hb:∀ i,i < xs.length->∀ τ',M i τ'->PSs X body (dS X.K (τ'.set j (.d (g i))) { N with nx:=M (i + 1),ct:=M (i + 1),bk:=λ_=>False }))
   (hr:∀ τ',M xs.length τ'->PSs X rest (dS X.K τ' N)) (hs:∀ x,foldedSetIterable it X.env x=pure x:=by intro _; rfl) (hi':X.N[j]?=some n:=by rfl) (hl:Loc X.env.scope n:=by first | exact .inl rfl | exact .inr rfl)
   (hf:X.fn n=true\/X.env.scope.names.lookup n=some .local:=by first | exact .inl rfl | exact .inr rfl | assumption):PSs X (.For (.Name n p) it body [] pos :: rest) (dS X.K τ N):=
 bh (M:=M xs.length) (mQ (M:=M) (T:=λi τ'=>τ'.set j (.d (g i))) B hi h0 (λi h τ' m=>by rw [hx i h]; exact oD j hN hi' hl hf)
   (λi h τ' m=>lz (hb i h τ' m) λD σ H ⟨A,H₀,B,S,Me⟩=>⟨A,H₀,B,S,Me.nx,λ_ _ _ _ z=>z.elim,Me.ct,Me.rt,Me.xc⟩) (λ_ m=>m) hs) hr
theorem iO (j l:Nat) {n m:Str} {p2 pt:Pos} {md:Nat} (M:Nat->List Sl->Prop) {g g':Nat->D} (B:Bk X k) (hN:X.N.Nodup) (hi:PI X (.Tuple [.Name n p,.Name m p2] md pt) it (dI X.K τ xs)) (hx:∀ i (h:i < xs.length),xs[i]=.tup [g i,g' i]) (h0:M 0 τ)
   (hb:∀ i,i < xs.length->∀ τ',M i τ'->PSs X body (dS X.K ((τ'.set j (.d (g i))).set l (.d (g' i))) { N with nx:=M (i + 1),ct:=M (i + 1),bk:=λ_=>False }))
   (hr:∀ τ',M xs.length τ'->PSs X rest (dS X.K τ' N)) (hs:∀ x,foldedSetIterable it X.env x=pure x:=by intro _; rfl) (hi':X.N[j]?=some n:=by rfl) (hj':X.N[l]?=some m:=by rfl) (hl:Loc X.env.scope n:=by first | exact .inl rfl | exact .inr rfl) (hl':Loc X.env.scope m:=by first | exact .inl rfl | exact .inr rfl)
   (hf:X.fn n=true\/X.env.scope.names.lookup n=some .local:=by first | exact .inl rfl | exact .inr rfl | assumption) (hf':X.fn m=true\/X.env.scope.names.lookup m=some .local:=by first | exact .inl rfl | exact .inr rfl | assumption):PSs X (.For (.Tuple [.Name n p,.Name m p2] md pt) it body [] pos :: rest) (dS X.K τ N):=
 bh (M:=M xs.length) (mQ (M:=M) (T:=λi τ'=>(τ'.set j (.d (g i))).set l (.d (g' i))) B hi h0 (λi h τ' m=>by rw [hx i h]; exact pY j l B.calm hN hi' hj' hl hl' hf hf')
   (λi h τ' m=>lz (hb i h τ' m) λD σ H ⟨A,H₀,B,S,Me⟩=>⟨A,H₀,B,S,Me.nx,λ_ _ _ _ z=>z.elim,Me.ct,Me.rt,Me.xc⟩) (λ_ m=>m) hs) hr
theorem fA {n:Nat} (i:Nat) (h:i < (gA 0 n).length):(gA 0 n)[i]=.int (i:Nat):=by rw [js,Int.zero_add]
theorem mR {bs:List Int} (i:Nat) (h:i < (bs.map D.int).length):(bs.map D.int)[i]=.int (bs.getD i 0):=by
 have:i < bs.length:=by simpa using h
 simp [this]
theorem oU {bs:List Int} (i:Nat) (h:i < (fZ (bs.map D.int)).length):(fZ (bs.map D.int))[i]=.tup [.int (i:Nat),.int (bs.getD i 0)]:=by
 have:i < bs.length:=by rw [cS] at h; simpa using h
 rw [iZ]
 simp [this]
end
end Hy
namespace Hy
open PySem PySem.Spec PyProof.Rows L2
open Ev (D Den aq aj aP ay ax cg b7 PTs br cx)
noncomputable def slot:List Str->Str->Option Nat
 | [],_=>none
 | y :: r,x=>if x=y then some 0 else (slot r x).map (· + 1)
theorem slot_get:∀ {N:List Str} {x:Str} {i:Nat},slot N x=some i->N[i]?=some x
 | [],_,_,h=>by cases h
 | y :: r,x,i,h=>by
   unfold slot at h
   split at h
   · cases h; rename_i e; rw [e]; rfl
   · cases e:slot r x with
     | none=>rw [e] at h; cases h
     | some j=>rw [e] at h; cases h; simpa using slot_get e
noncomputable def k6 (scope sc:Scope):Scope:={ scope with names:=scope.names.map λ(n,k)=>if (k == .free && sc.kind == .function && sc.names.lookup n == some .cell) then (n,.cell) else (n,k) }
noncomputable def bNm (scope:Scope):List Str:=(scope.names.filter λp=>(p.2 == .local || p.2 == .cell || p.2 == .free) && p.1 != (".0" : Str)).map (·.1)
noncomputable def bCp (No:List Str) (scope:Scope):List (Option Nat):=(bNm scope).map λx=>if (x,NameKind.free) ∈ scope.names then slot No x else none
noncomputable def bOk (sc scope:Scope):Bool:=
 scope.kind == .function && scope.names.all (λp=>p.2 != .local || scope.names.lookup p.1 == some .local) && scope.names.all (λp=>p.2 != .free || sc.names.lookup p.1 == some .cell)
   && scope.names.all (λp=>p.2 != .free || (!decide ((p.1,NameKind.cell) ∈ scope.names) && !decide ((p.1,NameKind.local) ∈ scope.names))) && decide (bNm scope++[("#" : Str)]).Nodup
   && (k6 scope sc).names.all (λp=>p.1 != ("#" : Str))
theorem kQ {a b:Bool} (h:(a && b)=true):a=true/\b=true:=by rw [Bool.and_eq_true] at h; exact h
theorem kO {x:Str} {q:NameKind}:∀ {names:List (Str × NameKind)},names.lookup x=some q->(x,q) ∈ names
 | (y,k) :: r,h=>by
   rw [List.lookup_cons] at h
   split at h
   · rename_i e; cases h; rw [eq_of_beq e]; exact List.mem_cons_self ..
   · exact List.mem_cons_of_mem _ (kO h)
theorem dM {X:Cx} {scope:Scope} (h:bOk X.env.scope scope=true):b7 X scope (bNm scope++[("#" : Str)]) (bCp X.N scope)/\(bNm scope++[("#" : Str)]).Nodup:=by
 unfold bOk at h
 obtain ⟨h,h6⟩:=kQ h
 obtain ⟨h,h5⟩:=kQ h
 obtain ⟨h,h4⟩:=kQ h
 obtain ⟨h,h3⟩:=kQ h
 obtain ⟨h1,h2⟩:=kQ h
 rw [List.all_eq_true] at h2 h3 h4 h6
 refine ⟨⟨eq_of_beq h1,λx hx hk=>?_,λx hx hk=>?_,λx hx hm=>?_,λx hx hm=>?_,?_,λj i hj=>?_,?_⟩,of_decide_eq_true h5⟩
 · have:=h2 x hx; rw [hk] at this; simpa using this
 · have:=h3 x hx; rw [hk] at this; show X.env.scope.names.lookup x.1=_; simpa using this
 · have:=h4 _ hx; simp [hm] at this
 · have:=h4 _ hx; simp [hm] at this
 · unfold bCp; rw [List.length_append,List.length_map]; rfl
 · unfold bCp at hj
   rw [List.getElem?_map] at hj
   cases e:(bNm scope)[j]? with
   | none=>rw [e] at hj; cases hj
   | some x=>
     rw [e] at hj
     simp only [Option.map_some,Option.some.injEq] at hj
     split at hj
     · exact ⟨x,by rw [List.getElem?_append_left (List.getElem?_eq_some_iff.mp e).1]; exact e,slot_get hj,by assumption⟩
     · cases hj
 · refine ⟨("#" : Str),?_,λhv=>?_⟩
   · unfold bCp; rw [List.length_map,List.getElem?_append_right (Nat.le_refl _),Nat.sub_self]; rfl
   · have key:∀ q,(k6 scope X.env.scope).names.lookup ("#" : Str) ≠ some q:=λq hq=>by
       have:=h6 _ (kO hq)
       simp at this
     rcases hv with hv | hv | hv <;> exact key _ hv
noncomputable abbrev cpX (X:Cx) (s:Shared) (H:Hp) (scope:Scope) (fp:List Addr):Cx:=ax X s H scope (bNm scope++[("#" : Str)]) fp
theorem Bk.comp {X:Cx} {k:Nat} (B:Bk X k) (s:Shared) (H:Hp) (scope:Scope) (fp:List Addr):Bk (cpX X s H scope fp) k:=⟨B.room,B.calm,B.blt,PassesOwn.never⟩
noncomputable def a7 (τ:List Sl) (caps:List (Option Nat)):List Sl:=caps.map λo=>match o with
 | some i=>match τ[i]? with
   | some (.d x)=>.d x
   | _=>.un
 | none=>.un
theorem jh {X:Cx}:PTs X [] λ_ H Q=>Q true H:=λpins s σ H Q I q=>by
 show wpAny _ _ (pure true) _ _ _
 exact wpAny_pure ⟨H,I,q⟩
section
variable {X:Cx} {C:Bool} {τ:List Sl} {x y z:D} {a b e c tg it elt:Expr} {es ifs:List Expr} {pos p q:Pos} {k:Nat} {xs:List D} {scope:Scope}
structure Cmp (X:Cx) (elt tg it:Expr) (ifs:List Expr) (scope:Scope) (τ:List Sl) (ys:List D):Prop where
 ex:∃ (In:TG->TT->TE->Prop) (caps:List (Option Nat)) (N:List Str) (wi:TI),b7 X scope N caps/\PI X tg it wi/\(∀ g tt te,In g tt te->∀ s H fp,PG (ax X s H scope N fp) tg g/\PTs (ax X s H scope N fp) ifs tt/\PE (ax X s H scope N fp) elt te) /\
   ∀ C σ H Q,dE X.K C τ (.o ys) σ H Q->cx In caps wi σ H Q
 hs:∀ x,foldedSetIterable it X.env x=pure x
theorem cA {ys:List D} (h:Cmp X elt tg it ifs scope τ ys):PE X (.ListComp elt [⟨tg,it,ifs,0⟩] scope pos) (dE X.K C τ (.o ys)):=by
 obtain ⟨In,caps,N,wi,h1,h2,h3,h4⟩:=h.ex
 exact peW (br h1 h2 h.hs h3) (h4 C)
theorem ov {T:Nat->List Sl} {t:Nat->Bool} {f:Nat->D} (hc:bOk X.env.scope scope=true) (hi:PI X tg it (dI X.K τ xs)) (hT:∀ i,(T i).length=(a7 τ (bCp X.N scope)++[Sl.un]).length/\∀ (l:Nat) (x:D),(a7 τ (bCp X.N scope)++[Sl.un])[l]?=some (.d x)->(T i)[l]?=some (.d x))
   (hg:∀ i (h:i < xs.length) s H fp,PG (cpX X s H scope fp) tg (dG X.K (a7 τ (bCp X.N scope)++[Sl.un]) xs[i] (T i)))
   (ht:∀ i,i < xs.length->∀ s H fp,PTs (cpX X s H scope fp) ifs (dT X.K (T i) (t i)))
   (he:∀ i,i < xs.length->t i=true->∀ s H fp,PE (cpX X s H scope fp) elt (dE X.K true (T i) (.d (f i)))) (hl:xs.length < 1000000) (hs:∀ x,foldedSetIterable it X.env x=pure x:=by intro _; rfl) :
   Cmp X elt tg it ifs scope τ (((List.range xs.length).filter t).map f):=by
 obtain ⟨cap,_⟩:=dM hc
 generalize hτ:a7 τ (bCp X.N scope)++[Sl.un]=τb at *
 refine ⟨⟨λg tt te=>g=(λv σ H Q=>∃ (i:Nat) (h:i < xs.length),dG X.K τb xs[i] (T i) v σ H Q)/\tt=(λσ H Q=>∃ i,i < xs.length/\dT X.K (T i) (t i) σ H Q)/\te=(λσ H Q=>∃ i,i < xs.length/\t i=true/\dE X.K true (T i) (.d (f i)) σ H Q),_,_,_,cap,hi,?_,?_⟩,hs⟩
 · rintro g tt te ⟨rfl,rfl,rfl⟩ s H fp
   exact ⟨λpins s' σ H' v u Q I r ⟨i,h,q⟩=>hg i h s H fp pins s' σ H' v u Q I r q,λpins s' σ H' Q I ⟨i,h,q⟩=>ht i h s H fp pins s' σ H' Q I q,λpins s' σ H' Q I ⟨i,h,h',q⟩=>he i h h' s H fp pins s' σ H' Q I q⟩
 rintro C σ H Q ⟨A,H₀,B,S,kk⟩
 refine ⟨A,H₀,B,S,λJ H1 e1 yl=>⟨_,_,_,⟨rfl,rfl,rfl⟩,λD hD=>?_⟩⟩
 have S1:=S.mono e1
 have nD:¬ own A B D:=λz=>by obtain ⟨o,q⟩:=S1.dm D z; rw [hD] at q; cases q
 have noN:∀ (l:Nat) (t:Nd),τb[l]?=some (.n t)->0 ≠ 0:=λl t h=>by
   exfalso
   rw [<- hτ] at h
   have:=List.mem_of_getElem? h
   rcases List.mem_append.mp this with z | z
   · unfold a7 at z
     obtain ⟨o,_,ho⟩:=List.mem_map.mp z
     split at ho
     · split at ho <;> cases ho
     · cases ho
   · cases List.mem_singleton.mp z
 have slots:∀ {σ':L2.St} {H':Hp},ag H1 H'->(∃ o,H' D=some o)->σ'.length=τb.length->(∀ (l:Nat) (s:Sl),τb[l]?=some s->a9 X.K (hd H' λb=>own A B b\/b=D) H' (σ'[l]?).join [] s)->Sta X.K (λb=>own A B b\/b=D) H' τb (λ_=>[]) σ' H':=λ{σ' H'} e1 e2 e3 e4=>
   ⟨ag.refl _,e3,λl s h=>(e4 l s h).mono (au (ag.refl _) λ_ z=>z.elim id λ⟨_,z⟩=>(nomatch z)) (ag.refl _),λ_ _ z=>(nomatch z),λ_ _ _ z=>(nomatch z),λb z=>z.elim (λz=>let ⟨o,q⟩:=S1.dm b z; ⟨o,e1 _ _ q⟩) λz=>z ▸ e2,λ_ _ z=>(nomatch z)⟩
 refine ⟨λi m σ' H'=>m=xs.length - i/\i<=xs.length/\ag H1 H'/\(∃ vs,H' D=some (.lst vs)/\vs.length<=i/\aq X.K (hd H' λb=>own A B b\/b=D) vs (((List.range i).filter t).map f)) /\
   σ'.length=τb.length/\∀ (l:Nat) (s:Sl),τb[l]?=some s->a9 X.K (hd H' λb=>own A B b\/b=D) H' (σ'[l]?).join [] s,⟨xs.length,rfl,Nat.zero_le _,aj hD _,⟨[],aF,Nat.le_refl _,.nil⟩,?_,λl s h=>?_⟩,?_⟩
 · rw [<- hτ]; unfold cg a7; rw [List.length_append,List.length_append,List.length_map,List.length_map]; rfl
 · have hv:ag (hd H (own A B)) (hd (upd H1 D (.lst [])) λb=>own A B b\/b=D):=λb o z=>by
     obtain ⟨z1,z2⟩:=ao.mp z
     have z2:=e1 _ _ z2
     have ne:b ≠ D:=λz=>by rw [z,hD] at z2; cases z2
     exact ao.mpr ⟨λy=>y.elim z1 ne,by rw [ak ne]; exact z2⟩
   cases s with
   | un=>rfl
   | d x=>
     rw [<- hτ] at h
     have hlt:l < (bCp X.N scope).length:=by
       rcases Nat.lt_or_ge l (bCp X.N scope).length with h' | h'
       · exact h'
       · exfalso
         rw [List.getElem?_append_right (by unfold a7; rw [List.length_map]; exact h')] at h
         cases e:l - (a7 τ (bCp X.N scope)).length with
         | zero=>rw [e] at h; cases h
         | succ n=>rw [e] at h; cases h
     rw [List.getElem?_append_left (by unfold a7; rw [List.length_map]; exact hlt)] at h
     rw [List.getElem?_append_left (by unfold cg; rw [List.length_map]; exact hlt)]
     unfold a7 at h
     unfold cg
     rw [List.getElem?_map] at h ⊢
     cases e:(bCp X.N scope)[l]? with
     | none=>rw [e] at h; cases h
     | some o=>
       rw [e] at h
       cases o with
       | none=>cases h
       | some i=>
         simp only [Option.map_some,Option.some.injEq] at h
         split at h
         · rename_i x' hx'
           cases h
           obtain ⟨_,u,eu,d⟩:=S.sl i _ hx'
           exact ⟨rfl,u,by simpa using eu,d.mono hv⟩
         · cases h
   | o xs'=>
     exfalso
     rw [<- hτ] at h
     have:=List.mem_of_getElem? h
     rcases List.mem_append.mp this with z | z
     · unfold a7 at z
       obtain ⟨o,_,ho⟩:=List.mem_map.mp z
       split at ho
       · split at ho <;> cases ho
       · cases ho
     · cases List.mem_singleton.mp z
   | n t'=>
     exfalso
     rw [<- hτ] at h
     have:=List.mem_of_getElem? h
     rcases List.mem_append.mp this with z | z
     · unfold a7 at z
       obtain ⟨o,_,ho⟩:=List.mem_map.mp z
       split at ho
       · split at ho <;> cases ho
       · cases ho
     · cases List.mem_singleton.mp z
   | x E'=>
     exfalso
     rw [<- hτ] at h
     have:=List.mem_of_getElem? h
     rcases List.mem_append.mp this with z | z
     · unfold a7 at z
       obtain ⟨o,_,ho⟩:=List.mem_map.mp z
       split at ho
       · split at ho <;> cases ho
       · cases ho
     · cases List.mem_singleton.mp z
 rintro i m σ' H' ⟨rfl,hi,e2,⟨vs,hv1,hv2,hv3⟩,hlen,hsl⟩
 obtain ⟨y1,y2⟩:=yl H' (aQ.trans e2)
 by_cases hlt:i < xs.length
 · obtain ⟨g,y⟩:=y2 i hlt
   refine .inr ⟨g,λx H2 hy=>?_⟩
   obtain ⟨e3,dx⟩:=y x H2 hy
   have S2:Sta X.K (λb=>own A B b\/b=D) H' τb (λ_=>[]) σ' H':=slots e2 ⟨_,hv1⟩ hlen hsl
   have o0:∀ b,own (λb=>own A B b\/b=D) (λ_=>([]:List Addr)) b->own A B b\/b=D:=λb z=>z.elim id λ⟨_,z⟩=>(nomatch z)
   have dx':=dx _ S2.dm (λb o z=>by
     obtain ⟨z1,z2⟩:=ao.mp z
     exact ao.mpr ⟨λy=>(o0 b y).elim z1 λy=>(by rw [y,hD] at z2; cases z2),e2 _ _ z2⟩)
   refine ⟨i,hlt,_,_,_,S2.mono e3,dx',λσ2 B2 S3=>?_⟩
   have hB2:∀ j b,b ∈ B2 j->b ≠ D:=λj b hb z=>by
     have:=S3.fr j b hb
     rw [z,hv1] at this
     cases this
   have back:∀ {H5:Hp},ag H2 H5->σ2.length=τb.length/\∀ (l:Nat) (s:Sl),τb[l]?=some s->a9 X.K (hd H5 λb=>own A B b\/b=D) H5 (σ2[l]?).join [] s:=λ{H5} e5=>by
     refine ⟨S3.len.trans (hT i).1,λl s h=>?_⟩
     cases s with
     | un=>rfl
     | d x=>
       obtain ⟨_,u,eu,d⟩:=S3.sl l _ ((hT i).2 l x h)
       exact ⟨rfl,u,eu,d.mono (au e5 λ_ z=>.inl z)⟩
     | o xs'=>exact absurd (hsl l _ h) (λ⟨_,_,z,_⟩=>(nomatch z))
     | n t'=>exact absurd rfl (noN l t' h)
     | x E'=>exact absurd (hsl l _ h) (λ⟨_,_,z,_⟩=>(nomatch z))
   refine ⟨i,hlt,_,_,_,S3,λH4 e4=>?_⟩
   cases ht:t i with
   | false=>
     rw [if_neg Bool.false_ne_true]
     obtain ⟨b1,b2⟩:=back e4
     refine ⟨xs.length - (i + 1),by omega,rfl,hlt,e2.trans (e3.trans e4),⟨vs,e4 _ _ (e3 _ _ hv1),by omega,?_⟩,b1,b2⟩
     rw [List.range_succ,List.filter_append,List.map_append,List.filter_cons,ht]
     simpa using hv3.mono (au (e3.trans e4) λ_ z=>z)
   | true=>
     rw [if_pos rfl]
     refine ⟨i,hlt,ht,aH (S3.mono e4) λv H5 e5 d5=>?_⟩
     have e6:=e3.trans (e4.trans e5)
     have hv5:=e6 _ _ hv1
     refine ⟨vs,xs.length - (i + 1),hv5,Nat.lt_trans (Nat.lt_of_le_of_lt hv2 (Nat.lt_trans hlt hl)) (by decide),by omega,rfl,hlt,?_,?_⟩
     · intro b o z
       have ne:b ≠ D:=λy=>by rw [y,hD] at z; cases z
       rw [ak ne]
       exact e6 _ _ (e2 _ _ z)
     have sm:ag (hd H5 λb=>own A B b\/b=D) (hd (upd H5 D (.lst (vs++[v]))) λb=>own A B b\/b=D):=λb o z=>by
       obtain ⟨z1,z2⟩:=ao.mp z
       exact ao.mpr ⟨z1,by rw [ak λy=>z1 (.inr y)]; exact z2⟩
     obtain ⟨b1,b2⟩:=back (e4.trans e5)
     refine ⟨⟨vs++[v],aF,by rw [List.length_append]; exact Nat.succ_le_succ hv2,?_⟩,b1,λl s h=>?_⟩
     · rw [List.range_succ,List.filter_append,List.map_append,List.filter_cons,ht,if_pos rfl]
       refine aq.append (hv3.mono ((au e6 λ_ z=>z).trans sm)) (.cons (d5.mono ((au (ag.refl _) λ_ z=>.inl z).trans sm)) .nil)
     · cases s with
       | un=>rfl
       | d x=>obtain ⟨z1,u,eu,d⟩:=b2 l _ h; exact ⟨z1,u,eu,d.mono sm⟩
       | o xs'=>exact absurd (hsl l _ h) (λ⟨_,_,z,_⟩=>(nomatch z))
       | n t'=>exact absurd rfl (noN l t' h)
       | x E'=>exact absurd (hsl l _ h) (λ⟨_,_,z,_⟩=>(nomatch z))
 · have e:i=xs.length:=by omega
   subst e
   refine .inl ⟨y1 _ (Nat.le_refl _),kk _ _ [D] (e1.trans e2) (λb hb=>?_) ⟨D,vs,rfl,rfl,hv1,hv3.mono (au (ag.refl _) λb z=>z.elim (λz=>.inl (gi z)) λz=>.inr (List.mem_singleton.mp z))⟩⟩
   obtain rfl:=List.mem_singleton.mp hb
   exact ⟨e1.free hD,_,hv1⟩
theorem cmp (j:Nat) {n:Str} {g f:Nat->D} (B:Bk X k) (hi:PI X (.Name n p) it (dI X.K τ xs)) (hx:∀ i (h:i < xs.length),xs[i]=g i) (hl:xs.length < 1000000)
   (he:∀ i,i < xs.length->∀ s H fp,PE (cpX X s H scope fp) elt (dE X.K true ((a7 τ (bCp X.N scope)++[Sl.un]).set j (.d (g i))) (.d (f i))))
   (hc:bOk X.env.scope scope=true:=by kernel_rfl) (hu:(a7 τ (bCp X.N scope)++[Sl.un])[j]?=some .un:=by rfl) (hN:(bNm scope++[("#" : Str)])[j]?=some n:=by rfl) (hv:∀ s H fp,Loc (cpX X s H scope fp).env.scope n:=by intro _ _ _; first | exact .inl rfl | exact .inr rfl)
   (hf:∀ s H fp,(cpX X s H scope fp).fn n=true\/(cpX X s H scope fp).env.scope.names.lookup n=some .local:=by intro _ _ _; first | exact .inr rfl | exact .inl rfl) (hs:∀ x,foldedSetIterable it X.env x=pure x:=by intro _; rfl) :
   Cmp X elt (.Name n p) it [] scope τ ((List.range xs.length).map f):=by
 have h:=ov (T:=λi=>(a7 τ (bCp X.N scope)++[Sl.un]).set j (.d (g i))) (t:=λ_=>true) (f:=f) (elt:=elt) (ifs:=[]) hc hi (λi=>⟨List.length_set,λl x h=>?_⟩) (λi h s H fp=>?_) (λi h s H fp=>?_) (λi h _ s H fp=>he i h s H fp) hl hs
 · rwa [List.filter_eq_self.mpr λ_ _=>rfl] at h
 · rw [List.getElem?_set_ne (λz=>by rw [<- z,hu] at h; cases h)]
   exact h
 · rw [hx i h]
   exact oD j (dM hc).2 hN (hv s H fp) (hf s H fp)
 · exact λpins s' σ H' Q I ⟨A,H₀,B,S,q⟩=>jh pins s' σ H' Q I (q H' (ag.refl _))
end
section
variable {P:Program} {w:World} {K:PySem.W.Frag} {mg:Str->Option Value} {base:Heap}
noncomputable def oA (N:List Str) (ds:List D):List Sl:=ds.map .d++List.replicate (N.length - ds.length) .un
noncomputable abbrev Xc (P:Program) (w:World) (K:PySem.W.Frag) (mg:Str->Option Value) (base:Heap) (N:List Str) (qual:Str) (st:Stmt) (f:Addr) (cdv:Value) (A:Around) (outer:List Env) (s:Shared) (H:Hp) (E:XK):Cx:=(iy CX0 P w K mg base N qual (ah st) f cdv A outer s H E).nox
theorem fnD {x qual:Str} {st:Stmt} {f:Addr} {fd:FuncData} {N ps:List Str} {k:Nat} {Φ:List D->Sl->Prop} (F:Fun K x qual st f fd) (S:ar N ps (ah st)) (hb:∀ x ∈ ai,mg x=none) (len:∀ ds r,Φ ds r->ds.length=ps.length)
   (body:∀ ds r,Φ ds r->∀ cdv A outer s H E,Bk (Xc P w K mg base N qual st f cdv A outer s H E) k->PSs (Xc P w K mg base N qual st f cdv A outer s H E) (bp st) (dS K (oA N ds) { nx:=λ_=>r=.d .non,rt:=λr'=>r'=r })) :
   aI P w K mg base CX0 (k + 1) f fd ps (spD K Φ):=by
 refine F.ok S (λvs H Q E ⟨A,ds,r,_,d,h,_⟩=>d.length.trans (len ds r h)) λcdv A outer s H vs Q E hr ⟨A',ds,r,ha,d,h,q⟩=>⟨_,body ds r h cdv A outer s H E ⟨hr,rfl,hb,PassesOwn.never⟩,A',H,λ_=>[],⟨ag.refl _,?_,λi s hi=>?_,λ_ _ z=>(nomatch z),λ_ _ _ z=>(nomatch z),ha,λ_ _ z=>(nomatch z)⟩,λτ B σ H' h S=>?_,λ_ _ _ _ h=>h.elim,λ_ _ _ _ h=>h.elim,λv H' bs s h e hf z=>?_,λ_ _=>trivial⟩
 · unfold L2.start oA
   simp [d.length]
 · have hl:=d.length
   unfold oA at hi
   unfold L2.start
   by_cases hlt:i < ds.length
   · rw [List.getElem?_append_left (by simpa using hlt),List.getElem?_map,List.getElem?_eq_getElem hlt] at hi
     cases hi
     obtain ⟨v,e,dv⟩:=d.get (List.getElem?_eq_getElem hlt)
     refine ⟨rfl,v,?_,dv.mono (au (ag.refl _) λ_ z=>z.elim id λ⟨_,z⟩=>(nomatch z))⟩
     rw [List.getElem?_append_left (by simpa [hl] using hlt),List.getElem?_map,e]
     rfl
   · rw [List.getElem?_append_right (by simpa using hlt),List.getElem?_replicate] at hi
     split at hi
     · cases hi; rfl
     · cases hi
 · obtain rfl:=(h:r=_)
   exact q .non H' [] S.same bV (dh .non)
 · obtain rfl:=(h:s=r)
   exact q v H' bs e hf z
theorem lI {K:PySem.W.Frag} {Φ:List D->Sl->Prop} (hΦ:∀ ns:List Int,ns.length<=63->Φ [.lst (ns.map .int)] (.d (.bl true))) (H:Hp) (a:Addr) (ns:List Int) (hl:ns.length<=63) (hS:SqL K H a (ns.map V.int)):spD K Φ [.ref a] H (λv _=>v=.bl true) λ_ _ _=>False:=by
 have hh:hd H (λ_=>False)=H:=by funext b; unfold hd; rw [if_neg id]
 refine ⟨λ_=>False,_,_,λ_ z=>z.elim,.cons (.lst (vs:=ns.map V.int) (by rw [hh]; exact hS) ?_) .nil,hΦ ns hl,λv H' bs _ _ h=>?_⟩
 · clear hl hS
   induction ns with
   | nil=>exact .nil
   | cons n ns ih=>exact .cons .int ih
 · obtain ⟨_,u,e,d⟩:=h
   cases e
   cases d
   rfl
end
end Hy
namespace Hy
open PySem PySem.Spec PyProof.Rows L2
open Ev (D Den aq aG aE aj aP ay)
section
variable {X:Cx} {C:Bool} {τ:List Sl} {x y z:D} {a b e:Expr} {es:List Expr} {pos p:Pos} {k:Nat} {s:Sl} {ds:List D} {i j:Int}
theorem ma:OpR X (binaryOp .Add) (λx y H Q=>∃ l b xs zs,x=.ref l/\y=.ref b/\SqL X.K H l xs/\SqL X.K H b zs/\xs.length + zs.length<=sizeLine/\∀ p,H p=none->Q (.ref p) (upd H p (.lst (xs++zs)))):=by
 intro pins s σ H x y v u Q I rx ry h
 obtain ⟨l,b,xs,zs,rfl,rfl,hH,hB,hz,q⟩:=h
 cases rx
 cases ry
 obtain ⟨its,r,pl,_⟩:=I.list hH
 obtain ⟨its2,r2,pl2,_⟩:=I.list hB
 have hl:=r.length
 have hl2:=r2.length
 obtain ⟨⟨cls,dd,data,sl⟩,ho,hc,n,hd⟩:=pl.isList
 obtain ⟨⟨cls2,dd2,data2,sl2⟩,ho2,hc2,n2,hd2⟩:=pl2.isList
 simp only at hc hd hc2 hd2
 subst hc hd hc2 hd2
 have e:its.toArray++its2.toArray=(its++its2).toArray:=by simp
 refine concat_meets ⟨_,ho,rfl⟩ ⟨_,ho2,rfl⟩ noFill_list_add seq_list_add PySem.F.slot_list_add PySem.F.entry_list_add (PySem.F.args_list_add_2 _ _) (list_addW l b its.toArray its2.toArray n n2 dd dd2 sl sl2 (by rw [List.size_toArray,List.size_toArray]; omega)) ⟨ho,ho2,?_⟩
 rw [e]
 exact ⟨.ref _,_,I.qo (t':=s.toks) (r.append r2) (by rw [List.length_append]; omega),rfl,q _ I.fresh⟩
theorem pP {xs ys:List D} (ha:PE X a (dE X.K C τ (.d (.lst xs)))) (hb:PE X b (dE X.K C τ (.d (.lst ys)))) (hl:xs.length + ys.length < 1000000):PE X (.BinOp a .Add b pos) (dE X.K C τ (.o (xs++ys))):=peW (mT ma ha hb) λσ H Q ⟨A,H₀,B,S,k⟩=>
 aH S λv H1 e1 d1=>aH (S.mono e1) λw H2 e2 d2=>by
   cases d1 with
   | lst h1 r1=>cases d2 with
     | lst h2 r2=>
       refine ⟨_,_,_,_,rfl,rfl,ay (aQ.trans e2) h1,ay aQ h2,by rw [r1.length,r2.length]; exact Nat.le_of_lt (Nat.lt_trans hl (by decide)),λp hp=>?_⟩
       obtain ⟨z1,z2,z3⟩:=iB (K:=X.K) hp ((r1.mono (au e2 λ_ z=>z)).append r2)
       exact k _ _ [p] (e1.trans (e2.trans z1)) (λb hb=>⟨(e1.trans e2).free (z2 b hb).1,(z2 b hb).2⟩) z3
theorem mkL (h:i.natAbs < 2 ^ 60):aG i j:=.inl (by
 rcases Nat.eq_zero_or_pos i.natAbs with z | z
 · rw [z]; decide
 · exact Nat.lt_trans ((Nat.log2_lt (by omega)).mpr h) (by decide))
theorem mkR (h:j.natAbs < 2 ^ 60):aG i j:=.inr (.inl (by
 rcases Nat.eq_zero_or_pos j.natAbs with z | z
 · rw [z]; decide
 · exact Nat.lt_trans ((Nat.log2_lt (by omega)).mpr h) (by decide)))
theorem mkD (h0:j ≠ 0) (h:j.natAbs < 2 ^ 62):aE j:=⟨h0,Nat.lt_trans ((Nat.log2_lt (by omega)).mpr h) (by decide)⟩
end
theorem aA {α:Type} {xs:List α} {i:Nat} {x:α} (h:xs[i]?=some x):atI xs (i:Int)=some x:=by
 unfold atI ixN
 have:=(List.getElem?_eq_some_iff.mp h).1
 rw [if_pos (by omega),if_pos (by omega)]
 simpa using h
theorem eX {ns:List Int} {i:Int} (h0:0<=i) (h:i.toNat < ns.length):atI (ns.map D.int) i=some (.int (ns.getD i.toNat 0)):=by
 obtain ⟨n,rfl⟩:=Int.eq_ofNat_of_zero_le h0
 exact aA (by
   have h:n < ns.length:=h
   simp [h])
theorem kF {xs:List D} (n:Nat):cutD xs none (some (n:Int))=xs.take n:=by
 unfold cutD
 rw [HT.lT,HT.ko,List.drop_zero,Nat.sub_zero]
 rcases Nat.le_total n xs.length with h | h
 · rw [Nat.min_eq_left h]
 · rw [Nat.min_eq_right h,List.take_of_length_le (Nat.le_refl _),List.take_of_length_le h]
theorem getD_none {α:Type} {xs:List α} {i:Nat} {d:α} (h:xs.length<=i):xs.getD i d=d:=by simp [List.getD,h]
theorem ex1 {α:Type} {p:α->Prop} {a:α} (h:p a):∃ a,p a:=⟨a,h⟩
theorem ex3 {α:Type} {p:α->α->α->Prop} {a b c:α} (h:p a b c):∃ a b c,p a b c:=⟨a,b,c,h⟩
end Hy
namespace Hy
open PySem PySem.Spec PyProof.Rows L2
open Ev (D Den aq)
noncomputable def Dfn (K:PySem.W.Frag) (x:Str) (st:Stmt) (f:Addr):Prop:=PySem.W.nsIn K mainGlobals x=some (some (.ref f))/\(∃ oc od kV dc pm an cd ct sl,K.lookup f=some ⟨oc,od,.func (PySem.W.fnOf x x (bR st) (bp st) (ah st) .none kV dc pm an cd ct),sl⟩/\PySem.W.codeIn K cd x=true)/\PySem.W.keepIn K (.ref f)=true
noncomputable def BdA (x:Str) (st:Stmt) (ps:List Str):Prop:=∀ (kV dc pm:Value) (an:Option Addr) (cd ct:Value) (us:List Value),us.length=ps.length->bindArgs (PySem.W.fnOf x x (bR st) (bp st) (ah st) .none kV dc pm an cd ct) ⟨us,[]⟩=pure (ps.zip us)
noncomputable def nsL (K:PySem.W.Frag):List Str->Prop
 | []=>True
 | x :: r=>PySem.W.nsIn K mainGlobals x=some none/\nsL K r
section
variable {P:Program} {w:World} {K:PySem.W.Frag} {h:Heap} {mg:Str->Option Value} {base:Heap} {x:Str} {st:Stmt} {f:Addr} {ps:List Str} {k:Nat} {Φ:List D->Sl->Prop}
theorem Dfn.of {oc:Value} {od an:Option Addr} {kV dc pm cd ct:Value} {sl:Array (Option Value)} (a:PySem.W.nsIn K mainGlobals x=some (some (.ref f))) (l:K.lookup f=some ⟨oc,od,.func (PySem.W.fnOf x x (bR st) (bp st) (ah st) .none kV dc pm an cd ct),sl⟩) (c:PySem.W.codeIn K cd x=true) (k:PySem.W.keepIn K (.ref f)=true):Dfn K x st f:=⟨a,⟨_,_,_,_,_,_,_,_,_,l,c⟩,k⟩
theorem nsL.none (X:K.In h) (G:h.Ns mainGlobals mg):∀ {l:List Str},nsL K l->∀ x ∈ l,mg x=none
 | _ :: _,z,x,m=>by
   rcases List.mem_cons.mp m with rfl | m
   · exact PySem.W.mg_none_of X G z.1
   · exact nsL.none X G z.2 x m
theorem Dfn.fn (d:Dfn K x st f) (X:K.In h) (G:h.Ns mainGlobals mg) (b:BdA x st ps):∃ fd,Fun K x x st f fd/\mg x=some (.ref f)/\PySem.W.keepIn K (.ref f)=true/\Binds K fd ps []:=by
 obtain ⟨a,⟨oc,od,kV,dc,pm,an,cd,ct,sl,l,c'⟩,q⟩:=d
 have F:=kR l c' q
 exact ⟨_,F,PySem.W.mg_of X G a,q,F.binds (b kV dc pm an cd ct)⟩
theorem Dfn.cal (d:Dfn K x st f) (X:K.In h) (G:h.Ns mainGlobals mg) (b:BdA x st ps) (o:∀ fd,Fun K x x st f fd->aI P w K mg base CX0 k f fd ps (spD K Φ)):Cal P w K mg base k x Φ:=by
 obtain ⟨fd,F,h1,h2,h3⟩:=d.fn X G b
 exact ⟨f,fd,ps,o fd F,h1,h2,h3⟩
end
theorem bd1 {Q:List Value->Prop} (h:∀ a,Q [a]):∀ us:List Value,us.length=1->Q us:=λus e=>match us,e with | [a],_=>h a
theorem bd2 {Q:List Value->Prop} (h:∀ a b,Q [a,b]):∀ us:List Value,us.length=2->Q us:=λus e=>match us,e with | [a,b],_=>h a b
theorem bd3 {Q:List Value->Prop} (h:∀ a b c,Q [a,b,c]):∀ us:List Value,us.length=3->Q us:=λus e=>match us,e with | [a,b,c],_=>h a b c
theorem bd4 {Q:List Value->Prop} (h:∀ a b c d,Q [a,b,c,d]):∀ us:List Value,us.length=4->Q us:=λus e=>match us,e with | [a,b,c,d],_=>h a b c d
end Hy
namespace Hy
open PySem PySem.Spec PyProof.Rows L2
open Ev (D Den aq aj aP ay)
noncomputable def gE:List Nat->Nd->Option Nd
 | [],t=>some t
 | i :: p,.l xs=>(xs[i]?).bind (gE p)
 | i :: p,.t xs=>(xs[i]?).bind (gE p)
 | _ :: _,.d _=>none
noncomputable def cQ:List Nat->Nd->Nd->Nd
 | [],_,n=>n
 | i :: p,.l xs,n=>.l (xs.set i (cQ p (xs.getD i (.d .non)) n))
 | i :: p,.t xs,n=>.t (xs.set i (cQ p (xs.getD i (.d .non)) n))
 | _ :: _,.d x,_=>.d x
noncomputable def bI (H:Hp):List Nat->V->V->Prop
 | [],u,v=>v=u
 | i :: p,u,v=>∃ a vs w,u=.ref a/\(H a=some (.lst vs)\/H a=some (.tup vs))/\vs[i]?=some w/\bI H p w v
theorem bI.mono {H H':Hp} (e:ag H H'):∀ {p:List Nat} {u v:V},bI H p u v->bI H' p u v
 | [],_,_,h=>h
 | _ :: _,_,_,⟨a,vs,w,h1,h2,h3,h4⟩=>⟨a,vs,w,h1,h2.elim (λz=>.inl (e _ _ z)) (λz=>.inr (e _ _ z)),h3,h4.mono e⟩
theorem bI.snoc {H:Hp} {i:Nat} {a:Addr} {vs:List V} {w:V}:∀ {p:List Nat} {u:V},bI H p u (.ref a)->(H a=some (.lst vs)\/H a=some (.tup vs))->vs[i]?=some w->bI H (p++[i]) u w
 | [],_,h,h1,h2=>⟨a,vs,w,h.symm,h1,h2,rfl⟩
 | _ :: _,_,⟨b,us,x,z1,z2,z3,z4⟩,h1,h2=>⟨b,us,x,z1,z2,z3,z4.snoc h1 h2⟩
section
variable {K:PySem.W.Frag} {G H:Hp}
theorem az.length:∀ {vs:List V} {bs:List Addr} {xs:List Nd},az K G H vs bs xs->vs.length=xs.length
 | _,_,_,.nil=>rfl
 | _,_,_,.cons _ r=>congrArg (· + 1) r.length
theorem az.part:∀ {vs:List V} {bs:List Addr} {xs:List Nd} {i:Nat} {c:Nd},az K G H vs bs xs->xs[i]?=some c->∃ v l m r,vs[i]?=some v/\bs=l++(m++r)/\aS K G H v m c /\
   ∀ {G' H':Hp} {m':List Addr} {c':Nd},ag G G'->(∀ b,b ∈ l\/b ∈ r->H' b=H b)->aS K G' H' v m' c'->az K G' H' vs (l++(m'++r)) (xs.set i c')
 | _,_,_,_,_,.nil,e=>by cases e
 | _,_,_,0,_,.cons (b1:=b1) (b2:=b2) h r,e=>by
   cases e
   exact ⟨_,[],b1,b2,rfl,rfl,h,λg e h'=>by rw [List.nil_append]; exact .cons h' (r.frame g λb hb=>e b (.inr hb))⟩
 | _,_,_,i + 1,c,.cons (b1:=b1) h r,e=>by
   obtain ⟨v,l,m,q,h1,h2,h3,h4⟩:=az.part (i:=i) (c:=c) r (by simpa using e)
   refine ⟨v,b1++l,m,q,by simpa using h1,by rw [h2,List.append_assoc],h3,λ{G' H' m' c'} g e h'=>?_⟩
   rw [List.append_assoc]
   exact .cons (h.frame g λb hb=>e b (.inl (List.mem_append_left _ hb))) (h4 g (λb hb=>e b (hb.elim (λz=>.inl (List.mem_append_right _ z)) .inr)) h')
theorem aS.focus:∀ (p:List Nat) {u:V} {bs:List Addr} {t c:Nd},aS K G H u bs t->gE p t=some c->∃ v l m r,bI H p u v/\bs=l++(m++r)/\aS K G H v m c /\
   ∀ {G' H':Hp} {m':List Addr} {c':Nd},ag G G'->(∀ b,b ∈ l\/b ∈ r->H' b=H b)->aS K G' H' v m' c'->aS K G' H' u (l++(m'++r)) (cQ p t c')
 | [],u,bs,tr,c,h,e=>by
   cases e
   exact ⟨u,[],bs,[],rfl,by simp,h,λg _ h'=>by simpa [cQ] using h'⟩
 | i :: p,_,_,.l xs,c,.l (a:=a) (bs:=bs) hH r,e=>by
   rw [gE] at e
   cases ei:xs[i]? with
   | none=>rw [ei] at e; cases e
   | some x=>
     rw [ei] at e
     obtain ⟨v,l,m,q,h1,h2,h3,h4⟩:=r.part ei
     obtain ⟨w,l',m',q',g1,g2,g3,g4⟩:=aS.focus p h3 e
     refine ⟨w,a :: (l++l'),m',q'++q,⟨a,_,v,rfl,.inl hH,h1,g1⟩,by rw [h2,g2]; simp,g3,λ{G' H' m2 c2} g e2 h'=>?_⟩
     have k1:=g4 g (λb hb=>e2 b (hb.elim (λz=>.inl (List.mem_cons_of_mem _ (List.mem_append_right _ z))) λz=>.inr (List.mem_append_left _ z))) h'
     have k2:=h4 g (λb hb=>e2 b (hb.elim (λz=>.inl (List.mem_cons_of_mem _ (List.mem_append_left _ z))) λz=>.inr (List.mem_append_right _ z))) k1
     rw [cQ,show xs.getD i (.d .non)=x by simp [List.getD,ei]]
     have k3:=aS.l (G:=G') (K:=K) (a:=a) (by rw [e2 a (.inl (List.mem_cons_self ..))]; exact hH) k2
     simpa using k3
 | i :: p,_,_,.t xs,c,.t (a:=a) (bs:=bs) hH r,e=>by
   rw [gE] at e
   cases ei:xs[i]? with
   | none=>rw [ei] at e; cases e
   | some x=>
     rw [ei] at e
     obtain ⟨v,l,m,q,h1,h2,h3,h4⟩:=r.part ei
     obtain ⟨w,l',m',q',g1,g2,g3,g4⟩:=aS.focus p h3 e
     refine ⟨w,a :: (l++l'),m',q'++q,⟨a,_,v,rfl,.inr hH,h1,g1⟩,by rw [h2,g2]; simp,g3,λ{G' H' m2 c2} g e2 h'=>?_⟩
     have k1:=g4 g (λb hb=>e2 b (hb.elim (λz=>.inl (List.mem_cons_of_mem _ (List.mem_append_right _ z))) λz=>.inr (List.mem_append_left _ z))) h'
     have k2:=h4 g (λb hb=>e2 b (hb.elim (λz=>.inl (List.mem_cons_of_mem _ (List.mem_append_left _ z))) λz=>.inr (List.mem_append_right _ z))) k1
     rw [cQ,show xs.getD i (.d .non)=x by simp [List.getD,ei]]
     have k3:=aS.t (G:=G') (K:=K) (a:=a) (by rw [e2 a (.inl (List.mem_cons_self ..))]; exact hH) k2
     simpa using k3
theorem bI.det:∀ {p:List Nat} {u v w:V},bI H p u v->bI H p u w->v=w
 | [],_,_,_,h,h'=>h.trans h'.symm
 | _ :: _,_,_,_,⟨a,vs,x,h1,h2,h3,h4⟩,⟨b,us,y,g1,g2,g3,g4⟩=>by
   rw [h1] at g1
   cases g1
   have e:vs=us:=by
     rcases h2 with h2 | h2 <;> rcases g2 with g2 | g2 <;> rw [h2] at g2 <;> cases g2 <;> rfl
   subst e
   rw [h3] at g3
   cases g3
   exact h4.det g4
theorem a9.frame {G' H':Hp} (g:ag G G') {v:Option V} {bs:List Addr}:∀ {s:Sl},(∀ b ∈ bs,H' b=H b)->a9 K G H v bs s->a9 K G' H' v bs s
 | .un,_,h=>h
 | .d _,_,⟨h,u,e1,h2⟩=>⟨h,u,e1,h2.mono g⟩
 | .o _,e,⟨a,vs,h1,h2,h3,h4⟩=>⟨a,vs,h1,h2,by rw [e a (by rw [h1]; exact List.mem_cons_self ..)]; exact h3,h4.mono g⟩
 | .n _,e,⟨h0,u,h1,h2⟩=>⟨h0,u,h1,h2.frame g e⟩
 | .x E,e,⟨a,o,h1,h2,h3,h4⟩=>⟨a,o,h1,h2,by rw [e a (by rw [h1]; exact List.mem_cons_self ..)]; exact h3,E.mono g h4⟩
theorem ij {l r b0 b1:List Addr} {a:Addr} (h:(l++((a :: b0)++r)).Nodup) (h1:b1.Nodup) (hb:∀ b ∈ b1,b ∈ b0\/(b ∉ l/\b ≠ a/\b ∉ r)):(l++((a :: b1)++r)).Nodup:=by
 obtain ⟨z1,z2,z3⟩:=List.nodup_append.mp h
 rw [List.cons_append] at z2
 obtain ⟨z4,z5⟩:=List.nodup_cons.mp z2
 obtain ⟨z6,z7,z8⟩:=List.nodup_append.mp z5
 refine List.nodup_append.mpr ⟨z1,?_,λx hx y hy=>?_⟩
 · rw [List.cons_append]
   refine List.nodup_cons.mpr ⟨λz=>?_,List.nodup_append.mpr ⟨h1,z7,λx hx y hy=>?_⟩⟩
   · rcases List.mem_append.mp z with z | z
     · rcases hb a z with q | q
       · exact z4 (List.mem_append_left _ q)
       · exact q.2.1 rfl
     · exact z4 (List.mem_append_right _ z)
   · rcases hb x hx with q | q
     · exact z8 x q y hy
     · exact λe=>q.2.2 (e ▸ hy)
 · rw [List.cons_append] at hy
   rcases List.mem_cons.mp hy with q | q
   · exact z3 x hx y (by rw [q]; exact List.mem_append_left _ (List.mem_cons_self ..))
   · rcases List.mem_append.mp q with q | q
     · rcases hb y q with q | q
       · exact z3 x hx y (List.mem_append_left _ (List.mem_cons_of_mem _ q))
       · exact λe=>q.1 (e ▸ hx)
     · exact z3 x hx y (List.mem_append_right _ q)
theorem Sta.putN {A:Addr->Prop} {H₀:Hp} {τ:List Sl} {B:Nat->List Addr} {σ:L2.St} {i:Nat} {t:Nd} {p:List Nat} {xs:List Nd} (S:Sta K A H₀ τ B σ H) (hi:τ[i]?=some (.n t)) (hp:gE p t=some (.l xs)) :
   ∃ u a vs bs0,(σ[i]?).join=some u/\bI H p u (.ref a)/\H a=some (.lst vs)/\az K (hd H (own A B)) H vs bs0 xs/\bs0.Nodup/\own A B a/\(∀ b ∈ bs0,own A B b/\b ≠ a) /\
     ∀ {H1:Hp} {vs':List V} {bs1:List Addr} {xs':List Nd},ag H H1->bs1.Nodup->(∀ b ∈ bs1,b ∈ bs0\/(H b=none/\∃ o,H1 b=some o))->az K (hd (upd H1 a (.lst vs')) λb=>own A B b\/b ∈ bs1) (upd H1 a (.lst vs')) vs' bs1 xs' ->
       ∃ B',Sta K A H₀ (τ.set i (.n (cQ p t (.l xs')))) B' σ (upd H1 a (.lst vs')):=by
 obtain ⟨nd,u,eu,ok⟩:=S.sl i _ hi
 obtain ⟨v,l,m,r,pv,hbs,okc,back⟩:=ok.focus p hp
 cases okc with
 | @l a vs bs0 _ hH r0=>
   have mem:∀ b,b ∈ l\/b=a\/b ∈ bs0\/b ∈ r->b ∈ B i:=λb hb=>by
     rw [hbs]
     rcases hb with z | z | z | z
     · exact List.mem_append_left _ z
     · exact List.mem_append_right _ (by rw [z]; exact List.mem_append_left _ (List.mem_cons_self ..))
     · exact List.mem_append_right _ (List.mem_append_left _ (List.mem_cons_of_mem _ z))
     · exact List.mem_append_right _ (List.mem_append_right _ z)
   have nd':=nd
   rw [hbs] at nd'
   obtain ⟨n1,n2,n3⟩:=List.nodup_append.mp nd'
   rw [List.cons_append] at n2
   obtain ⟨n4,n5⟩:=List.nodup_cons.mp n2
   obtain ⟨n6,_,_⟩:=List.nodup_append.mp n5
   have ha:own A B a:=.inr ⟨i,mem a (.inr (.inl rfl))⟩
   refine ⟨u,a,vs,bs0,eu,pv,hH,r0,n6,ha,λb hb=>⟨.inr ⟨i,mem b (.inr (.inr (.inl hb)))⟩,λz=>n4 (z ▸ List.mem_append_left _ hb)⟩,λ{H1 vs' bs1 xs'} e h1 hb hx=>?_⟩
   have keep:∀ b o,b ≠ a->H b=some o->upd H1 a (.lst vs') b=H b:=λb o ne h=>by rw [ak ne,e _ _ h,h]
   have la:∀ b,b ∈ l\/b ∈ r->b ≠ a:=λb hb z=>by
     rcases hb with q | q
     · exact n3 b q a (List.mem_append_left _ (List.mem_cons_self ..)) z
     · exact n4 (z ▸ List.mem_append_right _ q)
   have fresh:∀ b ∈ bs1,b ∈ bs0\/(b ∉ l/\b ≠ a/\b ∉ r):=λb hb1=>by
     rcases hb b hb1 with q | ⟨q,_⟩
     · exact .inl q
     · have no:∀ c,c ∈ B i->b ≠ c:=λc hc z=>by obtain ⟨o,hc⟩:=S.bd i c hc; rw [<- z,q] at hc; cases hc
       exact .inr ⟨λz=>no b (mem b (.inl z)) rfl,no a (mem a (.inr (.inl rfl))),λz=>no b (mem b (.inr (.inr (.inr z)))) rfl⟩
   have sub:∀ b,own A (upB B i (l++((a :: bs1)++r))) b->own A B b\/b ∈ bs1:=λb z=>by
     rcases z with z | ⟨j,z⟩
     · exact .inl (.inl z)
     · rcases aK z with ⟨_,z⟩ | ⟨_,z⟩
       · rcases List.mem_append.mp z with z | z
         · exact .inl (.inr ⟨i,mem b (.inl z)⟩)
         · rw [List.cons_append] at z
           rcases List.mem_cons.mp z with z | z
           · exact .inl (z ▸ ha)
           · rcases List.mem_append.mp z with z | z
             · exact .inr z
             · exact .inl (.inr ⟨i,mem b (.inr (.inr (.inr z)))⟩)
       · exact .inl (.inr ⟨j,z⟩)
   have sm:ag (hd H (own A B)) (hd (upd H1 a (.lst vs')) (own A (upB B i (l++((a :: bs1)++r))))):=λb o z=>by
     obtain ⟨z1,z2⟩:=ao.mp z
     refine ao.mpr ⟨λy=>?_,by rw [keep b o (λq=>z1 (q ▸ ha)) z2]; exact z2⟩
     rcases sub b y with y | y
     · exact z1 y
     · rcases hb b y with q | ⟨q,_⟩
       · exact z1 (.inr ⟨i,mem b (.inr (.inr (.inl q)))⟩)
       · rw [q] at z2; cases z2
   have hs:ag H₀ (upd H1 a (.lst vs')):=λb o z=>by
     have f0:=S.fr i a (mem a (.inr (.inl rfl)))
     rw [ak (λq=>by rw [q,f0] at z; cases z)]
     exact e _ _ (S.same _ _ z)
   refine ⟨upB B i (l++((a :: bs1)++r)),hs,by rw [List.length_set,S.len],λj s hj=>?_,λj b z=>?_,λj k b z1 z2=>?_,S.ad,λj b z=>?_⟩
   · by_cases ej:j=i
     · subst ej
       have hl:=(List.getElem?_eq_some_iff.mp hi).1
       rw [List.getElem?_set_self hl] at hj
       cases hj
       unfold upB
       rw [if_pos rfl]
       refine ⟨ij nd' h1 fresh,u,eu,back sm (λb hb=>?_) (.l aF (hx.frame (au (ag.refl _) sub) λ_ _=>rfl))⟩
       obtain ⟨o,q⟩:=S.bd j b (mem b (hb.elim .inl λz=>.inr (.inr (.inr z))))
       exact keep b o (la b hb) q
     · rw [List.getElem?_set_ne (λz=>ej z.symm)] at hj
       unfold upB
       rw [if_neg ej]
       refine (S.sl j s hj).frame sm λb hb=>?_
       obtain ⟨o,q⟩:=S.bd j b hb
       exact keep b o (λz=>ej (S.uq j i a (z ▸ hb) (mem a (.inr (.inl rfl))))) q
   · rcases aK z with ⟨_,z⟩ | ⟨_,z⟩
     · rcases sub b (.inr ⟨i,by unfold upB; rw [if_pos rfl]; exact z⟩) with y | y
       · rcases List.mem_append.mp z with z | z
         · exact S.fr i b (mem b (.inl z))
         · rw [List.cons_append] at z
           rcases List.mem_cons.mp z with z | z
           · exact S.fr i b (mem b (.inr (.inl z)))
           · rcases List.mem_append.mp z with z | z
             · rcases hb b z with q | ⟨q,_⟩
               · exact S.fr i b (mem b (.inr (.inr (.inl q))))
               · exact S.same.free q
             · exact S.fr i b (mem b (.inr (.inr (.inr z))))
       · rcases hb b y with q | ⟨q,_⟩
         · exact S.fr i b (mem b (.inr (.inr (.inl q))))
         · exact S.same.free q
     · exact S.fr j b z
   · have inB:∀ {c},c ∈ l++((a :: bs1)++r)->c ∈ B i\/H c=none:=λ{c} z=>by
       rcases List.mem_append.mp z with z | z
       · exact .inl (mem c (.inl z))
       · rw [List.cons_append] at z
         rcases List.mem_cons.mp z with z | z
         · exact .inl (mem c (.inr (.inl z)))
         · rcases List.mem_append.mp z with z | z
           · rcases hb c z with q | ⟨q,_⟩
             · exact .inl (mem c (.inr (.inr (.inl q))))
             · exact .inr q
           · exact .inl (mem c (.inr (.inr (.inr z))))
     have cross:∀ {j},j ≠ i->b ∈ B j->b ∈ l++((a :: bs1)++r)->False:=λ{j} nj y1 y2=>by
       rcases inB y2 with q | q
       · exact nj (S.uq j i b y1 q)
       · obtain ⟨o,w⟩:=S.bd j b y1; rw [q] at w; cases w
     rcases aK z1 with ⟨e1,y1⟩ | ⟨e1,y1⟩ <;> rcases aK z2 with ⟨e2,y2⟩ | ⟨e2,y2⟩
     · exact e1.trans e2.symm
     · exact (cross e2 y2 y1).elim
     · exact (cross e1 y1 y2).elim
     · exact S.uq j k b y1 y2
   · rcases aK z with ⟨_,z⟩ | ⟨_,z⟩
     · by_cases e':b=a
       · exact ⟨_,by rw [e']; exact aF⟩
       · rw [ak e']
         have old:b ∈ B i->∃ o,H1 b=some o:=λq=>let ⟨o,w⟩:=S.bd i b q; ⟨o,e _ _ w⟩
         rcases List.mem_append.mp z with z | z
         · exact old (mem b (.inl z))
         · rw [List.cons_append] at z
           rcases List.mem_cons.mp z with z | z
           · exact absurd z e'
           · rcases List.mem_append.mp z with z | z
             · rcases hb b z with q | ⟨_,q⟩
               · exact old (mem b (.inr (.inr (.inl q))))
               · exact q
             · exact old (mem b (.inr (.inr (.inr z))))
     · by_cases e':b=a
       · exact ⟨_,by rw [e']; exact aF⟩
       · rw [ak e']
         obtain ⟨o,w⟩:=S.bd j b z
         exact ⟨o,e _ _ w⟩
end
noncomputable def dP (K:PySem.W.Frag) (τ:List Sl) (i:Nat) (p:List Nat):TE:=λσ H Q=>∃ A H₀ B,Sta K A H₀ τ B σ H/\∀ u v H',(σ[i]?).join=some u->ag H H'->bI H' p u v->Q v H'
noncomputable def l9:Sl->Option Nd
 | .un=>none
 | .d x=>some (.d x)
 | .o xs=>some (.l (xs.map .d))
 | .n t=>some t
 | .x _=>none
section
variable {K:PySem.W.Frag} {G H:Hp}
theorem kE:∀ {vs:List V} {xs:List D},aq K G vs xs->az K G H vs [] (xs.map .d)
 | _,_,.nil=>.nil
 | _,_,.cons h r=>.cons (b1:=[]) (b2:=[]) (.d h) (kE r)
theorem a9.nd {v:V} {bs:List Addr} {s:Sl} {c:Nd} (h:a9 K G H (some v) bs s) (e:l9 s=some c):aS K G H v bs c/\bs.Nodup:=by
 cases s with
 | un=>cases e
 | d x=>cases e; obtain ⟨rfl,u,eu,d⟩:=h; cases eu; exact ⟨.d d,List.nodup_nil⟩
 | o xs=>cases e; obtain ⟨a,vs,rfl,e2,h3,h4⟩:=h; cases e2; exact ⟨.l h3 (kE h4),by simp⟩
 | n t=>cases e; obtain ⟨h0,u,eu,h2⟩:=h; cases eu; exact ⟨h2,h0⟩
 | x E=>cases e
theorem az.snoc {v:V} {c:Nd} {b2:List Addr} (h:aS K G H v b2 c):∀ {vs:List V} {bs:List Addr} {xs:List Nd},az K G H vs bs xs->az K G H (vs++[v]) (bs++b2) (xs++[c])
 | _,_,_,.nil=>by have:=az.cons h .nil; rw [List.append_nil] at this; exact this
 | _,_,_,.cons h1 r=>by rw [List.append_assoc]; exact .cons h1 (az.snoc h r)
end
section
variable {X:Cx} {C:Bool} {τ:List Sl} {x y z:D} {a b e o ix:Expr} {es:List Expr} {pos p q:Pos} {k:Nat} {s:Sl} {N:Po} {rest:List Stmt} {i:Nat} {t c:Nd} {pt:List Nat} {xs:List Nd} {j:Int} {m:Nat}
theorem lg (i:Nat) {n:Str} {t:Nd} (h:τ[i]?=some (.n t):=by rfl) (hN:X.N[i]?=some n:=by rfl) (hv:Vis X.env.scope n:=by first | exact Or.inl rfl | exact Or.inr (Or.inl rfl) | exact Or.inr (Or.inr rfl))
   (hd:(n == ("__debug__" : Str))=false:=by decide) (hcd:(n == ("__classdict__" : Str))=false:=by decide):PE X (.Name n pos) (dP X.K τ i []):=peW (di hN hv hd hcd) λσ H Q ⟨A,H₀,B,S,k⟩=>by
 obtain ⟨_,u,e,_⟩:=S.sl i _ h
 exact ⟨u,slot_of e,k u u H e (ag.refl _) rfl⟩
theorem Sta.at {K:PySem.W.Frag} {A:Addr->Prop} {H₀ H:Hp} {τ:List Sl} {B:Nat->List Addr} {σ:L2.St} (S:Sta K A H₀ τ B σ H) (hi:τ[i]?=some (.n t)) (hp:gE pt t=some c):∃ u v m,(σ[i]?).join=some u/\bI H pt u v/\aS K (hd H (own A B)) H v m c/\∀ b ∈ m,b ∈ B i:=by
 obtain ⟨_,u,e,ok⟩:=S.sl i _ hi
 obtain ⟨v,l,m,r,h1,h2,h3,_⟩:=ok.focus pt hp
 exact ⟨u,v,m,e,h1,h3,λb hb=>by rw [h2]; exact List.mem_append_right _ (List.mem_append_left _ hb)⟩
theorem mw {K:PySem.W.Frag} {G H:Hp} {vs:List V} {bs:List Addr} {m:Nat} (r:az K G H vs bs xs) (hm:m < xs.length):∃ v,vs[m]?=some v:=⟨vs[m]'(by rw [r.length]; exact hm),List.getElem?_eq_getElem _⟩
theorem m4 {n m:Nat} {j:Int} (h:ixN n j=some m):m < n:=by
 unfold ixN at h
 split at h
 · split at h
   · cases h; omega
   · cases h
 · split at h
   · cases h; omega
   · cases h
theorem pz (ha:PE X a (dP X.K τ i pt)) (hb:PE X b (dE X.K false τ (.d (.int j)))) (hi:τ[i]?=some (.n t)) (hp:gE pt t=some (.l xs)) (hj:ixN xs.length j=some m) (hs:gx b:=by exact λ_ _=>rfl):PE X (.Subscript a b pos) (dP X.K τ i (pt++[m])):=
 peW (mV jg ha hb hs) λσ H Q ⟨A,H₀,B,S,k⟩=>⟨A,H₀,B,S,λu v H1 eu e1 pv=>aH (S.mono e1) λw H2 e2 d2=>by
   cases d2
   obtain ⟨u',v',m',eu',pv',ok,_⟩:=((S.mono e1).mono e2).at hi hp
   rw [eu] at eu'
   cases eu'
   obtain rfl:=(pv.mono e2).det pv'
   cases ok with
   | @l ad vs _ _ hH r=>
     obtain ⟨x,hx⟩:=mw r (m4 hj)
     exact ⟨ad,vs,j,x,rfl,rfl,SqL.of hH,by unfold atI; rw [r.length,hj]; exact hx,k u x H2 eu (e1.trans e2) (pv'.snoc (.inl hH) hx)⟩⟩
theorem lE {ap cp:Pos} (ho:PE X o (dP X.K τ i pt)) (he:PE X e (dE X.K true τ s)) (hi:τ[i]?=some (.n t)) (hp:gE pt t=some (.l xs)) (hc:l9 s=some c) (hl:xs.length < 1000000) (hr:PSs X rest (dS X.K (τ.set i (.n (cQ pt t (.l (xs++[c]))))) N))
   (hfew:((backTo cp (starEach [e] X.env)).all (λx=>!x.1) && (backToKw cp (keywordEach [] X.env)).all (λx=>x.1.isSome) && decide (([e]:List Expr).length + ([]:List Keyword).length + (if ([]:List Keyword).isEmpty then 0 else 1) < 30))=true:=by rfl)
   (hline:(ap.endLine == cp.line)=true:=by rfl) (hst:starEach [e] X.env=(false,eval e X.env) :: starEach [] X.env:=by rfl) (hpl:(backTo cp (starEach [] X.env)).any (·.1)=false:=by rfl)
   (hs:swapsWith (.Call (.Attribute o "append" ap) [e] [] cp) none pos.line X.env=pure false:=by rfl) (hbase:attributeBase o "append" X.env (eval o X.env)=eval o X.env:=by rfl) :
   PSs X (.Expr (.Call (.Attribute o "append" ap) [e] [] cp) pos :: rest) (dS X.K τ N):=
 bh (M:=(·=τ.set i (.n (cQ pt t (.l (xs++[c])))))) (psW (gn (mE PySem.F.plainAttrs_list PySem.F.slot_list_append PySem.F.type_list_append dg ho (cN he fV hst) hbase hfew hline hst hpl) hs) λD σ H ⟨A,H₀,B,S,Me⟩=>by
   refine ⟨A,H₀,B,S,λu v H1 eu e1 pv=>?_⟩
   have S1:=S.mono e1
   obtain ⟨u',l,vs,bs0,eu',pv',hH,r0,nd0,hal,hown,put⟩:=S1.putN hi hp
   rw [eu] at eu'
   cases eu'
   obtain rfl:=pv.det pv'
   refine ⟨.inl ⟨rfl,_,SqL.of hH⟩,A,H₀,B,S1,λw H2 bs e2 hf hw=>⟨l,vs,w,rfl,rfl,e2 _ _ hH,by rw [r0.length]; exact Nat.lt_trans hl (by decide),?_⟩⟩
   obtain ⟨nw,ndw⟩:=hw.nd hc
   have off:∀ b ∈ bs,b ≠ l:=λb hb z=>by rw [z] at hb; rw [(hf l hb).1] at hH; cases hH
   have sm:ag (hd H2 λb=>own A B b\/b ∈ bs) (hd (upd H2 l (.lst (vs++[w]))) λb=>own A B b\/b ∈ bs0++bs):=λb o z=>by
     obtain ⟨z1,z2⟩:=ao.mp z
     refine ao.mpr ⟨λy=>z1 ?_,by rw [ak (λy:b=l=>z1 (.inl (by rw [y]; exact hal)))]; exact z2⟩
     rcases y with y | y
     · exact .inl y
     · exact (List.mem_append.mp y).elim (λz=>.inl (hown b z).1) .inr
   have sm0:ag (hd H1 (own A B)) (hd (upd H2 l (.lst (vs++[w]))) λb=>own A B b\/b ∈ bs0++bs):=λb o z=>by
     obtain ⟨z1,z2⟩:=ao.mp z
     refine ao.mpr ⟨λy=>?_,by rw [ak (λy:b=l=>z1 (by rw [y]; exact hal))]; exact e2 _ _ z2⟩
     rcases y with y | y
     · exact z1 y
     · rcases List.mem_append.mp y with y | y
       · exact z1 (hown b y).1
       · rw [(hf b y).1] at z2; cases z2
   obtain ⟨B',S'⟩:=put (H1:=H2) (vs':=vs++[w]) (bs1:=bs0++bs) (xs':=xs++[c]) e2 (List.nodup_append.mpr ⟨nd0,ndw,λx hx y hy z=>by
       obtain ⟨o,q⟩:=r0.some_of x hx
       rw [z,(hf y hy).1] at q; cases q⟩)
     (λb hb=>(List.mem_append.mp hb).elim .inl λz=>.inr (hf b z))
     (az.snoc (nw.frame sm λb hb=>ak (off b hb)) (r0.frame sm0 λb hb=>by
       obtain ⟨o,q⟩:=r0.some_of b hb
       rw [ak (hown b hb).2,e2 _ _ q,q]))
   exact Me.nx _ B' _ _ rfl S') λ_ e=>e ▸ hr
end
end Hy
namespace Ev
open PySem PySem.Spec PyProof.Rows L2
noncomputable def bad:Str:=⟨#[0x110000]⟩
mutual
noncomputable def eqD:D->D->Bool
 | .non,.non=>true
 | .bl a,.bl b=>a == b
 | .bl a,.int j=>(if a then 1 else 0) == j
 | .int i,.bl b=>i == (if b then 1 else 0)
 | .int a,.int b=>a == b
 | .str a,.str b=>a == b
 | .tup xs,.tup ys=>gq xs ys
 | .lst xs,.lst ys=>gq xs ys
 | .box _,.box _=>true
 | .box _,.str b=>bad == b
 | .str a,.box _=>a == bad
 | .box _,.non | .box _,.bl _ | .box _,.int _ | .box _,.tup _ | .box _,.lst _=>false
 | .non,.box _ | .bl _,.box _ | .int _,.box _ | .tup _,.box _ | .lst _,.box _=>false
 | .non,.bl _ | .non,.int _ | .non,.str _ | .non,.tup _ | .non,.lst _=>false
 | .bl _,.non | .bl _,.str _ | .bl _,.tup _ | .bl _,.lst _=>false
 | .int _,.non | .int _,.str _ | .int _,.tup _ | .int _,.lst _=>false
 | .str _,.non | .str _,.bl _ | .str _,.int _ | .str _,.tup _ | .str _,.lst _=>false
 | .tup _,.non | .tup _,.bl _ | .tup _,.int _ | .tup _,.str _ | .tup _,.lst _=>false
 | .lst _,.non | .lst _,.bl _ | .lst _,.int _ | .lst _,.str _ | .lst _,.tup _=>false
noncomputable def gq:List D->List D->Bool
 | [],[]=>true
 | x :: xs,y :: ys=>eqD x y && gq xs ys
 | [],_ :: _=>false
 | _ :: _,[]=>false
end
mutual
noncomputable def toP:D->PyData
 | .non=>.none
 | .bl b=>.bool b
 | .int i=>.int i
 | .str x=>.str x
 | .tup xs=>.tuple (cn xs)
 | .lst xs=>.list (cn xs)
 | .box _=>.str bad
noncomputable def cn:List D->List PyData
 | []=>[]
 | x :: xs=>toP x :: cn xs
end
mutual
noncomputable def cln:D->Bool
 | .str x=>PyData.strOk x
 | .tup xs=>ff xs
 | .lst xs=>ff xs
 | .box _=>false
 | .non | .bl _ | .int _=>true
noncomputable def ff:List D->Bool
 | []=>true
 | x :: xs=>cln x && ff xs
end
mutual
noncomputable def dep:D->Nat
 | .tup xs=>hX xs + 1
 | .lst xs=>hX xs + 1
 | .non | .bl _ | .int _ | .str _ | .box _=>0
noncomputable def hX:List D->Nat
 | []=>0
 | x :: xs=>max (dep x) (hX xs)
end
noncomputable def fb (x:D):Prop:=cln x=true/\dep x<=64
noncomputable instance (x:D):Decidable (fb x):=inferInstanceAs (Decidable (_/\_))
mutual
theorem dJ:∀ x y:D,PyData.eqv (toP x) (toP y)=eqD x y
 | .non,y=>by cases y <;> simp [toP,PyData.eqv,eqD]
 | .bl a,y=>by cases y <;> simp [toP,PyData.eqv,eqD]
 | .int a,y=>by cases y <;> simp [toP,PyData.eqv,eqD]
 | .str a,y=>by cases y <;> simp [toP,PyData.eqv,eqD]
 | .tup xs,.tup ys=>by simp only [toP,PyData.eqv,eqD]; exact d8 xs ys
 | .lst xs,.lst ys=>by simp only [toP,PyData.eqv,eqD]; exact d8 xs ys
 | .tup xs,.non=>by simp [toP,PyData.eqv,eqD]
 | .tup xs,.bl _=>by simp [toP,PyData.eqv,eqD]
 | .tup xs,.int _=>by simp [toP,PyData.eqv,eqD]
 | .tup xs,.str _=>by simp [toP,PyData.eqv,eqD]
 | .tup xs,.lst _=>by simp [toP,PyData.eqv,eqD]
 | .lst xs,.non=>by simp [toP,PyData.eqv,eqD]
 | .lst xs,.bl _=>by simp [toP,PyData.eqv,eqD]
 | .lst xs,.int _=>by simp [toP,PyData.eqv,eqD]
 | .lst xs,.str _=>by simp [toP,PyData.eqv,eqD]
 | .lst xs,.tup _=>by simp [toP,PyData.eqv,eqD]
 | .tup xs,.box _=>by simp [toP,PyData.eqv,eqD]
 | .lst xs,.box _=>by simp [toP,PyData.eqv,eqD]
 | .box _,y=>by cases y <;> simp [toP,PyData.eqv,eqD]
theorem d8:∀ xs ys:List D,PyData.eqvAll (cn xs) (cn ys)=gq xs ys
 | [],[]=>by simp [cn,PyData.eqvAll,gq]
 | [],_ :: _=>by simp [cn,PyData.eqvAll,gq]
 | _ :: _,[]=>by simp [cn,PyData.eqvAll,gq]
 | x :: xs,y :: ys=>by simp only [cn,PyData.eqvAll,gq]; rw [dJ x y,d8 xs ys]
end
mutual
theorem fW:∀ x:D,(toP x).canLay0=cln x
 | .non=>by simp [toP,PyData.canLay0,cln]
 | .bl _=>by simp [toP,PyData.canLay0,cln]
 | .int _=>by simp [toP,PyData.canLay0,cln]
 | .str _=>by simp [toP,PyData.canLay0,cln]
 | .tup xs=>by simp only [toP,PyData.canLay0,cln]; exact eW xs
 | .lst xs=>by simp only [toP,PyData.canLay0,cln]; exact eW xs
 | .box _=>by simp only [toP,PyData.canLay0,cln]; decide +kernel
theorem eW:∀ xs:List D,PyData.canLayAll0 (cn xs)=ff xs
 | []=>by simp [cn,PyData.canLayAll0,ff]
 | x :: xs=>by simp only [cn,PyData.canLayAll0,ff]; rw [fW x,eW xs]
end
mutual
theorem fP:∀ x:D,(toP x).depth=dep x
 | .non=>by simp [toP,PyData.depth,dep]
 | .bl _=>by simp [toP,PyData.depth,dep]
 | .int _=>by simp [toP,PyData.depth,dep]
 | .str _=>by simp [toP,PyData.depth,dep]
 | .tup xs=>by simp only [toP,PyData.depth,dep]; rw [en xs]
 | .lst xs=>by simp only [toP,PyData.depth,dep]; rw [en xs]
 | .box _=>by simp [toP,PyData.depth,dep]
theorem en:∀ xs:List D,PyData.depthAll (cn xs)=hX xs
 | []=>by simp [cn,PyData.depthAll,hX]
 | x :: xs=>by simp only [cn,PyData.depthAll,hX]; rw [fP x,en xs]
end
theorem cE {x:D} (h:fb x):SeqAt.shaped (toP x)=true:=by
 unfold SeqAt.shaped
 rw [fW,fP,h.1,Bool.true_and]
 exact decide_eq_true h.2
section
variable {X:Cx} {pins:List (Addr × Obj)} {σ:L2.St} {H G:Hp} {s:Shared}
mutual
theorem cb (I:Inv X pins σ H s) (e:ag G H):∀ {v:V} {d:D} {u:Value},Den X.K G v d->RelV v u->cln d=true->∃ as,Reads s.heap u (toP d) as
 | _,_,_,.non,r,_=>by cases r; exact ⟨_,.none⟩
 | _,_,_,.bl,r,_=>by cases r; exact ⟨_,.bool _⟩
 | _,_,_,.int,r,_=>by obtain ⟨t,rfl⟩:=r; exact ⟨_,.int _ _⟩
 | _,_,_,.str,r,_=>by obtain ⟨t,rfl⟩:=r; exact ⟨_,.str _ _⟩
 | _,_,_,.tup h q,r,c=>by
   cases r
   obtain ⟨its,rv,⟨o,h1,h2,n,h3⟩,_⟩:=I.tuple (aP e h)
   obtain ⟨as,z⟩:=dj I e q rv (by rw [cln] at c; exact c)
   exact ⟨_,.tuple h1 h2 h3 (by simpa using z)⟩
 | _,_,_,.lst h q,r,c=>by
   cases r
   obtain ⟨its,rv,⟨o,n,h1,h2,_,h3⟩,_⟩:=I.list (ay e h)
   obtain ⟨as,z⟩:=dj I e q rv (by rw [cln] at c; exact c)
   exact ⟨_,.list h1 h2 h3 (by simpa using z)⟩
 | _,_,_,.box _,_,c=>by rw [cln] at c; cases c
theorem dj (I:Inv X pins σ H s) (e:ag G H):∀ {vs:List V} {ds:List D} {us:List Value},aq X.K G vs ds->Vals vs us->ff ds=true->∃ as,ReadsAll s.heap us (cn ds) as
 | _,_,_,.nil,.nil,_=>⟨_,.nil⟩
 | _,_,_,.cons h q,.cons r rs,c=>by
   rw [ff,Bool.and_eq_true] at c
   obtain ⟨as,z⟩:=cb I e h r c.1
   obtain ⟨bs,z'⟩:=dj I e q rs c.2
   exact ⟨_,.cons z z'⟩
end
end
end Ev
namespace Hy
open PySem PySem.Spec PyProof.Rows L2
open Ev (D Den aq aj aP ay Itz nr iV eqD fb cb cE dJ)
section
variable {X:Cx} {C:Bool} {τ:List Sl} {x y z:D} {a b e c tg it elt:Expr} {es ifs:List Expr} {pos p q:Pos} {k:Nat} {s:Sl} {N:Po} {rest body:List Stmt} {ds xs ys:List D} {i j:Int} {scope:Scope}
theorem i4 (M:Nat->Bool->List Sl->Prop) (B:Bk X k) (h0:∃ n t,M n t τ) (hc:∀ n t τ',M n t τ'->PT X c (dT X.K τ' t)) (hb:∀ n τ',M n true τ'->PSs X body (dS X.K τ' { N with nx:=λτ2=>∃ m t,m < n/\M m t τ2,ct:=λτ2=>∃ m t,m < n/\M m t τ2,bk:=λ_=>False }))
   (hr:∀ n τ',M n false τ'->PSs X rest (dS X.K τ' N)):PSs X (.While c body [] pos :: rest) (dS X.K τ N):=by
 have hc':PT X c λσ H Q=>∃ n t τ',M n t τ'/\dT X.K τ' t σ H Q:=λpins s σ H Q I ⟨n,t,τ',m,q⟩=>hc n t τ' m pins s σ H Q I q
 have hb':PSs X body λD σ H=>∃ n τ',M n true τ'/\dS X.K τ' { N with nx:=λτ2=>∃ m t,m < n/\M m t τ2,ct:=λτ2=>∃ m t,m < n/\M m t τ2,bk:=λ_=>False } D σ H:=λpins s σ H D I ⟨n,τ',m,q⟩=>hb n τ' m pins s σ H D I q
 refine bh (M:=λτ'=>∃ n,M n false τ') (psW (kJ B.po hc' hb') λD σ H ⟨A,H₀,B,S,Me⟩=>⟨λm σ' H'=>∃ t τ' B',M m t τ'/\Sta X.K A H₀ τ' B' σ' H',?_,?_⟩) λτ' h=>let ⟨n,h⟩:=h; hr n τ' h
 · obtain ⟨n,t,h0⟩:=h0
   exact ⟨n,t,τ,B,h0,S⟩
 rintro m σ' H' ⟨t,τ',B',hM,S'⟩
 refine ⟨m,t,τ',hM,A,H₀,B',S',λH1 e1=>?_⟩
 cases t with
 | false=>exact jQ (Me.nx τ' B' σ' H1 ⟨m,hM⟩ (S'.mono e1))
 | true=>
   refine ie ⟨λσ2 H2=>∃ τ2 B2,(∃ n t,n < m/\M n t τ2)/\Sta X.K A H₀ τ2 B2 σ2 H2,λσ2 H2 ⟨τ2,B2,⟨n,t,l,q⟩,S2⟩=>⟨n,l,t,τ2,B2,q,S2⟩,m,τ',hM,A,H₀,B',S'.mono e1,?_⟩
   exact ⟨λτ2 B2 σ2 H2 m S2=>⟨τ2,B2,m,S2⟩,λ_ _ _ _ z=>z.elim,λτ2 B2 σ2 H2 m S2=>⟨τ2,B2,m,S2⟩,Me.rt,Me.xc⟩
noncomputable def eI (xs ys:List D):List D:=(xs.zip ys).map λp=>.tup [p.1,p.2]
theorem bC:(eI xs ys).length=min xs.length ys.length:=by simp [eI]
theorem gw (i:Nat) (h:i < (eI xs ys).length):(eI xs ys)[i]=.tup [xs.getD i .non,ys.getD i .non]:=by
 rw [bC] at h
 simp [eI,show i < xs.length by omega,show i < ys.length by omega]
theorem nZ {K:PySem.W.Frag} {G:Hp} {a b:Addr} {vs ws:List V} (h:SqL K G a vs) (r:aq K G vs xs) (h':SqL K G b ws) (r':aq K G ws ys):Yl K (Itz K a b) (eI xs ys) G:=by
 intro H sg
 have hl:=r.length
 have hl':=r'.length
 refine ⟨λi hi=>⟨vs,ws,ay sg h,ay sg h',by rw [bC] at hi; omega⟩,λi hi=>?_⟩
 have hi':=hi
 rw [bC] at hi'
 obtain ⟨v,hv,dv⟩:=r.get (List.getElem?_eq_getElem (show i < xs.length by omega))
 obtain ⟨w,hw,dw⟩:=r'.get (List.getElem?_eq_getElem (show i < ys.length by omega))
 refine ⟨⟨vs,ws,v,w,ay sg h,ay sg h',hv,hw⟩,λy H' ⟨p,x1,x2,hp,e0,e1,e2,e3⟩=>?_⟩
 subst e0 e1
 have ex:x1=v:=by have:=e2 vs (ay sg h); rw [hv] at this; exact (Option.some.inj this).symm
 have ey:x2=w:=by have:=e3 ws (ay sg h'); rw [hw] at this; exact (Option.some.inj this).symm
 subst ex ey
 refine ⟨aj hp _,λM hM sv=>?_⟩
 rw [gw,show xs.getD i .non=xs[i] by simp [show i < xs.length by omega],show ys.getD i .non=ys[i] by simp [show i < ys.length by omega]]
 have up:=sv.trans (au (aj hp (.tup [x1,x2])) λ_ z=>z)
 exact .tup (SqT.of (iX hM hp)) (.cons (dv.mono up) (.cons (dw.mono up) .nil))
theorem mI {ts:List Expr} {m:Nat} {tp:Pos} (B:Bk X k) (h:PE X a (dE X.K true τ (.d (.lst xs)))) (h':PE X b (dE X.K true τ (.d (.lst ys)))) (hg:Gl X "zip":=by rfl) (hs:starEach [a,b] X.env=(false,eval a X.env) :: starEach [b] X.env:=by rfl) (hs2:starEach [b] X.env=[(false,eval b X.env)]:=by rfl) :
   PI X (.Tuple ts m tp) (.Call (.Name "zip" p) [a,b] [] pos) (dI X.K τ (eI xs ys)):=
 piW (iV B.calm hg (B.blt _ (by decide)) (aa h (aa h' af hs2) hs) hs hs2) λσ H R ⟨A,H₀,B,S,k⟩=>dz S λvs H1 e1 d1=>by
   cases d1 with
   | cons d r=>
     cases r with
     | cons d' r=>
       cases r
       cases d with
       | lst h r=>cases d' with
         | lst h' r'=>exact ⟨_,_,rfl,⟨_,ay aQ h⟩,⟨_,ay aQ h'⟩,k _ H1 e1 (nZ h r h' r')⟩
theorem nK (hu:X.A.units + 64 < cLine):OpR X (compareOp .Eq) (λx y H Q=>∃ G d e,ag G H/\Den X.K G x d/\Den X.K G y e/\fb d/\fb e/\Q (.bl (eqD d e)) H):=by
 intro pins s σ H x y v u Q I rx ry ⟨G,d,e,sg,dx,dy,o1,o2,q⟩
 obtain ⟨as,r1⟩:=cb I sg dx rx o1.1
 obtain ⟨bs,r2⟩:=cb I sg dy ry o2.1
 exact eq_dataH r1 r2 (cE o1) (cE o2) hu ⟨.bl _,H,I,by rw [dJ]; rfl,q⟩
theorem pM (B:Bk X k) (h1:fb x) (h2:fb y):bE X (compareOp .Eq) x y (.bl (eqD x y)):=⟨_,nK B.room.units,λM v w H Q _ d1 d2 q=>⟨_,x,y,aQ,d1,d2,h1,h2,q _ H (ag.refl _) .bl⟩⟩
variable {u v:Str}
theorem jw:bE X (compareOp .Eq) (.str u) (.str v) (.bl (decide (u=v))):=⟨_,mB,λ_ v' w H Q _ d1 d2 k=>by
 cases d1
 cases d2
 exact ⟨rfl,by rw [show decide (V.str u=V.str v)=decide (u=v) by simp]; exact k _ H (ag.refl _) .bl⟩⟩
theorem fE:bE X (compareOp .NotEq) (.str u) (.str v) (.bl (!decide (u=v))):=⟨_,mM,λ_ v' w H Q _ d1 d2 k=>by
 cases d1
 cases d2
 exact ⟨rfl,by rw [show decide (V.str u=V.str v)=decide (u=v) by simp]; exact k _ H (ag.refl _) .bl⟩⟩
theorem dr:∀ {bs:List Bool} {us:List Value},Vals (bs.map V.bl) us->us=bs.map Value.bool
 | [],_,h=>by cases h; rfl
 | b :: bs,_,h=>by
   cases h with
   | cons rv rs=>rw [dr rs,show _=Value.bool b from rv]; rfl
theorem kC (hc:X.calm=true):cj X (.builtin "all") (λxs H Q=>∃ (p:Addr) (bs:List Bool),xs=[.ref p]/\SqL X.K H p (bs.map V.bl)/\Q (.bl (bs.all id)) H):=by
 intro pins s σ H xs us Q I r q
 obtain ⟨p,bs,rfl,h,q⟩:=q
 obtain ⟨u,rfl,ru⟩:∃ u,us=[u]/\RelV (.ref p) u:=by
   cases r with
   | cons r1 r=>cases r; exact ⟨_,rfl,r1⟩
 cases (show u=Value.ref _ from ru)
 obtain ⟨its,rv,pl,hz⟩:=I.list h
 obtain rfl:=dr rv
 have lt:∀ a,s.heap.IsList a (bs.map Value.bool).toArray->a ≠ s.heap.objs.size:=λa ⟨o,z,_⟩=>Nat.ne_of_lt (Heap.lt_size z)
 refine call_all_walk (wpAny_pyIter_list pl.isList ⟨_,_,_,_,_,_,λi=>(bs.map Value.bool)[i]? == some (Value.bool true),rfl,Walks.list (A:=X.A.in1) (I.ok.hd hc) _ _ (lt _ pl.isList) (bs.map Value.bool).toArray,⟨⟨_,Heap.get?_push_size _ rfl,rfl,rfl⟩,?_⟩,λi v s' Q' E' hP hQ=>?_,λh' tk hk=>?_⟩)
 · obtain ⟨o,z1,z2⟩:=pl.isList
   exact ⟨o,Heap.get?_push_of_some _ z1,z2⟩
 · have hP':(bs.map Value.bool)[i]?=some v:=by simpa using hP
   obtain ⟨c,_,rfl⟩:=List.mem_map.mp (List.mem_of_getElem? hP')
   refine wpAny_truthy_bool ?_
   have hQ:Q' ((bs.map Value.bool)[i]? == some (Value.bool true)) s':=hQ
   rw [hP'] at hQ
   cases c
   · exact hQ
   · exact hQ
 · refine ⟨.bl (bs.all id),H,I.kept (t':=tk) λb' o z=>?_,?_,q⟩
   · refine hk b' o (λhm=>?_) (Heap.get?_push_of_some _ z)
     have:b'=s.heap.objs.size:=by simpa using hm
     exact absurd (Heap.lt_size z) (by rw [this]; exact Nat.lt_irrefl _)
   · have e:∀ bs:List Bool,bs.all id=(List.range (bs.map Value.bool).toArray.size).all λi=>(bs.map Value.bool)[i]? == some (Value.bool true):=λbs=>by
       rw [List.size_toArray,List.length_map]
       induction bs with
       | nil=>rfl
       | cons b bs ih=>
         rw [List.all_cons,ih,List.length_cons,List.range_succ_eq_map,List.all_cons,List.all_map]
         congr 1
         cases b <;> rfl
     rw [e]; rfl
theorem jr {K:PySem.W.Frag} {H:Hp}:∀ {vs:List V} {bs:List Bool},aq K H vs (bs.map .bl)->vs=bs.map V.bl
 | _,[],h=>by cases h; rfl
 | _,_ :: _,h=>by
   cases h with
   | cons d r=>cases d; rw [jr r]; rfl
theorem fN (hc:X.calm=true) (bs:List Bool) (hx:xs=bs.map .bl):eR X (.builtin "all") [.lst xs] (.d (.bl (bs.all id))):=⟨_,kC hc,λM vs H Q _ d q=>by
 subst hx
 cases d with
 | cons d r=>
   cases r
   cases d with
   | lst h r=>
     cases jr r
     exact ⟨_,_,rfl,ay aQ h,q _ H [] (ag.refl _) bV (dh .bl)⟩⟩
end
end Hy
namespace Hy
open PySem PySem.Spec PyProof.Rows L2
open Ev (D Den aq aj aP ay ax cg b7 PTs br cx)
section
variable {X:Cx} {C:Bool} {τ:List Sl} {x y z:D} {a b e c tg it elt o:Expr} {es ifs:List Expr} {pos p q:Pos} {k:Nat} {s:Sl} {N:Po} {rest body:List Stmt} {ds xs ys:List D} {i j:Int} {scope:Scope}
end
section
variable {X:Cx} {C:Bool} {τ τ':List Sl} {x y z:D} {a b e c tg it elt o ix:Expr} {es ifs:List Expr} {pos p q:Pos} {k:Nat} {s:Sl} {N:Po} {rest body:List Stmt} {ds xs ys:List D} {i:Nat} {j:Int} {scope:Scope}
noncomputable def dGs (K:PySem.W.Frag) (τ:List Sl) (xs:List D) (τ':List Sl):TGs:=λvs σ H Q=>∃ A H₀ B,Sta K A H₀ τ B σ H/\aq K (hd H (own A B)) vs xs/\∀ σ' B',Sta K A H₀ τ' B' σ' H->Q σ' H
theorem p8 {es:List Expr} {t t':TGs} (h:PGs X es t) (f:∀ v σ H Q,t' v σ H Q->t v σ H Q):PGs X es t':=λpins s σ H v u Q I r q=>h pins s σ H v u Q I r (f v σ H Q q)
theorem nh:PGs X [] (dGs X.K τ [] τ):=p8 i6 λv σ H Q ⟨A,H₀,B,S,d,k⟩=>by
 cases d
 exact ⟨rfl,k σ B S⟩
theorem ju (i:Nat) {n:Str} (hN:X.N.Nodup) (h:PGs X es (dGs X.K (τ.set i (.d x)) xs τ')) (hi:X.N[i]?=some n:=by rfl) (hx:Loc X.env.scope n:=by first | exact .inl rfl | exact .inr rfl) (hf:X.fn n=true\/X.env.scope.names.lookup n=some .local:=by first | exact .inl rfl | exact .inr rfl | assumption):PGs X (.Name n p :: es) (dGs X.K τ (x :: xs) τ'):=
 p8 (eC (dN (i:=i) hN hi hx hf) h) λv σ H Q ⟨A,H₀,B,S,d,k⟩=>by
   cases d with
   | cons d r=>
     have sub:∀ b,own A (upB B i []) b->own A B b:=λb z=>z.elim .inl λ⟨j,z⟩=>(aK z).elim (λz=>nomatch z.2) λz=>.inr ⟨j,z.2⟩
     exact ⟨_,_,rfl,A,H₀,_,S.set (ag.refl _) (bs:=[]) (λ_ z=>nomatch z) (dh d),r.mono (au (ag.refl _) sub),k⟩
theorem qh {m:Nat} (hc:X.calm=true) (h:PGs X es (dGs X.K τ xs τ')) (hl:(assignEach es X.env).length=xs.length:=by rfl) (hst:(assignEach es X.env).findIdx? (·.1)=none:=by rfl):PG X (.Tuple es m pos) (dG X.K τ (.tup xs) τ'):=
 pgW (kI (n:=xs.length) hc h hl hst) λv σ H Q ⟨A,H₀,B,S,d,k⟩=>by
   cases d with
   | tup h r=>exact ⟨_,_,rfl,aP aQ h,r.length,A,H₀,B,S,r,k⟩
theorem nq {m:Nat} (he:PE X e (dE X.K true τ (.d x))) (hg:PG X (.Tuple es m p) (dG X.K τ x τ')) (hr:PSs X rest (dS X.K τ' N)) (hs:swapsWithSole [.Tuple es m p] e pos.line X.env=pure false:=by rfl) (hw:swappedStores [.Tuple es m p] e X.env=pure none:=by rfl)
   (h1:(assignEach [.Tuple es m p] X.env).map (·.2)=[assign (.Tuple es m p) X.env]:=by rfl):PSs X (.Assign [.Tuple es m p] e pos :: rest) (dS X.K τ N):=
 bh (M:=(·=τ')) (psW (ow he hg hs hw h1) λD σ H ⟨A,H₀,B,S,Me⟩=>aH S λv H1 e1 d1=>⟨A,H₀,B,S.mono e1,d1,λσ' B' S'=>Me.nx _ _ _ _ rfl S'⟩) λ_ e=>e ▸ hr
structure nS (X:Cx) (elt tg it:Expr) (ifs:List Expr) (scope:Scope) (τ:List Sl) (ns:List Nd):Prop where
 ex:∃ (In:TG->TT->TE->Prop) (caps:List (Option Nat)) (N:List Str) (wi:TI),b7 X scope N caps/\PI X tg it wi/\(∀ g tt te,In g tt te->∀ s H fp,PG (ax X s H scope N fp) tg g/\PTs (ax X s H scope N fp) ifs tt/\PE (ax X s H scope N fp) elt te) /\
   ∀ C σ H Q,dE X.K C τ (.n (.l ns)) σ H Q->cx In caps wi σ H Q
 hs:∀ x,foldedSetIterable it X.env x=pure x
theorem oQ {ns:List Nd} (h:nS X elt tg it ifs scope τ ns):PE X (.ListComp elt [⟨tg,it,ifs,0⟩] scope pos) (dE X.K C τ (.n (.l ns))):=by
 obtain ⟨In,caps,N,wi,h1,h2,h3,h4⟩:=h.ex
 exact peW (br h1 h2 h.hs h3) (h4 C)
theorem mj {T:Nat->List Sl} {f:Nat->Nd} {S':Nat->Sl} (B:Bk X k) (hc:bOk X.env.scope scope=true) (hi:PI X tg it (dI X.K τ xs)) (hT:∀ i,(T i).length=(a7 τ (bCp X.N scope)++[Sl.un]).length/\∀ (l:Nat) (x:D),(a7 τ (bCp X.N scope)++[Sl.un])[l]?=some (.d x)->(T i)[l]?=some (.d x))
   (hg:∀ i (h:i < xs.length) s H fp,PG (cpX X s H scope fp) tg (dG X.K (a7 τ (bCp X.N scope)++[.un]) xs[i] (T i)))
   (he:∀ i,i < xs.length->∀ s H fp,PE (cpX X s H scope fp) elt (dE X.K true (T i) (S' i))) (hn:∀ i,i < xs.length->l9 (S' i)=some (f i)) (hl:xs.length < 1000000) (hs:∀ x,foldedSetIterable it X.env x=pure x:=by intro _; rfl) :
   nS X elt tg it [] scope τ ((List.range xs.length).map f):=by
 obtain ⟨cap,_⟩:=dM hc
 generalize hτ:a7 τ (bCp X.N scope)++[Sl.un]=τb at *
 refine ⟨⟨λg tt te=>g=(λv σ H Q=>∃ (i:Nat) (h:i < xs.length),dG X.K τb xs[i] (T i) v σ H Q)/\tt=(λσ H Q=>Q true H)/\te=(λσ H Q=>∃ i,i < xs.length/\dE X.K true (T i) (S' i) σ H Q),_,_,_,cap,hi,?_,?_⟩,hs⟩
 · rintro g tt te ⟨rfl,rfl,rfl⟩ s H fp
   exact ⟨λpins s' σ H' v u Q I r ⟨i,h,q⟩=>hg i h s H fp pins s' σ H' v u Q I r q,jh,λpins s' σ H' Q I ⟨i,h,q⟩=>he i h s H fp pins s' σ H' Q I q⟩
 rintro C σ H Q ⟨A,H₀,B,S,kk⟩
 refine ⟨A,H₀,B,S,λJ H1 e1 yl=>⟨_,_,_,⟨rfl,rfl,rfl⟩,λD hD=>?_⟩⟩
 have S1:=S.mono e1
 have flat:∀ (l:Nat) (s:Sl),τb[l]?=some s->s=.un\/∃ x,s=.d x:=λl s h=>by
   rw [<- hτ] at h
   rcases List.mem_append.mp (List.mem_of_getElem? h) with z | z
   · unfold a7 at z
     obtain ⟨o,_,ho⟩:=List.mem_map.mp z
     split at ho
     · split at ho
       · exact .inr ⟨_,ho.symm⟩
       · exact .inl ho.symm
     · exact .inl ho.symm
   · exact .inl (List.mem_singleton.mp z)
 have slots:∀ {σ':L2.St} {H':Hp} {rs:List Addr},ag H1 H'->(∃ o,H' D=some o)->(∀ b ∈ rs,∃ o,H' b=some o)->σ'.length=τb.length->(∀ (l:Nat) (s:Sl),τb[l]?=some s->a9 X.K (hd H' λb=>own A B b\/b=D\/b ∈ rs) H' (σ'[l]?).join [] s)->Sta X.K (λb=>own A B b\/b=D\/b ∈ rs) H' τb (λ_=>[]) σ' H':=λ{σ' H' rs} e1 e2 e5 e3 e4=>
   ⟨ag.refl _,e3,λl s h=>(e4 l s h).mono (au (ag.refl _) λ_ z=>z.elim id λ⟨_,z⟩=>(nomatch z)) (ag.refl _),λ_ _ z=>(nomatch z),λ_ _ _ z=>(nomatch z),λb z=>z.elim (λz=>let ⟨o,q⟩:=S1.dm b z; ⟨o,e1 _ _ q⟩) λz=>z.elim (λz=>z ▸ e2) (e5 b),λ_ _ z=>(nomatch z)⟩
 refine ⟨λi m σ' H'=>m=xs.length - i/\i<=xs.length/\ag H1 H'/\(∃ vs rs,H' D=some (.lst vs)/\vs.length<=i/\az X.K (hd H' λb=>own A B b\/b=D\/b ∈ rs) H' vs rs ((List.range i).map f)/\(D :: rs).Nodup/\(∀ b ∈ rs,H1 b=none) /\
   σ'.length=τb.length/\∀ (l:Nat) (s:Sl),τb[l]?=some s->a9 X.K (hd H' λb=>own A B b\/b=D\/b ∈ rs) H' (σ'[l]?).join [] s),⟨xs.length,rfl,Nat.zero_le _,aj hD _,[],[],aF,Nat.le_refl _,.nil,by simp,λ_ z=>(nomatch z),?_,λl s h=>?_⟩,?_⟩
 · rw [<- hτ]; unfold cg a7; rw [List.length_append,List.length_append,List.length_map,List.length_map]; rfl
 · have hv:ag (hd H (own A B)) (hd (upd H1 D (.lst [])) λb=>own A B b\/b=D\/b ∈ ([]:List Addr)):=λb o z=>by
     obtain ⟨z1,z2⟩:=ao.mp z
     have z2:=e1 _ _ z2
     have ne:b ≠ D:=λz=>by rw [z,hD] at z2; cases z2
     exact ao.mpr ⟨λy=>y.elim z1 λy=>y.elim ne λy=>(nomatch y),by rw [ak ne]; exact z2⟩
   rcases flat l s h with rfl | ⟨x,rfl⟩
   · rfl
   · rw [<- hτ] at h
     have hlt:l < (bCp X.N scope).length:=by
       rcases Nat.lt_or_ge l (bCp X.N scope).length with h' | h'
       · exact h'
       · exfalso
         rw [List.getElem?_append_right (by unfold a7; rw [List.length_map]; exact h')] at h
         cases e:l - (a7 τ (bCp X.N scope)).length with
         | zero=>rw [e] at h; cases h
         | succ n=>rw [e] at h; cases h
     rw [List.getElem?_append_left (by unfold a7; rw [List.length_map]; exact hlt)] at h
     rw [List.getElem?_append_left (by unfold cg; rw [List.length_map]; exact hlt)]
     unfold a7 at h
     unfold cg
     rw [List.getElem?_map] at h ⊢
     cases e:(bCp X.N scope)[l]? with
     | none=>rw [e] at h; cases h
     | some o=>
       rw [e] at h
       cases o with
       | none=>cases h
       | some i=>
         simp only [Option.map_some,Option.some.injEq] at h
         split at h
         · rename_i x' hx'
           cases h
           obtain ⟨_,u,eu,d⟩:=S.sl i _ hx'
           exact ⟨rfl,u,by simpa using eu,d.mono hv⟩
         · cases h
 rintro i m σ' H' ⟨rfl,hi,e2,vs,rs,hv1,hv2,hv3,hnd,hfr,hlen,hsl⟩
 obtain ⟨y1,y2⟩:=yl H' (aQ.trans e2)
 have rsd:∀ b ∈ rs,∃ o,H' b=some o:=hv3.some_of
 by_cases hlt:i < xs.length
 · obtain ⟨g,y⟩:=y2 i hlt
   refine .inr ⟨g,λx H2 hy=>?_⟩
   obtain ⟨e3,dx⟩:=y x H2 hy
   have S2:=slots e2 ⟨_,hv1⟩ rsd hlen hsl
   have o0:∀ b,own (λb=>own A B b\/b=D\/b ∈ rs) (λ_=>([]:List Addr)) b->own A B b\/b=D\/b ∈ rs:=λb z=>z.elim id λ⟨_,z⟩=>(nomatch z)
   have dx':=dx _ S2.dm (λb o z=>by
     obtain ⟨z1,z2⟩:=ao.mp z
     exact ao.mpr ⟨λy=>(o0 b y).elim z1 λy=>y.elim (λy=>(by rw [y,hD] at z2; cases z2)) λy=>(by rw [hfr b y] at z2; cases z2),e2 _ _ z2⟩)
   refine ⟨i,hlt,_,_,_,S2.mono e3,dx',λσ2 B2 S3=>?_⟩
   refine ie ⟨i,hlt,_,_,_,S3,λv H5 bs e5 hf5 d5=>?_⟩
   obtain ⟨nv,ndv⟩:=d5.nd (hn i hlt)
   have e6:=e3.trans e5
   have hv5:=e6 _ _ hv1
   have bsD:∀ b ∈ bs,b ≠ D:=λb hb z=>by have:=(hf5 b hb).1; rw [z,e3 _ _ hv1] at this; cases this
   have bsR:∀ b ∈ bs,b ∉ rs:=λb hb z=>by obtain ⟨o,q⟩:=rsd b z; have:=(hf5 b hb).1; rw [e3 _ _ q] at this; cases this
   refine ⟨vs,xs.length - (i + 1),hv5,Nat.lt_trans (Nat.lt_of_le_of_lt hv2 (Nat.lt_trans hlt hl)) (by decide),by omega,rfl,hlt,?_,vs++[v],rs++bs,aF,by rw [List.length_append]; exact Nat.succ_le_succ hv2,?_,?_,?_,S3.len.trans (hT i).1,λl s h=>?_⟩
   · intro b o z
     have ne:b ≠ D:=λy=>by rw [y,hD] at z; cases z
     rw [ak ne]
     exact e6 _ _ (e2 _ _ z)
   · rw [List.range_succ,List.map_append]
     have sm1:ag (hd H5 λb=>vw true (λb=>own A B b\/b=D\/b ∈ rs) B2 b\/b ∈ bs) (hd (upd H5 D (.lst (vs++[v]))) λb=>own A B b\/b=D\/b ∈ rs++bs):=λb o z=>by
       obtain ⟨z1,z2⟩:=ao.mp z
       refine ao.mpr ⟨λy=>z1 ?_,by rw [ak (λy:b=D=>z1 (.inl (.inl (.inr (.inl y)))))]; exact z2⟩
       rcases y with y | y | y
       · exact .inl (.inl (.inl y))
       · exact .inl (.inl (.inr (.inl y)))
       · exact (List.mem_append.mp y).elim (λy=>.inl (.inl (.inr (.inr y)))) .inr
     have sm2:ag (hd H' λb=>own A B b\/b=D\/b ∈ rs) (hd (upd H5 D (.lst (vs++[v]))) λb=>own A B b\/b=D\/b ∈ rs++bs):=λb o z=>by
       obtain ⟨z1,z2⟩:=ao.mp z
       refine ao.mpr ⟨λy=>?_,by rw [ak (λy:b=D=>z1 (.inr (.inl y)))]; exact e6 _ _ z2⟩
       rcases y with y | y | y
       · exact z1 (.inl y)
       · exact z1 (.inr (.inl y))
       · rcases List.mem_append.mp y with y | y
         · exact z1 (.inr (.inr y))
         · have:=(hf5 b y).1; rw [e3 _ _ z2] at this; cases this
     refine az.snoc (nv.frame sm1 λb hb=>ak (bsD b hb)) (hv3.frame sm2 λb hb=>?_)
     obtain ⟨o,q⟩:=rsd b hb
     rw [ak (λz:b=D=>(List.nodup_cons.mp hnd).1 (by rw [<- z]; exact hb)),e6 _ _ q,q]
   · obtain ⟨n1,n2⟩:=List.nodup_cons.mp hnd
     refine List.nodup_cons.mpr ⟨λz=>?_,List.nodup_append.mpr ⟨n2,ndv,λx hx y hy z=>bsR y hy (z ▸ hx)⟩⟩
     exact (List.mem_append.mp z).elim n1 λz=>bsD D z rfl
   · intro b hb
     rcases List.mem_append.mp hb with z | z
     · exact hfr b z
     · exact (e2.trans e3).free (hf5 b z).1
   · rcases flat l s h with rfl | ⟨x,rfl⟩
     · rfl
     · obtain ⟨_,u,eu,d⟩:=S3.sl l _ ((hT i).2 l x h)
       refine ⟨rfl,u,eu,d.mono λb o z=>?_⟩
       obtain ⟨z1,z2⟩:=ao.mp z
       refine ao.mpr ⟨λy=>?_,by rw [ak (λy:b=D=>z1 (.inl (.inr (.inl y))))]; exact e5 _ _ z2⟩
       rcases y with y | y | y
       · exact z1 (.inl (.inl y))
       · exact z1 (.inl (.inr (.inl y)))
       · rcases List.mem_append.mp y with y | y
         · exact z1 (.inl (.inr (.inr y)))
         · rw [(hf5 b y).1] at z2; cases z2
 · have e:i=xs.length:=by omega
   subst e
   refine .inl ⟨y1 _ (Nat.le_refl _),kk _ _ (D :: rs) (e1.trans e2) (λb hb=>?_) ⟨hnd,_,rfl,.l hv1 (hv3.frame (au (ag.refl _) λb z=>?_) λ_ _=>rfl)⟩⟩
   · rcases List.mem_cons.mp hb with rfl | z
     · exact ⟨e1.free hD,_,hv1⟩
     · exact ⟨e1.free (hfr b z),rsd b z⟩
   · rcases z with z | z
     · exact .inl (gi z)
     · exact .inr ((List.mem_cons.mp z).elim .inl .inr)
theorem qD (j:Nat) {n:Str} {g:Nat->D} {f:Nat->Nd} {S':Nat->Sl} (B:Bk X k) (hi:PI X (.Name n p) it (dI X.K τ xs)) (hx:∀ i (h:i < xs.length),xs[i]=g i) (hl:xs.length < 1000000)
   (he:∀ i,i < xs.length->∀ s H fp,PE (cpX X s H scope fp) elt (dE X.K true ((a7 τ (bCp X.N scope)++[Sl.un]).set j (.d (g i))) (S' i))) (hn:∀ i,i < xs.length->l9 (S' i)=some (f i))
   (hc:bOk X.env.scope scope=true:=by kernel_rfl) (hu:(a7 τ (bCp X.N scope)++[Sl.un])[j]?=some .un:=by rfl) (hN:(bNm scope++[("#" : Str)])[j]?=some n:=by rfl) (hv:∀ s H fp,Loc (cpX X s H scope fp).env.scope n:=by intro _ _ _; first | exact .inl rfl | exact .inr rfl)
   (hf:∀ s H fp,(cpX X s H scope fp).fn n=true\/(cpX X s H scope fp).env.scope.names.lookup n=some .local:=by intro _ _ _; first | exact .inr rfl | exact .inl rfl) (hs:∀ x,foldedSetIterable it X.env x=pure x:=by intro _; rfl) :
   nS X elt (.Name n p) it [] scope τ ((List.range xs.length).map f):=by
 refine mj (T:=λi=>(a7 τ (bCp X.N scope)++[Sl.un]).set j (.d (g i))) B hc hi (λi=>⟨List.length_set,λl x h=>?_⟩) (λi h s H fp=>?_) he hn hl hs
 · rw [List.getElem?_set_ne (λz=>by rw [<- z,hu] at h; cases h)]
   exact h
 · rw [hx i h]
   exact oD j (dM hc).2 hN (hv s H fp) (hf s H fp)
end
section
variable {X:Cx} {C:Bool} {τ τ':List Sl} {x y z:D} {a b e c tg it elt o ix:Expr} {es ifs:List Expr} {pos p q:Pos} {k:Nat} {s:Sl} {N:Po} {rest body:List Stmt} {ds xs ys:List D} {i:Nat} {scope:Scope}
end
end Hy
namespace Hy
open PySem PySem.Spec PyProof.Rows L2
open Ev (D Den aq aj aP ay)
section
variable {X:Cx} {C:Bool} {τ:List Sl} {x y z:D} {a b e o ix:Expr} {es:List Expr} {pos p q:Pos} {k:Nat} {s:Sl} {N:Po} {rest:List Stmt} {i j:Nat} {t c:Nd} {pt:List Nat} {xs:List Nd} {m:Nat}
end
end Hy
namespace Hy
open PySem PySem.Spec PyProof.Rows L2
open Ev (D Den aq)
section
variable {P:Program} {w:World} {K:PySem.W.Frag} {h:Heap} {mg:Str->Option Value} {base:Heap} {x:Str} {st:Stmt} {f:Addr} {ps:List Str} {k:Nat} {Φ:List D->Sl->Prop} {i:Int}
end
mutual
noncomputable def jJ:Nd->Bool
 | .d x=>flat x
 | .l xs=>gL xs
 | .t xs=>gL xs
noncomputable def gL:List Nd->Bool
 | []=>true
 | x :: xs=>jJ x && gL xs
end
noncomputable def oS:Sl->Bool
 | .un=>true
 | .d x=>flat x
 | .o xs=>xs.all flat
 | .n t=>jJ t
 | .x _=>false
section
variable {K:PySem.W.Frag} {G G' H:Hp}
mutual
theorem aS.fl:∀ {u:V} {bs:List Addr} {t:Nd},aS K G H u bs t->jJ t=true->aS K G' H u bs t
 | _,_,_,.d h,f=>.d (dQ h (by rw [jJ] at f; exact f))
 | _,_,_,.l h r,f=>.l h (az.fl r (by rw [jJ] at f; exact f))
 | _,_,_,.t h r,f=>.t h (az.fl r (by rw [jJ] at f; exact f))
theorem az.fl:∀ {vs:List V} {bs:List Addr} {ts:List Nd},az K G H vs bs ts->gL ts=true->az K G' H vs bs ts
 | _,_,_,.nil,_=>.nil
 | _,_,_,.cons h r,f=>by
   rw [gL,Bool.and_eq_true] at f
   exact .cons (aS.fl h f.1) (az.fl r f.2)
end
theorem jo:∀ {vs:List V} {xs:List D},aq K G vs xs->xs.all flat=true->aq K G' vs xs
 | _,_,.nil,_=>.nil
 | _,_,.cons h r,f=>by
   rw [List.all_cons,Bool.and_eq_true] at f
   exact .cons (dQ h f.1) (jo r f.2)
theorem a9.fl {v:Option V} {bs:List Addr}:∀ {s:Sl},a9 K G H v bs s->oS s=true->a9 K G' H v bs s
 | .un,h,_=>h
 | .d _,⟨h,u,e1,h2⟩,f=>⟨h,u,e1,dQ h2 f⟩
 | .o _,⟨a,vs,h1,h2,h3,h4⟩,f=>⟨a,vs,h1,h2,h3,jo h4 f⟩
 | .n _,⟨h0,u,h1,h2⟩,f=>⟨h0,u,h1,h2.fl f⟩
end
theorem p3 {X:Cx} {C C':Bool} {τ:List Sl} {e:Expr} {s s0:Sl} {x:D} (i:Nat) (h:PE X e (dE X.K C' (τ.set i (.d x)) s)) (f:oS s=true) (hi:τ[i]?=some s0:=by rfl) (hx:fzD s0=some x:=by rfl):PE X e (dE X.K C τ s):=
 peW h λσ H Q ⟨A,H₀,B,S,k⟩=>⟨A,H₀,_,S.fz hi hx,λv H' bs e fr q=>k v H' bs e fr (q.fl f)⟩
end Hy
namespace Lc
open PySem PySem.Spec PyProof.Rows L2
open PySem.AutoSeq1 (wpAny_loadPart')
open PySem.MeetsSeq PySem.MeetsSeq2 PySem.MeetsSeq3 PySem.SeqRoads2 PySem.SeqAt
open Ev (D Den aq eqD fb toP)
section
variable {X:Cx} {pins:List (Addr × Obj)} {σ:L2.St} {H G:Hp} {s:Shared}
open Ev (cln ff dep hX cb dJ fW fP)
end
end Lc
namespace Hy
open PySem PySem.Spec PyProof.Rows L2
open Ev (D Den aq fb)
end Hy
namespace Hy
open PySem PySem.Spec PyProof.Rows L2
open Ev (D Den aq)
section
variable {K:PySem.W.Frag} {A:Addr->Prop} {H₀ H H':Hp} {τ:List Sl} {B:Nat->List Addr} {σ:L2.St}
end
section
variable {X:Cx} {τ:List Sl} {x y z:D} {a b e c:Expr} {es:List Expr} {pos p q:Pos} {k:Nat} {s:Sl} {ds:List D} {N:Po} {rest body:List Stmt}
end
section
variable {P:Program} {w:World} {K:PySem.W.Frag} {mg:Str->Option Value} {base:Heap}
end
section
variable {X:Cx} {τ:List Sl} {es:List Expr} {pos p q pr:Pos} {k:Nat} {s:Sl} {ds:List D} {N:Po} {rest:List Stmt}
end
end Hy
namespace Hy
open PySem PySem.Spec PyProof.Rows L2
open Ev (D Den aq aG aE aj aP ay)
section
variable {X:Cx} {i:Int}
end
end Hy
namespace Su
open PySem PyProof.Rows HT
open PySem.SeqAt
open PySem.AutoSeq1 (wpAny_loadPart')
open PySem.MeetsSeq PySem.MeetsSeq2 PySem.MeetsSeq3
section
variable {prog:Program} {w:World} {A:Around} {E:Value->Shared->Prop} {s:Shared}
end
end Su
namespace Hy
open PySem PySem.Spec PyProof.Rows L2
open Ev (D Den aq aG aE aj aP ay)
section
variable {X:Cx} {C:Bool} {τ:List Sl} {x y z:D} {a b e:Expr} {es:List Expr} {pos p:Pos} {k:Nat} {s:Sl} {ds xs ys:List D} {i j:Int} {N:Po} {rest:List Stmt}
end
section
variable {X:Cx} {C:Bool} {τ:List Sl} {x y z:D} {a b e:Expr} {es:List Expr} {pos p:Pos} {k:Nat} {s:Sl} {ds xs ys:List D} {N:Po} {rest:List Stmt}
end
end Hy
namespace Hy
open PySem PySem.Spec PyProof.Rows L2
open Ev (D Den aq aj aP ay)
section
variable {X:Cx}
end
section
variable {X:Cx} {C:Bool} {τ:List Sl} {x y z:D} {a b e f o ix:Expr} {es:List Expr} {pos p q:Pos} {k:Nat} {s:Sl} {N:Po} {rest:List Stmt} {i:Nat} {t c:Nd} {pt:List Nat} {xs:List Nd} {j:Int} {m:Nat}
end
end Hy
namespace Hy
open PySem PySem.Spec PyProof.Rows L2
open Ev (D Den aq aj)
section
variable {X:Cx} {C:Bool} {τ:List Sl} {x y z:D} {a b e:Expr} {es:List Expr} {pos p np cpos:Pos} {k c:Nat} {s:Sl} {ds:List D} {N:Po} {rest body:List Stmt} {cl:Nat->Addr} {Ex:Nat->Hp->Prop} {Et:Hp->Prop}
end
section
variable {P:Program} {w:World} {K:PySem.W.Frag} {mg:Str->Option Value} {base:Heap} {cl:Nat->Addr}
end
section
variable {X:Cx} {C:Bool} {τ:List Sl} {e:Expr} {k c i:Nat} {N:Po} {rest body:List Stmt} {cl:Nat->Addr} {n:Str} {fw S:Addr} {p p' q psm pr ph pos:Pos}
noncomputable abbrev XN (X:Cx) (pins:List (Addr × Obj)):Cx:={ X with pn:=X.pn++pins,xe:=λ_ _=>False }
theorem Bk.xn (B:Bk X k) (pins:List (Addr × Obj)):Bk (XN X pins) k:=⟨B.room,B.calm,B.blt,PassesOwn.never⟩
end
section
variable {X:Cx} {C:Bool} {τ:List Sl} {x y z:D} {a b e c0 tg it elt:Expr} {es ifs:List Expr} {pos p q q':Pos} {k c:Nat} {cl:Nat->Addr} {xs:List D} {scope:Scope}
end
section
variable {P:Program} {w:World} {K:PySem.W.Frag} {mg:Str->Option Value} {base:Heap} {cl:Nat->Addr}
end
end Hy
namespace Hy
open PySem PySem.Spec PyProof.Rows L2
open Ev (D Den aq br cx)
section
variable {X:Cx} {C:Bool} {τ:List Sl} {a e tg it elt:Expr} {es ifs:List Expr} {pos p:Pos} {Et:Hp->Prop} {scope:Scope}
end
end Hy
namespace Hy
open PySem PySem.Spec PyProof.Rows L2
open Ev (D Den aq)
section
variable {P:Program} {w:World} {K:PySem.W.Frag} {h:Heap} {mg:Str->Option Value} {base:Heap} {x:Str} {st:Stmt} {f:Addr} {ps:List Str} {k:Nat} {Φ:List D->Nat->Prop} {cl:Nat->Addr}
end
end Hy
namespace Hy
open PySem PySem.Spec PyProof.Rows L2
open Ev (D Den aq aP)
section
variable {X:Cx}
end
end Hy
namespace L2
open PySem PySem.Spec PyProof.Rows
section
variable {κ:Type} [DecidableEq κ]
end
section
variable {P:Program} {w:World} {H:Hp} {h:Heap} {a:Addr}
end
section
variable {X:Cx} {pins:List (Addr × Obj)} {σ:St} {H:Hp} {s:Shared} {a:Addr} {y v:V} {u r:Value} {o:Option V} {A:Around} {E:Value->Shared->Prop}
end
section
variable {X:Cx} {pins:List (Addr × Obj)} {σ:St} {H:Hp} {s:Shared} {a:Addr} {kvs:List (Key × V)} {k:Key} {u:Value} {A:Around} {E:Value->Shared->Prop}
end
section
variable {X:Cx} {o i e value:Expr} {pos pos' tpos:Pos} {td ty tv:TE}
end
section
variable {X:Cx} {pos:Pos}
end
structure M1 (X:Cx) (o:Expr) (m:Str) (apos:Pos) (e:Expr) (cpos:Pos):Prop where
 base:attributeBase o m X.env (eval o X.env)=eval o X.env
 few:((backTo cpos (starEach [e] X.env)).all (λx=>!x.1) && (backToKw cpos (keywordEach [] X.env)).all (λx=>x.1.isSome)
   && decide (([e]:List Expr).length + ([]:List Keyword).length + (if ([]:List Keyword).isEmpty then 0 else 1) < 30))=true
 line:(apos.endLine == cpos.line)=true
 trees:backTo cpos (starEach [e] X.env)=[(false,eval e X.env)]
section
variable {X:Cx} {pins:List (Addr × Obj)} {σ:St} {H:Hp} {s:Shared} {a:Addr} {y d:V} {u r:Value} {o:Option V} {A:Around} {E:Value->Shared->Prop}
end
section
variable {X:Cx} {o e f:Expr} {apos cpos:Pos} {td ty tx:TE}
end
end L2
namespace L2
open PySem PySem.Spec PyProof.Rows PySem.SeqAt
section
variable {P:Program} {w:World} {A:Around} {E:Value->Shared->Prop} {s:Shared}
noncomputable def HK (P:Program) (w:World) (A:Around) (h:Heap) (v:Value) (x:Int) (d:Nat):Prop:=
 ∀ (s:Shared) (E:Value->Shared->Prop) (Q:Int->Shared->Prop),s.heap=h->Q x { s with toks:=s.toks + d }->wpAny (model P w) A (pyHash v) Q E s
end
structure IK (P:Program) (w:World) (K:Type) [DecidableEq K] where
 is:Heap->K->Value->Prop
 hash:K->Int
 draws:K->Nat
 dep:Nat
 inj:∀ {h:Heap} {v:Value} {x y:K},is h x v->is h y v->x=y
 keeps:∀ {h h':Heap} {k:K} {v:Value} {d:Addr} {o:Obj} {es ep},is h k v->h.get? d=some o->o.data=.dict es ep->Heap.SameBut d h h'->is h' k v
 hk:∀ {A:Around} {h:Heap} {k:K} {v:Value},is h k v->A.units + dep < cLine->HK P w A h v (hash k) (draws k)
 eq:∀ {A:Around} {s:Shared} {x y:K} {u v:Value},is s.heap x u->is s.heap y v->A.units + dep < cLine->EqAt A s u v (decide (x=y))
 quiet:∀ {s:Shared} {k:K} {v:Value} {n:Nat},dep < n->is s.heap k v->∀ A E Q,Q true s->wpAny (model P w) A (eqIsQuiet n v) Q E s
section
variable {P:Program} {w:World}
variable {K K':Type} [DecidableEq K] [DecidableEq K']
noncomputable def kindOf (a:IK P w K) (hd:a.dep<=7):HeapKind P w K where
 is:=λh k p=>a.is h k (.ref p)
 hash:=a.hash
 draws:=a.draws
 room:=λA=>A.units + 8 < cLine
 inj:=a.inj
 keeps:=a.keeps
 pyHash:=λ{A E s k p Q} hu hk h=>a.hk hk (by omega) s E Q rfl h
 eqBool:=λ{A E s x y p p' Q} hu hx hy h=>a.eq hx hy (by omega) _ _ _ _ h
 quiet:=λ{A E s k p Q} hk h=>a.quiet (by omega) hk A E Q h
end
section
variable {K:Type}
end
section
variable {P:Program} {w:World} {K:Type} [DecidableEq K]
end
end L2
namespace Ev
open PySem PySem.Spec PyProof.Rows L2
structure KD (K:Type) [DecidableEq K] where
 ik:∀ (P:Program) (w:World),IK P w K
 dep:Nat
 dep_ok:∀ P w,(ik P w).dep=dep
 toD:K->D
 den:∀ {X:Cx} {pins:List (Addr × Obj)} {σ:L2.St} {H:Hp} {s:Shared} {v:V} {u:Value} {k:K},Inv X pins σ H s->Den X.K H v (toD k)->RelV v u->(ik X.prog X.w).is s.heap k u
section
variable {K K':Type} [DecidableEq K] [DecidableEq K']
noncomputable abbrev NEs (K:Type):=List (K × Addr × Value)
noncomputable def kd (a:KD K) (hd:a.dep<=7) (P:Program) (w:World):HeapKind P w K:=kindOf (a.ik P w) (by rw [a.dep_ok]; exact hd)
variable {a:KD K} {hd:a.dep<=7}
variable {X:Cx} {pins:List (Addr × Obj)} {σ:L2.St} {H:Hp} {s:Shared} {d b:Addr} {xs:NEs K} {k:K} {A:Around} {E:Value->Shared->Prop}
variable {o i e value:Expr} {pos pos':Pos} {td ty tv:TE}
end
end Ev
namespace Hy
open PySem PySem.Spec PyProof.Rows L2
open Ev (D Den aq KD NEs)
section
variable {K:Type} [DecidableEq K]
variable {a:KD K} {F:PySem.W.Frag} {G G':Hp}
end
end Hy
namespace Hy
open PySem PySem.Spec PyProof.Rows L2
open Ev (D Den aq KD NEs aj)
section
variable {K:Type} [DecidableEq K] {a:KD K} {hd:a.dep<=7} {X:Cx} {C:Bool} {τ:List Sl} {x:D} {b e ix:Expr} {pos p q:Pos} {k:Nat} {N:Po} {rest:List Stmt} {m:List (K × D)} {key:K}
end
section
variable {K:PySem.W.Frag} {A:Addr->Prop} {H₀ H H':Hp} {τ:List Sl} {B:Nat->List Addr} {σ:L2.St}
end
section
variable {K:Type} [DecidableEq K] {a:KD K} {hd:a.dep<=7} {X:Cx} {C:Bool} {τ:List Sl} {x:D} {b e ix:Expr} {pos p q sp:Pos} {k:Nat} {N:Po} {rest:List Stmt} {m:List (K × D)} {key:K}
end
end Hy
namespace Ev
open PySem PySem.Spec PyProof.Rows L2
section
variable {K:Type} [DecidableEq K] {a:KD K} {hd:a.dep<=7} {X:Cx} {o i e f:Expr} {pos apos cpos:Pos} {td ty tx tk tv:TE}
end
end Ev
namespace Hy
open PySem PySem.Spec PyProof.Rows L2
open Ev (D Den aq KD NEs Bx aj)
section
variable {K:Type} [DecidableEq K] {a:KD K} {hd:a.dep<=7} {X:Cx} {C:Bool} {τ:List Sl} {x y:D} {b e f o ix:Expr} {pos p q apos cpos:Pos} {k:Nat} {N:Po} {rest:List Stmt} {m:List (K × D)} {key:K}
end
end Hy
namespace Ev
open PySem PySem.Spec PyProof.Rows L2
open PySem.Builtin.Range (rangeFitsLong rangeSize)
section
variable {prog:Program} {w:World} {A:Around} {E:Value->Shared->Prop} {s:Shared}
end
section
variable {X:Cx} {tg:Expr}
end
end Ev
namespace Ev
open PySem PySem.Spec PyProof.Rows L2
section
variable {X:Cx} {tg:Expr}
end
end Ev
namespace Hy
open PySem PySem.Spec PyProof.Rows L2
open Ev (D Den aq Bx aj)
section
variable {K:PySem.W.Frag} {A:Addr->Prop} {H₀ H:Hp} {τ:List Sl} {B:Nat->List Addr} {σ:L2.St} {m:List (Int × Int)} {i:Nat}
end
section
variable {X:Cx} {C:Bool} {τ:List Sl} {x y:D} {a b e f o ix tg:Expr} {pos p q apos cpos sp:Pos} {k:Nat} {N:Po} {rest:List Stmt} {m:List (Int × Int)} {key v n:Int}
end
end Hy
namespace Hy
open PySem PySem.Spec PyProof.Rows L2
open Ev (D Den aq aj ax cg b7 PTs br cx)
section
variable {X:Cx}
end
section
variable {X:Cx} {C:Bool} {τ:List Sl} {e it:Expr} {pos p q p2 pos2 tp ip vp rp ap cp p1:Pos} {k:Nat} {N:Po} {rest:List Stmt} {scope:Scope}
end
end Hy
namespace Ev
open PySem PySem.Spec PyProof.Rows L2
section
variable {X:Cx} {o e f g:Expr} {pos apos cpos:Pos} {td te tf tg:TE}
theorem jk:∀ {xs:List Str} {us:List Value},Vals (xs.map V.str) us->∃ l:List (Str × Tok),us=strValues l/\l.map (·.1)=xs
 | [],_,h=>by cases h; exact ⟨[],rfl,rfl⟩
 | x :: xs,_,h=>by
   rw [List.map_cons] at h
   cases h with
   | cons r rs=>
     obtain ⟨t,rfl⟩:=r
     obtain ⟨l,rfl,h2⟩:=jk rs
     exact ⟨(x,t) :: l,rfl,by rw [List.map_cons,h2]⟩
theorem fM:∀ (l:List (Str × Tok)),Vals ((l.map (·.1)).map V.str) (strValues l)
 | []=>.nil
 | (x,t) :: l=>.cons ⟨t,rfl⟩ (fM l)
noncomputable def oP (K:PySem.W.Frag) (td te:TE):TE:=λσ H Q=>td σ H λx H1=>∃ z,x=.str z/\te σ H1 λy H2=>∃ a xs,y=.ref a/\SqL K H2 a (xs.map V.str)/\JoinOk z xs=true/\Q (.str (Txt.join z xs)) H2
theorem mx (ho:PE X o td) (he:PE X e te) (m:M1 X o "join" apos e cpos):PE X (.Call (.Attribute o "join" apos) [e] [] cpos) (oP X.K td te):=by
 intro pins s σ H Q I h
 refine wpAny_Call_method m.base m.few m.line PySem.F.plainAttrs_str PySem.F.slot_str_join PySem.F.type_str_join (thn (ho pins s σ H _ I h) λu s1 ⟨x,H1,I1,rx,z,ex,q1⟩=>?_)
 subst ex
 obtain ⟨t,rfl⟩:=rx
 refine ⟨typeIs_str _ _ _,λc e=>(nomatch e),?_⟩
 rw [m.trees]
 refine Calls.callWith_builtin rfl (Calls.evalArgs_plain (Calls.spliced_cons (thn (he pins s1 σ H1 _ I1 q1) λiv s2 ⟨y,H2,I2,ry,a,xs,ey,hL,hok,q2⟩=>Calls.spliced_nil ?_)))
 subst ey
 cases ry
 obtain ⟨its,rv,pl,hz⟩:=I2.list hL
 obtain ⟨l,rfl,hl⟩:=jk rv
 exact PySem.SC.join pl.isList hl hok λt' k=>⟨.str _,H2,I2.tok _,⟨_,rfl⟩,q2⟩
noncomputable def l7 (td te:TE):TE:=λσ H Q=>td σ H λx H1=>∃ z,x=.str z/\te σ H1 λy H2=>∃ w,y=.str w/\Q (.bl (Txt.startswith z w)) H2
theorem jx (ho:PE X o td) (he:PE X e te) (m:M1 X o "startswith" apos e cpos):PE X (.Call (.Attribute o "startswith" apos) [e] [] cpos) (l7 td te):=by
 intro pins s σ H Q I h
 refine wpAny_Call_method m.base m.few m.line PySem.F.plainAttrs_str PySem.F.slot_str_startswith PySem.F.type_str_startswith (thn (ho pins s σ H _ I h) λu s1 ⟨x,H1,I1,rx,z,ex,q1⟩=>?_)
 subst ex
 obtain ⟨t,rfl⟩:=rx
 refine ⟨typeIs_str _ _ _,λc e=>(nomatch e),?_⟩
 rw [m.trees]
 refine Calls.callWith_builtin rfl (Calls.evalArgs_plain (Calls.spliced_cons (thn (he pins s1 σ H1 _ I1 q1) λiv s2 ⟨y,H2,I2,ry,w,ey,q2⟩=>Calls.spliced_nil ?_)))
 subst ey
 obtain ⟨t',rfl⟩:=ry
 exact PySem.SC.startswith ⟨.bl _,H2,I2,rfl,q2⟩
noncomputable def ng (td te:TE):TE:=λσ H Q=>td σ H λx H1=>∃ z,x=.str z/\te σ H1 λy H2=>∃ w,y=.str w/\w.length=1/\z.length < 1000000/\∀ p,H2 p=none->Q (.ref p) (upd H2 p (.lst ((Txt.split z w).map V.str)))
theorem split_len (x:Str) (y:Str):(Txt.split x y).length<=x.length + 2:=by
 unfold Txt.split
 split
 · simp
 · split
   · simp
   · rw [length_partsBetween]
     have:=StrLaws.occ_length_le x y 0 x.length (x.length + 1)
     omega
theorem kh (ho:PE X o td) (he:PE X e te) (m:M1 X o "split" apos e cpos):PE X (.Call (.Attribute o "split" apos) [e] [] cpos) (ng td te):=by
 intro pins s σ H Q I h
 refine wpAny_Call_method m.base m.few m.line PySem.F.plainAttrs_str PySem.F.slot_str_split PySem.F.type_str_split (thn (ho pins s σ H _ I h) λu s1 ⟨x,H1,I1,rx,z,ex,q1⟩=>?_)
 subst ex
 obtain ⟨t,rfl⟩:=rx
 refine ⟨typeIs_str _ _ _,λc e=>(nomatch e),?_⟩
 rw [m.trees]
 refine Calls.callWith_builtin rfl (Calls.evalArgs_plain (Calls.spliced_cons (thn (he pins s1 σ H1 _ I1 q1) λiv s2 ⟨y,H2,I2,ry,w,ey,hw,hz,q2⟩=>Calls.spliced_nil ?_)))
 subst ey
 obtain ⟨t',rfl⟩:=ry
 have hl:=split_len z w
 have fin:∀ (l:List (Str × Tok)) (tk:Nat),l.map (·.1)=Txt.split z w->EP X pins σ Q (.ref s2.heap.objs.size) { s2 with toks:=tk,heap:=s2.heap.push { cls:=.type "list",data:=.seq (strValues l).toArray } }:=λl tk e=>by
   refine ⟨.ref s2.heap.objs.size,_,I2.laid (t':=tk) (o:=.lst ((Txt.split z w).map V.str)) (λb ob q=>Heap.get?_push_of_some _ q) (Nat.le_refl _) ?_,rfl,q2 _ (I2.hok.fresh (Nat.le_refl _))⟩
   exact ⟨by rw [List.length_map,sizeLine_eq]; omega,strValues l,0,by rw [<- e]; exact fM l,Heap.get?_push_size _ rfl⟩
 have hy:(w.length == 0)=false:=by rw [hw]; rfl
 cases h1:(decide (z.length < w.length) || decide (Builtin.Str.strKind z < Builtin.Str.strKind w))
 · cases hf:(Builtin.Str.occurrences z w 0 z.length (z.length + 1)).isEmpty
   · refine call_meets PySem.F.slot_str_split (typeIs_str _ _ _) PySem.F.entry_str_split (PySem.F.args_str_split_2 _ _) (meets_str_split_sep z w t t' h1 hy hf (by rw [sizeLine_eq]; omega) ?_) ?_
     · rw [length_partsBetween,sizeLine_eq]
       have:=StrLaws.occ_length_le z w 0 z.length (z.length + 1)
       omega
     · show wants _ _ _ { s2 with toks:=_,heap:=s2.heap.push { cls:=.type "list",data:=.seq (strsFrom s2.toks (Builtin.Str.partsBetween z (Builtin.Str.occurrences z w 0 z.length (z.length + 1)) w.length)).toArray } }
       rw [strsFrom_eq]
       exact fin (numbered s2.toks _) _ ((numbered_texts _ _).trans ((if_neg (ne_true_of_eq_false h1)).trans (if_neg (ne_true_of_eq_false hf))).symm)
   · exact call_meets PySem.F.slot_str_split (typeIs_str _ _ _) PySem.F.entry_str_split (PySem.F.args_str_split_2 _ _) (meets_str_split_not_found z w t t' h1 hy hf)
       (fin [(z,t)] s2.toks ((if_neg (ne_true_of_eq_false h1)).trans (if_pos hf)).symm)
 · exact call_meets PySem.F.slot_str_split (typeIs_str _ _ _) PySem.F.entry_str_split (PySem.F.args_str_split_2 _ _) (meets_str_split_cannot_occur z w t t' h1)
     (fin [(z,t)] s2.toks (if_pos h1).symm)
theorem fh:cj X (.type "int") (λxs H Q=>∃ x n,xs=[.str x]/\intText? x=some n/\x.length<=640/\Q (.int n) H):=by
 intro pins s σ H xs us Q I r h
 obtain ⟨x,n,rfl,hn,hl,q⟩:=h
 obtain ⟨u,rfl,t,rfl⟩:=vals1 r
 exact PySem.W.KIN.call_text hn hl ⟨.int _,H,I.tok _,⟨_,rfl⟩,q⟩
noncomputable def qj:V->Option Int->Option Int->Hp->VK->Prop:=λx lo hi H Q=>∃ z,x=.str z/\z.length<=sizeLine/\Q (.str (Txt.slice z lo hi)) H
theorem n9:SlR X qj:=by
 intro pins s σ H x v vl vu lo hi sl Q I rx hs pl pu h
 obtain ⟨z,rfl,hz,q⟩:=h
 obtain ⟨t,rfl⟩:=rx
 have fin:∀ t' k,EP X pins σ Q (.str (Txt.slice z lo hi) t') { s with toks:=k }:=λt' k=>⟨.str _,H,I.tok _,⟨_,rfl⟩,q⟩
 refine ⟨"str",_,PySem.F.slot_str_getitem.lookup,typeIs_str _ _ _,?_⟩
 cases pl with
 | none=>cases pu with
   | none=>exact wpAny_getItem_str_slice (l:=none) (u:=none) (st:=none) hs rfl (post_val_or_str ⟨Nat.le_trans (Txt.slice_le z _ _) hz,fin⟩)
   | int j uj=>exact wpAny_getItem_str_slice (l:=none) (u:=some (j,uj)) (st:=none) hs rfl (post_val_or_str ⟨Nat.le_trans (Txt.slice_le z _ _) hz,fin⟩)
 | int i ui=>cases pu with
   | none=>exact wpAny_getItem_str_slice (l:=some (i,ui)) (u:=none) (st:=none) hs rfl (post_val_or_str ⟨Nat.le_trans (Txt.slice_le z _ _) hz,fin⟩)
   | int j uj=>exact wpAny_getItem_str_slice (l:=some (i,ui)) (u:=some (j,uj)) (st:=none) hs rfl (post_val_or_str ⟨Nat.le_trans (Txt.slice_le z _ _) hz,fin⟩)
noncomputable def qS (te:TE):TE:=λσ H Q=>te σ H λx H1=>∃ z,x=.str z/\z.length<=sizeLine/\Q (.str z) H1
theorem nQ (he:PE X e te):PE X (.FormattedValue e (-1) none pos) (qS te):=by
 intro pins s σ H Q I h
 refine wpAny_FormattedValue_plain (thn (he pins s σ H _ I h) λu s1 ⟨x,H1,I1,rx,z,ex,hz,q⟩=>?_)
 subst ex
 obtain ⟨t,rfl⟩:=rx
 exact wpAny_formatField_str ⟨.str z,H1,I1,⟨_,rfl⟩,q⟩ ⟨.str z,H1,I1.tok _,⟨_,rfl⟩,q⟩ hz
theorem je (z:Str):Str.empty++z=z:=by
 cases z
 show (⟨#[]++_⟩:Str)=_
 simp
noncomputable def tF3 (te tf tg:TE):TE:=λσ H Q=>te σ H λx H1=>∃ z,x=.str z/\z.length<=sizeLine/\tf σ H1 λy H2=>∃ w,y=.str w/\z.length + w.length<=sizeLine/\tg σ H2 λa H3=>∃ v,a=.str v/\z.length + w.length + v.length<=sizeLine/\Q (.str (z++w++v)) H3
theorem o9 (he:PE X e te) (hf:PE X f tf) (hg:PE X g tg):PE X (.JoinedStr [e,f,g] pos) (tF3 te tf tg):=by
 intro pins s σ H Q I h
 refine wpAny_JoinedStr ?_
 show Joins _ _ _ [eval e X.env,eval f X.env,eval g X.env] _ _ _
 refine thn (he pins s σ H _ I h) λu s1 ⟨x,H1,I1,rx,z,ex,hz0,q1⟩=>?_
 subst ex
 obtain ⟨t,rfl⟩:=rx
 refine ⟨z,t,rfl,by rw [je]; exact hz0,?_⟩
 rw [je]
 refine thn (hf pins s1 σ H1 _ I1 q1) λv s2 ⟨y,H2,I2,ry,w,ey,hz,q2⟩=>?_
 subst ey
 obtain ⟨t',rfl⟩:=ry
 refine ⟨w,t',rfl,by rw [strLen_append]; exact hz,?_⟩
 refine thn (hg pins s2 σ H2 _ I2 q2) λv s3 ⟨y,H3,I3,ry,w',ey,hz,q3⟩=>?_
 subst ey
 obtain ⟨t'',rfl⟩:=ry
 exact ⟨w',t'',rfl,by rw [strLen_append,strLen_append]; exact hz,by rw [strLen_append,strLen_append]; exact hz,.str _,H3,I3.tok _,⟨_,rfl⟩,q3⟩
end
noncomputable def Its (x:Str):L2.It:=⟨λi _=>i < x.cps.size,λi H v H'=>H'=H/\v=.str ⟨#[x.cps.getD i 0]⟩,λi _=>x.cps.size<=i⟩
theorem kL {P:Program} {w:World} {K:PySem.W.Frag} {tg:Expr} (it:Addr) (x:Str) (t:Tok):Turn P w K false tg (Its x) [it] it (λi h=>i<=x.cps.size/\h.IsStrIter it "str_ascii_iterator" x t i) where
 mem:=by simp
 obj:=λi h st b hb=>by
   have e:b=it:=by simpa using hb
   subst e
   obtain ⟨o,h1,h2,h3⟩:=st.2
   exact ⟨o,h1,λv z=>by rw [h3] at z; cases z⟩
 keep:=λi h h' st k=>⟨st.1,let ⟨o,h1,r⟩:=st.2; ⟨o,k it (by simp) _ h1,r⟩⟩
 item:=by
   intro X hP hw hK hc i pins s σ H E I hf st hg
   subst hP hw hK
   obtain ⟨f0,f1,f2,f3,f4,f5⟩:=hf it (by simp)
   have W:=Walks.strAscii (prog:=X.prog) (w:=X.w) (I.ok.hd hc.calm) it x t
   refine W.item i s _ _ hg st.2 λv h' tk hv st' kk=>?_
   obtain ⟨c,u,hc',rfl⟩:=hv
   have I1:Inv X pins σ H { s with heap:=h',toks:=tk }:=I.turned (λb o hb e=>kk b o (by simpa using hb) e) f0 f1 f3 f4 f5
   obtain ⟨o,o1,o2,o3⟩:=id st'
   refine ⟨_,rfl,lC (s:={ s with heap:=h',toks:=tk }) (n:="str_ascii_iterator") o1 o2 o3 (by decide) ⟨.str ⟨#[x.cps.getD i 0]⟩,H,I1,⟨u,?_⟩,⟨rfl,rfl⟩,⟨hg,st'⟩,λb hb=>(hf b hb).1⟩⟩
   have:x.cps.getD i 0=c:=by rw [Array.getD_eq_getD_getElem?,hc']; rfl
   rw [this]
 done:=by
   intro X hP hw hK hc i pins s σ H E I hf st hg
   subst hP hw hK
   obtain ⟨f0,f1,f2,f3,f4,f5⟩:=hf it (by simp)
   have hg:x.cps.size<=i:=hg
   obtain rfl:i=x.cps.size:=Nat.le_antisymm st.1 hg
   have W:=Walks.strAscii (prog:=X.prog) (w:=X.w) (I.ok.hd hc.calm) it x t
   exact W.done s _ _ st.2 λh' tk kk=>⟨rfl,I.turned (λb o hb e=>kk b o (by simpa using hb) e) f0 f1 f3 f4 f5⟩
 self:=λ_ _ _ _ _ st h=>wpAny_pyIter_striter_ascii st.2 h
section
variable {X:Cx} {tg l:Expr} {tl:TE}
noncomputable def qx (tl:TE):TI:=λσ H R=>tl σ H λx H1=>∃ z,x=.str z/\z.cps.all (· < 128)=true/\R (Its z) H1
theorem m6 (hc:X.calm=true) (hl:PE X l tl):PI X tg l (qx tl):=by
 intro pins s σ H R I h
 refine thn (hl pins s σ H _ I h) λv s1 ⟨x,H1,I1,r1,z,e,ha,q⟩=>?_
 subst e
 obtain ⟨t,rfl⟩:=r1
 refine wpAny_pyIter_ascii ha ?_
 refine ⟨false,s1.heap.objs.size,[s1.heap.objs.size],_,_,H1,rfl,I1.kept (t':=s1.toks) λb o e=>Heap.get?_push_of_some _ e,.inl hc,kL _ z t,⟨Nat.zero_le _,_,Heap.get?_push_size _ rfl,rfl,rfl⟩,λb hb=>?_,q⟩
 have e:b=s1.heap.objs.size:=by simpa using hb
 subst e
 exact I1.jA (Nat.le_refl _) (I1.hok.fresh (Nat.le_refl _))
end
end Ev
namespace Hy
open PySem PySem.Spec PyProof.Rows L2
open Ev (D Den aq aj)
section
variable {X:Cx} {C:Bool} {τ:List Sl} {o e f g a b:Expr} {pos apos cpos p p2:Pos} {z w v:Str} {k:Nat} {xs:List D}
theorem gO {K:PySem.W.Frag} {G:Hp}:∀ {vs:List V} {xs:List Str},aq K G vs (xs.map D.str)->vs=xs.map V.str
 | _,[],h=>by cases h; rfl
 | _,x :: xs,h=>by
   rw [List.map_cons] at h
   cases h with
   | cons d r=>
     cases d
     rw [gO r]
     rfl
theorem fv {K:PySem.W.Frag} {G:Hp}:∀ xs:List Str,aq K G (xs.map V.str) (xs.map D.str)
 | []=>.nil
 | _ :: xs=>.cons .str (fv xs)
theorem eK {xs:List Str} (ho:PE X o (dE X.K C τ (.d (.str z)))) (he:PE X e (dE X.K C τ (.d (.lst (xs.map .str))))) (hk:JoinOk z xs=true) (m:M1 X o "join" apos e cpos:=by exact ⟨rfl,rfl,rfl,rfl⟩):PE X (.Call (.Attribute o "join" apos) [e] [] cpos) (dE X.K C τ (.d (.str (Txt.join z xs)))):=
 peW (Ev.mx ho he m) λσ H Q q=>by
   obtain ⟨A,H₀,B,S,kk⟩:=cq q
   refine aH S λv H1 e1 d1=>?_
   cases d1
   refine ⟨z,rfl,aH (S.mono e1) λy H2 e2 dy=>?_⟩
   cases dy with
   | lst h r=>
     rw [gO r] at h
     exact ⟨_,xs,rfl,Ev.ay aQ h,hk,kk _ H2 (e1.trans e2) .str⟩
theorem ke (ho:PE X o (dE X.K C τ (.d (.str z)))) (he:PE X e (dE X.K C τ (.d (.str w)))) (m:M1 X o "startswith" apos e cpos:=by exact ⟨rfl,rfl,rfl,rfl⟩):PE X (.Call (.Attribute o "startswith" apos) [e] [] cpos) (dE X.K C τ (.d (.bl (Txt.startswith z w)))):=
 peW (Ev.jx ho he m) λσ H Q q=>by
   obtain ⟨A,H₀,B,S,kk⟩:=cq q
   refine aH S λv H1 e1 d1=>?_
   cases d1
   refine ⟨z,rfl,aH (S.mono e1) λy H2 e2 dy=>?_⟩
   cases dy
   exact ⟨w,rfl,kk _ H2 (e1.trans e2) .bl⟩
theorem gu (ho:PE X o (dE X.K C τ (.d (.str z)))) (he:PE X e (dE X.K C τ (.d (.str w)))) (hw:w.length=1) (hz:z.length < 1000000) (m:M1 X o "split" apos e cpos:=by exact ⟨rfl,rfl,rfl,rfl⟩):PE X (.Call (.Attribute o "split" apos) [e] [] cpos) (dE X.K C τ (.o ((Txt.split z w).map .str))):=
 peW (Ev.kh ho he m) λσ H Q ⟨A,H₀,B,S,kk⟩=>by
   refine aH S λv H1 e1 d1=>?_
   cases d1
   refine ⟨z,rfl,aH (S.mono e1) λy H2 e2 dy=>?_⟩
   cases dy
   refine ⟨w,rfl,hw,hz,λp hp=>?_⟩
   obtain ⟨z1,z2,z3⟩:=iB (K:=X.K) (M:=vw C A B) (xs:=(Txt.split z w).map .str) hp (fv (K:=X.K) (G:=Hy.hd H2 (vw C A B)) (Txt.split z w))
   exact kk _ _ [p] ((e1.trans e2).trans z1) (λb hb=>⟨(e1.trans e2).free (z2 b hb).1,(z2 b hb).2⟩) z3
theorem oH {n:Int} (hn:intText? z=some n) (hl:z.length<=640):eR X (.type "int") [.str z] (.d (.int n)):=⟨_,Ev.fh,λM vs H Q hM d q=>by
 cases d with
 | cons d r=>
   cases r
   cases d
   exact ⟨z,n,rfl,hn,hl,q _ H [] (ag.refl _) bV (dh .int)⟩⟩
theorem dX {i:Int} (h:i.natAbs.log2 < 1920):eR X (.type "str") [.int i] (.d (.str (toString i))):=⟨_,gk,λM vs H Q hM d q=>by
 cases d with
 | cons d r=>
   cases r
   cases d
   exact ⟨i,rfl,h,q _ H [] (ag.refl _) bV (dh .str)⟩⟩
theorem pw {lo hi:Option Expr} {l u:Option Int} (ha:PE X a (dE X.K C τ (.d (.str z)))) (hl:PO X lo (dO X.K τ l)) (hu:PO X hi (dO X.K τ u)) (hz:z.length<=sizeLine):PE X (.Subscript a (.Slice lo hi none p2) pos) (dE X.K C τ (.d (.str (Txt.slice z l u)))):=
 peW (hZ Ev.n9 ha hl hu) λσ H Q ⟨A,H₀,B,S,k⟩=>aH S λv H1 e1 d1=>⟨A,H₀,B,S.mono e1,λH2 e2=>⟨A,H₀,B,(S.mono e1).mono e2,λH3 e3=>by
   cases d1
   exact ⟨z,rfl,hz,k _ H3 [] (e1.trans (e2.trans e3)) (λ_ z=>nomatch z) ⟨rfl,_,rfl,.str⟩⟩⟩⟩
theorem pC {i:Int} {c:Nat} (hz:z.length<=sizeLine) (h:atI z.cps.toList i=some c):lX X (.str z) (.int i) (.str ⟨#[c]⟩):=⟨_,og,λM v w H Q _ d1 d2 q=>by
 cases d1
 cases d2
 exact ⟨z,i,c,rfl,rfl,hz,h,q _ H (ag.refl _) .str⟩⟩
theorem qf {c:Nat}:bE X (compareOp .In) (.str ⟨#[c]⟩) (.str z) (.bl (decide (c ∈ z.cps.toList))):=⟨_,jD,λ_ v w H Q _ d1 d2 k=>by
 cases d1
 cases d2
 exact ⟨_,z,rfl,rfl,by rw [StrLaws.found_one]; exact k _ H (ag.refl _) .bl⟩⟩
theorem kN (h:z.length + w.length<=sizeLine):bE X (binaryOp .Add) (.str z) (.str w) (.str (z++w)):=⟨_,iE,λ_ v w' H Q _ d1 d2 k=>by
 cases d1
 cases d2
 exact ⟨z,w,rfl,rfl,h,k _ H (ag.refl _) .str⟩⟩
theorem mO (he:PE X e (dE X.K C τ (.d (.str z)))) (hz:z.length<=sizeLine):PE X (.FormattedValue e (-1) none pos) (dE X.K C τ (.d (.str z))):=
 peW (Ev.nQ he) λσ H Q q=>by
   obtain ⟨A,H₀,B,S,kk⟩:=cq q
   refine aH S λv H1 e1 d1=>?_
   cases d1
   exact ⟨z,rfl,hz,kk _ H1 e1 .str⟩
theorem qP (he:PE X e (dE X.K C τ (.d (.str z)))) (hf:PE X f (dE X.K C τ (.d (.str w)))) (hg:PE X g (dE X.K C τ (.d (.str v)))) (hz:z.length + w.length + v.length<=sizeLine):PE X (.JoinedStr [e,f,g] pos) (dE X.K C τ (.d (.str (z++w++v)))):=
 peW (Ev.o9 he hf hg) λσ H Q q=>by
   obtain ⟨A,H₀,B,S,kk⟩:=cq q
   refine aH S λv' H1 e1 d1=>?_
   cases d1
   refine ⟨z,rfl,by omega,aH (S.mono e1) λy H2 e2 dy=>?_⟩
   cases dy
   refine ⟨w,rfl,by omega,aH ((S.mono e1).mono e2) λy H3 e3 dy=>?_⟩
   cases dy
   exact ⟨v,rfl,hz,kk _ H3 (e1.trans (e2.trans e3)) .str⟩
noncomputable def da (z:Str):List D:=z.cps.toList.map λc=>.str ⟨#[c]⟩
theorem nA {tg:Expr} (h:PE X e (dE X.K true τ (.d (.str z)))) (ha:z.cps.all (· < 128)=true) (hc:X.calm=true:=by first | rfl | assumption):PI X tg e (dI X.K τ (da z)):=piW (Ev.m6 hc h) λσ H R ⟨A,H₀,B,S,k⟩=>aH S λv H1 e1 d1=>by
 cases d1
 refine ⟨z,rfl,ha,k _ H1 e1 λH2 s2=>⟨λi hi=>?_,λi hi=>⟨?_,λx H' ⟨e,ex⟩=>?_⟩⟩⟩
 · have:(da z).length=z.cps.size:=by simp [da]
   show z.cps.size<=i
   omega
 · have:(da z).length=z.cps.size:=by simp [da]
   show i < z.cps.size
   omega
 · subst e ex
   refine ⟨ag.refl _,λM _ _=>?_⟩
   have hi':i < z.cps.size:=by simpa [da] using hi
   have:(da z)[i]=.str ⟨#[z.cps.getD i 0]⟩:=by simp [da,hi',Array.getD]
   rw [this]
   exact .str
end
end Hy
namespace Tx
open PySem
noncomputable def inj (c:Nat):List (List Nat)->List Nat
 | []=>[]
 | [a]=>a
 | a :: b :: r=>a++c :: inj c (b :: r)
noncomputable def cs (x:Str):List Nat:=x.cps.toList
theorem kH {x y:Str} (h:cs x=cs y):x=y:=by
 cases x with
 | mk a=>cases y with
   | mk b=>exact congrArg Str.mk (Array.toList_inj.mp h)
theorem ec (x y:Str):cs (x++y)=cs x++cs y:=by
 show ((x++y).cps).toList=_
 rw [Str.cps_append,Array.toList_append]
 rfl
theorem dq (x:Str):(cs x).length=x.length:=by simp [cs,Str.length]
noncomputable def ch (c:Nat):Str:=⟨#[c]⟩
theorem mJ (c:Nat):cs (ch c)=[c]:=rfl
theorem gD (c:Nat):∀ parts:List Str,cs (Str.join (ch c) parts)=inj c (parts.map cs)
 | []=>rfl
 | [x]=>rfl
 | x :: y :: r=>by
   have e:Str.join (ch c) (x :: y :: r)=x++ch c++Str.join (ch c) (y :: r):=rfl
   rw [e,ec,ec,mJ,gD c (y :: r),List.append_assoc]
   rfl
theorem kl {c:Nat}:∀ {a b r s:List Nat},c ∉ a->c ∉ b->a++c :: r=b++c :: s->a=b/\r=s
 | [],[],r,s,_,_,h=>by simp at h; exact ⟨rfl,h⟩
 | [],y :: b,r,s,_,hb,h=>by simp at h; exact absurd (List.mem_cons.mpr (.inl h.1)) hb
 | x :: a,[],r,s,ha,_,h=>by simp at h; exact absurd (List.mem_cons.mpr (.inl h.1.symm)) ha
 | x :: a,y :: b,r,s,ha,hb,h=>by
   simp only [List.cons_append,List.cons.injEq] at h
   obtain ⟨e1,e2⟩:=kl (λz=>ha (List.mem_cons_of_mem _ z)) (λz=>hb (List.mem_cons_of_mem _ z)) h.2
   exact ⟨by rw [h.1,e1],e2⟩
theorem kc {c:Nat} {a b r:List Nat} (ha:c ∉ a):a ≠ b++c :: r:=λh=>ha (by rw [h]; simp)
theorem i5 {c:Nat}:∀ {L M:List (List Nat)},L ≠ []->M ≠ []->(∀ a ∈ L,c ∉ a)->(∀ a ∈ M,c ∉ a)->inj c L=inj c M->L=M
 | [],_,h,_,_,_,_=>absurd rfl h
 | _,[],_,h,_,_,_=>absurd rfl h
 | [a],[b],_,_,_,_,h=>by rw [show a=b from h]
 | [a],b :: b' :: r,_,_,hl,_,h=>absurd h (kc (hl a (by simp)))
 | a :: a' :: r,[b],_,_,_,hm,h=>absurd h.symm (kc (hm b (by simp)))
 | a :: a' :: r,b :: b' :: s,_,_,hl,hm,h=>by
   obtain ⟨e1,e2⟩:=kl (hl a (by simp)) (hm b (by simp)) h
   rw [e1,i5 (L:=a' :: r) (M:=b' :: s) (by simp) (by simp) (λx hx=>hl x (List.mem_cons_of_mem _ hx)) (λx hx=>hm x (List.mem_cons_of_mem _ hx)) e2]
theorem eM:∀ {L M:List Str},L.map cs=M.map cs->L=M
 | [],[],_=>rfl
 | x :: L,y :: M,h=>by
   rw [List.map_cons,List.map_cons,List.cons.injEq] at h
   rw [kH h.1,eM h.2]
theorem kU (x y:Str):Txt.split x y ≠ []:=by
 unfold Txt.split
 split
 · simp
 · split
   · simp
   · intro h
     have:=length_partsBetween x (Builtin.Str.occurrences x y 0 x.length (x.length + 1)) y.length
     rw [h] at this
     simp at this
theorem cF {c:Nat} {parts:List Str} (h0:parts ≠ []) (h:∀ p ∈ parts,c ∉ cs p):Txt.split (Txt.join (ch c) parts) (ch c)=parts:=by
 have e:Txt.join (ch c) parts=Str.join (ch c) parts:=StrLaws.glued_eq_join _ _
 rw [e]
 have h1:=StrLaws.join_split (Str.join (ch c) parts) (ch c)
 have h2:=congrArg cs h1
 rw [gD,gD] at h2
 exact eM (i5 (by simpa using kU _ _) (by simpa using h0) (λa ha=>by
   obtain ⟨p,hp,rfl⟩:=List.mem_map.mp ha
   exact StrLaws.split_free _ c p hp) (λa ha=>by
   obtain ⟨p,hp,rfl⟩:=List.mem_map.mp ha
   exact h p hp) h2)
noncomputable def shI (i:Int):Str:=Str.ofString (toString i)
theorem mL (s:String):cs (Str.ofString s)=s.toList.map Char.toNat:=by
 unfold cs
 rw [Str.ofString_eq_toList]
theorem eL (m:Nat):cs (shI (m:Int))=(Nat.toDigits 10 m).map Char.toNat:=W.KIN.signs_num m
theorem eo (m:Nat):cs (shI (Int.negSucc m))=45 :: cs (shI ((m + 1:Nat):Int)):=by
 unfold shI
 rw [mL,mL]
 show (("-" ++ toString (m + 1)):String).toList.map Char.toNat=_
 rw [String.toList_append,List.map_append]
 rfl
theorem ck (m:Nat):NumText.AllDigits (cs (shI (m:Int))):=λc hc=>by
 rw [eL] at hc
 obtain ⟨d,hd,rfl⟩:=List.mem_map.mp hc
 exact PyProof.Rows.digit_range (Nat.isDigit_of_mem_toDigits (by decide) (by decide) hd)
theorem iN (m:Nat):cs (shI (m:Int)) ≠ []:=by
 rw [eL]
 intro h
 have:=Nat.toDigits_ne_nil (b:=10) (n:=m)
 exact this (List.map_eq_nil_iff.mp h)
theorem kA (i:Int):∀ c ∈ cs (shI i),c=45\/(48<=c/\c<=57):=λc hc=>by
 cases i with
 | ofNat m=>exact .inr (ck m c hc)
 | negSucc m=>
   rw [eo] at hc
   rcases List.mem_cons.mp hc with rfl | hc
   · exact .inl rfl
   · exact .inr (ck (m + 1) c hc)
theorem bX (i:Int) {k:Nat} (hk:0 < k) (h:i.natAbs < 10 ^ k):(shI i).length<=k + 1:=by
 have nat:∀ m:Nat,m < 10 ^ k->(shI (m:Int)).length<=k:=λm hm=>PyProof.Rows.toString_length_le (by omega) hk (by
   have:((m:Nat):Int) < ((10 ^ k:Nat):Int):=Int.ofNat_lt.mpr hm
   simpa using this)
 cases i with
 | ofNat m=>exact Nat.le_succ_of_le (nat m h)
 | negSucc m=>
   have:=nat (m + 1) h
   rw [<- dq,eo,List.length_cons,dq]
   omega
theorem gg {i:Int} (h:i.natAbs < 10 ^ 500):intText? (shI i)=some i/\(shI i).length<=640:=by
 have hl:=bX i (k:=500) (by decide) h
 refine ⟨?_,by omega⟩
 cases i with
 | ofNat m=>
   have e:=PySem.intText_digits (x:=shI (m:Int)) (ck m) (iN m) (Nat.le_trans hl (by decide))
   rw [show (shI (m:Int)).cps.toList=_ from eL m,W.KIN.val_back] at e
   exact e
 | negSucc m=>
   have e:=PySem.intText_neg (x:=shI (Int.negSucc m)) (cs:=cs (shI ((m + 1:Nat):Int))) (eo m) (ck (m + 1)) (iN (m + 1)) (Nat.le_trans hl (by decide))
   rw [eL,W.KIN.val_back] at e
   rw [e]
   rfl
theorem nC {i j:Int} (hi:i.natAbs < 10 ^ 500) (hj:j.natAbs < 10 ^ 500) (h:shI i=shI j):i=j:=by
 have e1:=(gg hi).1
 rw [h,(gg hj).1] at e1
 exact (Option.some.inj e1).symm
theorem eg {i:Int} (h:i.natAbs < 10 ^ 500):i.natAbs.log2 < 1920:=by
 rcases Nat.eq_zero_or_pos i.natAbs with z | z
 · rw [z]; decide
 · exact (Nat.log2_lt (by omega)).mpr (Nat.lt_trans h (by decide +kernel))
theorem lM:∀ m:Nat,0 < m->(Nat.toDigits 10 m).head? ≠ some '0':=λm=>by
 induction m using Nat.strongRecOn with
 | _ m ih=>
   intro h0
   by_cases h:m < 10
   · rw [Nat.toDigits_of_lt_base h]
     have:∀ d:Nat,d < 10->0 < d->([Nat.digitChar d].head?) ≠ some '0':=by decide
     exact this m h h0
   · have t:Nat.toDigits 10 (m / 10)++Nat.toDigits 10 (m % 10)=Nat.toDigits 10 (10 * (m / 10) + m % 10):=Nat.toDigits_append_toDigits (by decide) (by omega) (Nat.mod_lt m (by decide))
     rw [Nat.div_add_mod] at t
     have:=ih (m / 10) (by omega) (by omega)
     rw [<- t]
     cases e:Nat.toDigits 10 (m / 10) with
     | nil=>exact absurd e Nat.toDigits_ne_nil
     | cons a l=>rw [e] at this; exact this
theorem nu (m:Nat):(cs (shI (m:Int))).head?=some 48->m=0:=λh=>by
 rcases Nat.eq_zero_or_pos m with z | z
 · exact z
 · rw [eL,List.head?_map] at h
   have:=lM m z
   cases e:(Nat.toDigits 10 m).head? with
   | none=>rw [e] at h; cases h
   | some d=>
     rw [e] at h this
     have h:d.toNat=48:=by simpa using h
     refine absurd (congrArg some (Char.ext ?_)) this
     exact UInt32.toNat_inj.mp h
theorem ea (i:Int):Txt.startswith (shI i) (ch 45)=decide (i < 0):=by
 have e:∀ x:Str,Txt.startswith x (ch 45)=decide ((cs x).head?=some 45):=λx=>by
   have h:=StrLaws.subAt_one x 45 0
   unfold Txt.startswith
   have e2:(cs x).head?=x.cps.toList[0]?:=List.head?_eq_getElem?
   rw [e2]
   by_cases z:x.cps.toList[0]?=some 45
   · obtain ⟨h1,h2⟩:=h.mpr z
     rw [decide_eq_true z,Bool.and_eq_true]
     exact ⟨decide_eq_true h1,h2⟩
   · rw [decide_eq_false z,Bool.and_eq_false_iff]
     by_cases y:0 + (ch 45).length<=x.length
     · refine .inr ?_
       cases q:Builtin.Str.subAt x (ch 45) 0 with
       | false=>rfl
       | true=>exact absurd (h.mp ⟨y,q⟩) z
     · exact .inl (decide_eq_false y)
 rw [e]
 cases i with
 | ofNat m=>
   rw [decide_eq_false,decide_eq_false (show ¬ (Int.ofNat m < 0) from λz=>by have:(0:Int)<=Int.ofNat m:=Int.natCast_nonneg m; omega)]
   intro h
   have:=ck m 45 (List.mem_of_mem_head? h)
   omega
 | negSucc m=>
   rw [eo,decide_eq_true (Int.negSucc_lt_zero m)]
   rfl
theorem j8 (m:Nat):Txt.slice (shI (Int.negSucc m)) (some 1) none=shI ((m + 1:Nat):Int):=by
 have hl:(shI (Int.negSucc m)).cps.toList=45 :: cs (shI ((m + 1:Nat):Int)):=eo m
 have e:=StrLaws.sliceText_from (x:=shI (Int.negSucc m)) (i:=1) ⟨by decide,by rw [hl,List.length_cons]; omega⟩
 refine (show Txt.slice _ _ _=StrLaws.sliceText _ _ _ from rfl).trans (e.trans (kH ?_))
 rw [hl]
 show ((45 :: cs (shI ((m + 1:Nat):Int))).drop 1).take _=_
 rw [List.drop_succ_cons,List.drop_zero,List.take_of_length_le]
 rw [List.length_cons]
 omega
end Tx
namespace Hx
open PySem PySem.Spec PyProof.Rows L2
section
variable {X:Cx} {body:List Stmt} {h0:ExceptHandler} {hs:List ExceptHandler} {pos:Pos} {t:TS}
theorem mz (hb:∀ (pins:List (Addr × Obj)) (E:Value->Shared->Prop),PSs (XP X pins E) body t):PS X (.Try body (h0 :: hs) [] [] pos) t:=by
 intro pins s σ H D I h
 refine wpAny_Try_except ?_
 refine wpAny_mono (hb pins _ [] s σ H D (nP I) h) (λf s1 q=>?_) λ_ _ z=>z
 have q:=lY I.ok q
 cases f with
 | next=>exact wpAny_execs_nil q
 | _=>exact q
end
end Hx
namespace Hy
open PySem PySem.Spec PyProof.Rows L2
theorem oj {X:Cx} {τ:List Sl} {N:Po} {body rest:List Stmt} {h0:ExceptHandler} {hs:List ExceptHandler} {pos:Pos} (hb:∀ pins,PSs (XN X pins) body (dS X.K τ { N with nx:=λ_=>False })):PSs X (.Try body (h0 :: hs) [] [] pos :: rest) (dS X.K τ N):=
 bh (M:=λ_=>False) (psW (Hx.mz λpins E=>PSs.nox (X:=Hx.XP X pins E) (hb pins)) λD σ H ⟨A,H₀,B,S,Me⟩=>⟨A,H₀,B,S,⟨λ_ _ _ _ h=>h.elim,Me.bk,Me.ct,Me.rt,Me.xc⟩⟩) λ_ e=>e.elim
end Hy
namespace Hy
open PySem PySem.Spec PyProof.Rows L2
open Ev (D Den aq aj aP ay)
section
variable {X:Cx} {C:Bool} {τ:List Sl} {a b e e1 e2 e3 o:Expr} {pos p p2 tp:Pos} {k:Nat} {x x1 x2 x3:D} {N:Po} {rest:List Stmt}
end
end Hy
namespace Tx
open PySem
set_option exponentiation.threshold 4000
theorem jF:("/" : Str)=ch 47:=by decide +kernel
theorem gW:(" " : Str)=ch 32:=by decide +kernel
theorem jz:("\n" : Str)=ch 10:=by decide +kernel
theorem pB:("-" : Str)=ch 45:=by decide +kernel
theorem c_0:("0" : Str)=ch 48:=by decide +kernel
theorem s_0:("0" : Str)=shI 0:=by decide +kernel
theorem s_1:("1" : Str)=shI 1:=by decide +kernel
theorem join_eq (c:Nat) (xs:List Str):Txt.join (ch c) xs=Str.join (ch c) xs:=StrLaws.glued_eq_join _ _
theorem kX (c:Nat) (x:Str):Txt.join (ch c) [x]=x:=join_eq c [x]
theorem join_cons (c:Nat) (x y:Str) (r:List Str):Txt.join (ch c) (x :: y :: r)=x++ch c++Txt.join (ch c) (y :: r):=by rw [join_eq,join_eq]; rfl
theorem lG (x y:Str):(x++y).length=x.length + y.length:=by rw [<- dq,ec,List.length_append,dq,dq]
theorem kZ (c:Nat):(ch c).length=1:=rfl
theorem ji {c:Nat} {xs:List Str} {B:Nat} (hB:∀ y ∈ xs,y.length<=B) (h:xs.length * B + xs.length<=16777216):JoinOk (ch c) xs=true:=by
 unfold JoinOk
 rw [StrLaws.joinFits hB (by rw [kZ,Nat.mul_one]; exact h)]
 rfl
theorem eh {c:Nat} {xs:List Str} {B:Nat} (hB:∀ y ∈ xs,y.length<=B):(Txt.join (ch c) xs).length<=xs.length * B + xs.length:=by
 rw [join_eq]
 have h1:=StrLaws.join_length_le (ch c) xs
 have h2:=StrLaws.sumLen_le xs hB
 rw [kZ,Nat.mul_one] at h1
 omega
theorem mem_join {c d:Nat}:∀ {xs:List Str},c ∈ cs (Txt.join (ch d) xs)->c=d\/∃ x ∈ xs,c ∈ cs x
 | [],h=>by rw [join_eq] at h; cases h
 | [x],h=>by rw [kX] at h; exact .inr ⟨x,by simp,h⟩
 | x :: y :: r,h=>by
   rw [join_cons,ec,ec,mJ] at h
   rcases List.mem_append.mp h with h | h
   · rcases List.mem_append.mp h with h | h
     · exact .inr ⟨x,by simp,h⟩
     · exact .inl (List.mem_singleton.mp h)
   · rcases mem_join h with z | ⟨w,hw,hc⟩
     · exact .inl z
     · exact .inr ⟨w,List.mem_cons_of_mem _ hw,hc⟩
theorem k7 (i:Int):(shI i).cps.all (· < 128)=true:=by
 rw [<- Array.all_toList,List.all_eq_true]
 intro c hc
 have:=kA i c hc
 exact decide_eq_true (by omega)
structure SmQ (q:Rat):Prop where
 n:q.num.natAbs < 10 ^ 400
 d:q.den < 10 ^ 400
theorem p45 {n:Nat} (h:n < 10 ^ 400):n < 10 ^ 500:=Nat.lt_of_lt_of_le h (Nat.pow_le_pow_right (by decide) (by decide))
noncomputable def pq (q:Rat):List Str:=if q.den=1 then [shI q.num] else [shI q.num,shI ((q.den:Nat):Int)]
noncomputable def shQ (q:Rat):Str:=Txt.join (ch 47) (pq q)
theorem kr {q:Rat} (h:q.den=1):shQ q=shI q.num:=by unfold shQ pq; rw [if_pos h,kX]
theorem mD {q:Rat} (h:q.den ≠ 1):shQ q=shI q.num++ch 47++shI ((q.den:Nat):Int):=by unfold shQ pq; rw [if_neg h,join_cons,kX]
theorem lW (q:Rat):∀ x ∈ pq q,47 ∉ cs x:=λx hx h=>by
 have:∃ i,x=shI i:=by
   unfold pq at hx
   split at hx
   · exact ⟨_,List.mem_singleton.mp hx⟩
   · rcases List.mem_cons.mp hx with z | z
     · exact ⟨_,z⟩
     · exact ⟨_,List.mem_singleton.mp z⟩
 obtain ⟨i,rfl⟩:=this
 have:=kA i 47 h
 omega
theorem qg (q:Rat):pq q ≠ []:=by unfold pq; split <;> simp
theorem jI (q:Rat):Txt.split (shQ q) (ch 47)=pq q:=cF (qg q) (lW q)
theorem ni {q:Rat} (h:SmQ q):∀ x ∈ pq q,x.length<=401:=λx hx=>by
 have h1:=bX q.num (k:=400) (by decide) h.n
 have h2:=bX ((q.den:Nat):Int) (k:=400) (by decide) h.d
 unfold pq at hx
 split at hx
 · rw [List.mem_singleton.mp hx]; exact h1
 · rcases List.mem_cons.mp hx with z | z
   · rw [z]; exact h1
   · rw [List.mem_singleton.mp z]; exact h2
theorem pk (q:Rat):(pq q).length<=2:=by unfold pq; split <;> simp
theorem jb {q:Rat} (h:SmQ q):(shQ q).length<=804:=by
 have:=eh (c:=47) (ni h)
 have l:=pk q
 have:=Nat.mul_le_mul_right 401 l
 unfold shQ
 omega
theorem kP (q:Rat):∀ c ∈ cs (shQ q),c=45\/(47<=c/\c<=57):=λc hc=>by
 rcases mem_join hc with z | ⟨x,hx,h⟩
 · omega
 · have:∃ i,x=shI i:=by
     unfold pq at hx
     split at hx
     · exact ⟨_,List.mem_singleton.mp hx⟩
     · rcases List.mem_cons.mp hx with z | z
       · exact ⟨_,z⟩
       · exact ⟨_,List.mem_singleton.mp z⟩
   obtain ⟨i,rfl⟩:=this
   have:=kA i c h
   omega
theorem p6 {n:Nat} (h:n < 100):((n:Nat):Int).natAbs < 10 ^ 400:=by
 have:(100:Nat)<=10 ^ 400:=Nat.le_trans (by decide:100<=10 ^ 2) (Nat.pow_le_pow_right (by decide) (by decide))
 omega
end Tx
namespace Hy
open PySem PySem.Spec PyProof.Rows L2
open Ev (D Den aq aj aP ay)
end Hy
namespace Tx
open PySem
set_option exponentiation.threshold 4000
noncomputable def shR (r:List Rat):Str:=Txt.join (ch 32) (r.map shQ)
noncomputable def shT (M:List (List Rat)):Str:=Txt.join (ch 10) (M.map shR)
theorem fU {r:List Rat} (h:∀ q ∈ r,SmQ q):∀ x ∈ r.map shQ,x.length<=804/\32 ∉ cs x/\10 ∉ cs x:=λx hx=>by
 obtain ⟨q,hq,rfl⟩:=List.mem_map.mp hx
 exact ⟨jb (h q hq),λz=>by have:=kP _ _ z; omega,λz=>by have:=kP _ _ z; omega⟩
theorem jZ {r:List Rat} (h0:r ≠ []) (h:∀ q ∈ r,SmQ q):Txt.split (shR r) (ch 32)=r.map shQ:=cF (by simpa using h0) λx hx=>(fU h x hx).2.1
theorem jf {r:List Rat} (h:∀ q ∈ r,SmQ q) (hl:r.length<=14):(shR r).length<=11270:=by
 have:=eh (c:=32) (B:=804) λx hx=>(fU h x hx).1
 rw [List.length_map] at this
 have:r.length * 804<=14 * 804:=Nat.mul_le_mul_right _ hl
 unfold shR
 omega
theorem iw {r:List Rat} (h:∀ q ∈ r,SmQ q) (hl:r.length<=14):JoinOk (ch 32) (r.map shQ)=true:=ji (B:=804) (λx hx=>(fU h x hx).1) (by
 rw [List.length_map]
 have:r.length * 804<=14 * 804:=Nat.mul_le_mul_right _ hl
 omega)
theorem nR {r:List Rat} (h:∀ q ∈ r,SmQ q):10 ∉ cs (shR r):=λz=>by
 rcases mem_join z with y | ⟨x,hx,hc⟩
 · omega
 · exact (fU h x hx).2.2 hc
theorem iC {M:List (List Rat)} (h:∀ r ∈ M,∀ q ∈ r,SmQ q) (hl:∀ r ∈ M,r.length<=14):∀ x ∈ M.map shR,x.length<=11270/\10 ∉ cs x:=λx hx=>by
 obtain ⟨r,hr,rfl⟩:=List.mem_map.mp hx
 exact ⟨jf (h r hr) (hl r hr),nR (h r hr)⟩
theorem jO {M:List (List Rat)} (h0:M ≠ []) (h:∀ r ∈ M,∀ q ∈ r,SmQ q) (hl:∀ r ∈ M,r.length<=14):Txt.split (shT M) (ch 10)=M.map shR:=cF (by simpa using h0) λx hx=>(iC h hl x hx).2
theorem mm {M:List (List Rat)} (h:∀ r ∈ M,∀ q ∈ r,SmQ q) (hl:∀ r ∈ M,r.length<=14) (h7:M.length<=7):(shT M).length<=80000:=by
 have:=eh (c:=10) (B:=11270) λx hx=>(iC h hl x hx).1
 rw [List.length_map] at this
 have:M.length * 11270<=7 * 11270:=Nat.mul_le_mul_right _ h7
 unfold shT
 omega
theorem lq {M:List (List Rat)} (h:∀ r ∈ M,∀ q ∈ r,SmQ q) (hl:∀ r ∈ M,r.length<=14) (h7:M.length<=7):JoinOk (ch 10) (M.map shR)=true:=ji (B:=11270) (λx hx=>(iC h hl x hx).1) (by
 rw [List.length_map]
 have:M.length * 11270<=7 * 11270:=Nat.mul_le_mul_right _ h7
 omega)
end Tx
namespace K72
open PySem PySem.Spec PyProof.Rows L2 Hy
noncomputable def top (i:Nat):Stmt:=PySem.Challenge.pw_signsmooth_k72_texts_of_tables.main.body.getD i (.Pass ⟨0,0,0,0⟩)
theorem jy:ar ["_law_script","_law_k"] ["_law_script","_law_k"] (ah (top 29)):=⟨rfl,rfl,rfl,by decide +kernel,rfl,by decide +kernel,by decide +kernel⟩
theorem cP:ar ["_law_cell_here","_law_bases","_law_row","_law_base","_law_k","_law_mixed"] ["_law_cell_here","_law_bases"] (ah (top 30)):=⟨rfl,rfl,rfl,by decide +kernel,rfl,by decide +kernel,by decide +kernel⟩
theorem ft:ar ["_law_cell_here","_law_parts"] ["_law_cell_here"] (ah (top 36)):=⟨rfl,rfl,rfl,by decide +kernel,rfl,by decide +kernel,by decide +kernel⟩
theorem cX:ar ["_law_one_here","_law_other","_law_rest_here"] ["_law_one_here","_law_other"] (ah (top 32)):=⟨rfl,rfl,rfl,by decide +kernel,rfl,by decide +kernel,by decide +kernel⟩
theorem fK:ar ["_law_top","_law_bottom","_law_common"] ["_law_top","_law_bottom"] (ah (top 33)):=⟨rfl,rfl,rfl,by decide +kernel,rfl,by decide +kernel,by decide +kernel⟩
theorem du:ar ["_law_kind","_law_part","_law_top"] ["_law_kind","_law_part"] (ah (top 34)):=⟨rfl,rfl,rfl,by decide +kernel,rfl,by decide +kernel,by decide +kernel⟩
theorem dU:ar ["_law_cell_here","_law_many","_law_wide","_law_kind","_law_base","_law_parts"] ["_law_cell_here","_law_many","_law_wide","_law_kind"] (ah (top 35)):=⟨rfl,rfl,rfl,by decide +kernel,rfl,by decide +kernel,by decide +kernel⟩
theorem il:ar ["_law_number_here"] ["_law_number_here"] (ah (top 40)):=⟨rfl,rfl,rfl,by decide +kernel,rfl,by decide +kernel,by decide +kernel⟩
theorem cf:ar ["number","top","bottom"] ["number"] (ah (top 17)):=⟨rfl,rfl,rfl,by decide +kernel,rfl,by decide +kernel,by decide +kernel⟩
theorem iQ:ar ["_law_thing"] ["_law_thing"] (ah (top 37)):=⟨rfl,rfl,rfl,by decide +kernel,rfl,by decide +kernel,by decide +kernel⟩
theorem eD:ar ["_law_found","_law_top","_law_bottom"] ["_law_found","_law_top","_law_bottom"] (ah (top 38)):=⟨rfl,rfl,rfl,by decide +kernel,rfl,by decide +kernel,by decide +kernel⟩
theorem fY:ar ["thing"] ["thing"] (ah (top 20)):=⟨rfl,rfl,rfl,by decide +kernel,rfl,by decide +kernel,by decide +kernel⟩
theorem dt:ar ["text","figures"] ["text"] (ah (top 25)):=⟨rfl,rfl,rfl,by decide +kernel,rfl,by decide +kernel,by decide +kernel⟩
theorem gZ:ar ["thing"] ["thing"] (ah (top 6)):=⟨rfl,rfl,rfl,by decide +kernel,rfl,by decide +kernel,by decide +kernel⟩
theorem bK:ar ["one","other","greater","lesser","rest"] ["one","other"] (ah (top 8)):=⟨rfl,rfl,rfl,by decide +kernel,rfl,by decide +kernel,by decide +kernel⟩
theorem eH:ar ["thing"] ["thing"] (ah (top 7)):=⟨rfl,rfl,rfl,by decide +kernel,rfl,by decide +kernel,by decide +kernel⟩
theorem cT:ar ["text","pieces","number"] ["text"] (ah (top 24)):=⟨rfl,rfl,rfl,by decide +kernel,rfl,by decide +kernel,by decide +kernel⟩
theorem dY:ar ["text"] ["text"] (ah (top 21)):=⟨rfl,rfl,rfl,by decide +kernel,rfl,by decide +kernel,by decide +kernel⟩
theorem hV:ar ["_law_number_here","_law_text","_law_found"] ["_law_number_here"] (ah (top 42)):=⟨rfl,rfl,rfl,by decide +kernel,rfl,by decide +kernel,by decide +kernel⟩
theorem gC:ar ["_law_table_here"] ["_law_table_here"] (ah (top 41)):=⟨rfl,rfl,rfl,by decide +kernel,rfl,by decide +kernel,by decide +kernel⟩
theorem dn:ar ["thing"] ["thing"] (ah (top 11)):=⟨rfl,rfl,rfl,by decide +kernel,rfl,by decide +kernel,by decide +kernel⟩
theorem jL:ar ["thing"] ["thing"] (ah (top 12)):=⟨rfl,rfl,rfl,by decide +kernel,rfl,by decide +kernel,by decide +kernel⟩
theorem gG:ar ["thing"] ["thing"] (ah (top 13)):=⟨rfl,rfl,rfl,by decide +kernel,rfl,by decide +kernel,by decide +kernel⟩
theorem e8:ar ["thing"] ["thing"] (ah (top 14)):=⟨rfl,rfl,rfl,by decide +kernel,rfl,by decide +kernel,by decide +kernel⟩
theorem hJ:ar ["row"] ["row"] (ah (top 18)):=⟨rfl,rfl,rfl,by decide +kernel,rfl,by decide +kernel,by decide +kernel⟩
theorem eY:ar ["table"] ["table"] (ah (top 19)):=⟨rfl,rfl,rfl,by decide +kernel,rfl,by decide +kernel,by decide +kernel⟩
theorem jR:ar ["text"] ["text"] (ah (top 26)):=⟨rfl,rfl,rfl,by decide +kernel,rfl,by decide +kernel,by decide +kernel⟩
theorem iL:ar ["text"] ["text"] (ah (top 27)):=⟨rfl,rfl,rfl,by decide +kernel,rfl,by decide +kernel,by decide +kernel⟩
theorem cv:ar ["text","table"] ["text"] (ah (top 23)):=⟨rfl,rfl,rfl,by decide +kernel,rfl,by decide +kernel,by decide +kernel⟩
theorem cO:ar ["_law_found","_law_due","_law_row","_law_other","_law_one_here","_law_two"] ["_law_found","_law_due"] (ah (top 39)):=⟨rfl,rfl,rfl,by decide +kernel,rfl,by decide +kernel,by decide +kernel⟩
theorem eQ:ar ["_law_table_here","_law_text","_law_found","_law_k","_law_read"] ["_law_table_here"] (ah (top 45)):=⟨rfl,rfl,rfl,by decide +kernel,rfl,by decide +kernel,by decide +kernel⟩
theorem hW:ar ["text"] ["text"] (ah (top 22)):=⟨rfl,rfl,rfl,by decide +kernel,rfl,by decide +kernel,by decide +kernel⟩
theorem fx:ar ["_law_row","_law_text","_law_found","_law_k","_law_read"] ["_law_row"] (ah (top 44)):=⟨rfl,rfl,rfl,by decide +kernel,rfl,by decide +kernel,by decide +kernel⟩
theorem bY:ar ["_law_number_here","_law_text","_law_found"] ["_law_number_here"] (ah (top 43)):=⟨rfl,rfl,rfl,by decide +kernel,rfl,by decide +kernel,by decide +kernel⟩
theorem jY:ar ["_law_cell_here","_law_used"] ["_law_cell_here","_law_used"] (ah (top 31)):=⟨rfl,rfl,rfl,by decide +kernel,rfl,by decide +kernel,by decide +kernel⟩
theorem dR:ar ["_law_cell_here","_law_parts","_law_top","_law_part","_law_bottom"] ["_law_cell_here"] (ah (top 46)):=⟨rfl,rfl,rfl,by decide +kernel,rfl,by decide +kernel,by decide +kernel⟩
theorem kK:ar ["_law_script","_law_k","_law_cell_here","_law_many","_law_wide","_law_kind","_law_other","_law_row"] ["_law_script"] (ah (top 47)):=⟨rfl,rfl,rfl,by decide +kernel,rfl,by decide +kernel,by decide +kernel⟩
end K72
namespace K72
open PySem PySem.Spec PyProof.Rows L2 Hy
open Ev (D Den aq aG aE)
noncomputable def frD (q:Rat):D:=.tup [.int q.num,.int (q.den:Nat)]
theorem ic {t b:Int} {x:Rat} (hb:0 < b) (h:(t:Rat)=x * (b:Rat)):x.num=t / (Int.gcd t b:Int)/\((x.den:Nat):Int)=b / (Int.gcd t b:Int):=by
 have hb0:((b.toNat:Nat):Rat) ≠ 0:=λz=>by have:=Rat.natCast_eq_zero_iff.mp z; omega
 have hbb:((b:Int):Rat)=((b.toNat:Nat):Rat):=by rw [<- Rat.intCast_natCast,Int.toNat_of_nonneg (by omega)]
 have e:x=mkRat t b.toNat:=by
   rw [Rat.mkRat_eq_div,h,hbb,Rat.mul_div_cancel hb0]
 have g:b.toNat.gcd t.natAbs=Int.gcd t b:=by
   rw [Int.gcd,Nat.gcd_comm,show b.natAbs=b.toNat by omega]
 have nz:¬ b.toNat=0:=by omega
 constructor
 · rw [e,Rat.num_mkRat,if_neg nz,g]
 · rw [e,Rat.den_mkRat,if_neg nz,g,Int.natCast_ediv,Int.toNat_of_nonneg (by omega)]
theorem den_pos (q:Rat):0 < ((q.den:Nat):Int):=by have:=q.den_pos; omega
theorem kB {b:Int} (hb:0 < b):(b:Rat) ≠ 0:=λz=>by have:=Rat.intCast_eq_zero_iff.mp z; omega
noncomputable def Bd (n:Nat) (i:Int):Prop:=i.natAbs < 2 ^ n
theorem Bd.mono {m n:Nat} {i:Int} (h:Bd m i) (hm:m<=n):Bd n i:=Nat.lt_of_lt_of_le h (Nat.pow_le_pow_right (by decide) hm)
theorem Bd.log {n:Nat} {i:Int} (h:Bd n i) (hn:0 < n):i.natAbs.log2 < n:=by
 rcases Nat.eq_zero_or_pos i.natAbs with z | z
 · rw [z]; exact hn
 · exact (Nat.log2_lt (by omega)).mpr h
theorem Bd.aG {m n:Nat} {i j:Int} (h:Bd m i) (g:Bd n j) (hm:m<=1000000) (hn:n<=1000000):aG i j:=
 .inr (.inr ⟨(h.mono (Nat.le_succ_of_le hm)).log (by omega) |> λz=>by
   rcases Nat.eq_zero_or_pos i.natAbs with q | q
   · rw [q]; decide
   · exact Nat.lt_of_lt_of_le ((Nat.log2_lt (by omega)).mpr h) hm,by
   rcases Nat.eq_zero_or_pos j.natAbs with q | q
   · rw [q]; decide
   · exact Nat.lt_of_lt_of_le ((Nat.log2_lt (by omega)).mpr g) hn⟩)
theorem Bd.aE {n:Nat} {j:Int} (h:Bd n j) (h0:j ≠ 0) (hn:n<=9000):aE j:=⟨h0,Nat.lt_of_lt_of_le ((Nat.log2_lt (by omega)).mpr h) hn⟩
theorem Bd.of_dvd {n:Nat} {i j:Int} (h:Bd n j) (hd:i ∣ j) (h0:j ≠ 0):Bd n i:=Nat.lt_of_le_of_lt (Nat.le_of_dvd (by omega) (Int.natAbs_dvd_natAbs.mpr hd)) h
theorem Bd.ediv {n:Nat} {i:Int} (h:Bd n i) (j:Int):Bd n (i / j):=Nat.lt_of_le_of_lt (Int.natAbs_ediv_le_natAbs i j) h
theorem Bd.gcd {n:Nat} {i j:Int} (h:Bd n j) (h0:j ≠ 0):Bd n (Int.gcd i j:Int):=h.of_dvd (Int.gcd_dvd_right ..) h0
theorem nk {i j:Int} (h0:j ≠ 0):(Int.gcd i j:Int) ≠ 0:=λz=>h0 (by have:=Int.gcd_eq_zero_iff.mp (Int.ofNat_eq_zero.mp z); exact this.2)
theorem gR {i j:Int} (t:Int):t.fdiv (Int.gcd i j:Int)=t / (Int.gcd i j:Int):=Int.fdiv_eq_ediv_of_nonneg _ (Int.natCast_nonneg _)
structure Sq (n:Nat) (q:Rat):Prop where
 num:Bd n q.num
 den:Bd n (q.den:Nat)
noncomputable def whl (x:D):Bool:=dW .int x && !dW .bool x
noncomputable def cD (ds:List D) (r:Sl):Prop:=∃ x,ds=[x]/\r=.d (.bl (whl x))
noncomputable def bc (ds:List D) (r:Sl):Prop:=∃ a b:Int,ds=[.int a,.int b]/\r=.d (.int (Int.gcd a b:Int))
theorem cV (i:Int):iW i=(i.natAbs:Int):=by unfold iW; omega
noncomputable def jK:D->Bool
 | .tup [.int a,.int b]=>decide (1<=b) && decide ((Int.gcd a b:Int)=1)
 | _=>false
theorem gp (q:Rat):jK (frD q)=true:=by
 have h1:=den_pos q
 have h2:Int.gcd q.num (q.den:Nat)=1:=q.reduced
 show (decide ((1:Int)<=(q.den:Nat)) && decide ((Int.gcd q.num (q.den:Nat):Int)=1))=true
 rw [h2,decide_eq_true (show (1:Int)<=(q.den:Nat) by omega)]
 rfl
theorem lu {xs:List D} (h:xs.length ≠ 2):jK (.tup xs)=false:=by
 unfold jK
 split
 · rename_i e; cases e; exact absurd rfl h
 · rfl
noncomputable def aX (ds:List D) (r:Sl):Prop:=∃ x,ds=[x]/\r=.d (.bl (jK x))
noncomputable def a0 (ds:List D) (r:Sl):Prop:=∃ xs,ds=[.lst xs]/\r=.d (.bl (decide ((1:Int)<=(xs.length:Nat)) && decide (((xs.length:Nat):Int)<=7)))
noncomputable def rwQ (r:List Rat):D:=.lst (r.map frD)
noncomputable def tbQ (M:List (List Rat)):D:=.lst (M.map rwQ)
structure Tq (R C:Nat) (M:List (List Rat)):Prop where
 r1:1<=R
 r7:R<=7
 c1:1<=C
 c7:C<=7
 len:M.length=R
 row:∀ r ∈ M,r.length=C
theorem b5 {α:Type} {f:α->D} {xs:List α} (d:α):∀ i (h:i < (xs.map f).length),(xs.map f)[i]=f (xs.getD i d):=λi h=>by
 have:i < xs.length:=by simpa using h
 simp [this]
theorem nU {α:Type} {f:α->D} {xs:List α} (d:α) {i:Nat} (h:i < xs.length):atI (xs.map f) (i:Int)=some (f (xs.getD i d)):=aA (by simp [h])
theorem bZ {α:Type} {xs:List α} {d:α} {i:Nat} (h:i < xs.length):xs.getD i d ∈ xs:=by simp [h]
theorem Tq.at_ {R C:Nat} {M:List (List Rat)} (h:Tq R C M) {i:Nat} (hi:i < R):(M.getD i []).length=C:=h.row _ (bZ (by rw [h.len]; exact hi))
theorem k5 (n:Nat) (f:Nat->Bool) (h:∀ i,i < n->f i=true):((List.range n).map f).all id=true:=by
 rw [List.all_map,List.all_eq_true]
 intro i hi
 exact h i (List.mem_range.mp hi)
structure Qs (d v:Nat) (q:Rat):Prop where
 den:Bd d (q.den:Nat)
 val:q.num.natAbs<=2 ^ v * q.den
theorem mK {X:Cx} {xs:List D} {n:Nat} (h:xs.length=n):eR X (.builtin "len") [.lst xs] (.d (.int n)):=h ▸ b6
noncomputable def eV (ds:List D) (r:Sl):Prop:=∃ q:List Rat,ds=[rwQ q]/\1<=q.length/\q.length<=7/\r=.d (.bl true)
noncomputable def cB (ds:List D) (r:Sl):Prop:=∃ (R C:Nat) (M:List (List Rat)),ds=[tbQ M]/\Tq R C M/\r=.d (.bl true)
noncomputable def bq (ds:List D) (r:Sl):Prop:=∃ (R C:Nat) (M:List (List Rat)),ds=[tbQ M]/\Tq R C M/\r=.d .non
section
variable {P:Program} {w:World} {K:PySem.W.Frag} {mg:Str->Option Value} {base:Heap} {k:Nat} {f:Addr} {fd:FuncData} {qual:Str}
theorem gS (F:Fun K "is_whole" qual (top 6) f fd) (hb:∀ x ∈ ai,mg x=none):aI P w K mg base CX0 (k + 1) f fd ["thing"] (spD K cD):=by
 refine fnD F gZ hb (by rintro _ _ ⟨_,rfl,_⟩; rfl) ?_
 rintro _ _ ⟨x,rfl,rfl⟩ cdv A outer s H E b
 exact aB (cw (bA .int b (ab 0)) λh=>(dB (mU (bA .bool b (ab 0))))) rfl
theorem cU (F:Fun K "common_divisor" qual (top 8) f fd) (hb:∀ x ∈ ai,mg x=none):aI P w K mg base CX0 (k + 1) f fd ["one","other"] (spD K bc):=by
 refine fnD F bK hb (by rintro _ _ ⟨_,_,rfl,_⟩; rfl) ?_
 rintro _ _ ⟨x,y,rfl,rfl⟩ cdv A outer s H E b
 have nd:=bK.nd
 refine aC 2 nd (a8 b (aa (ab 0) af) fq) (aC 3 nd (a8 b (aa (ab 1) af) fq) ?_)
 rw [cV,cV]
 refine i4 (λn t τ=>∃ (g:Nat) (s4:Sl),Nat.gcd g n=Int.gcd x y/\t=(!decide ((n:Int)=0))/\τ=[.d (.int x),.d (.int y),.d (.int g),.d (.int n),s4]) b ⟨_,_,_,_,rfl,rfl,rfl⟩ (λn t τ h=>?_) (λn τ h=>?_) λn τ h=>?_
 · obtain ⟨g,s4,_,rfl,rfl⟩:=h
   exact aJ (ab 3) ae iS
 · obtain ⟨g,s4,hg,ht,rfl⟩:=h
   have hl:n ≠ 0:=λz=>by simp [z] at ht
   have e:(g:Int).fmod n=((g % n:Nat):Int):=by rw [Int.fmod_eq_emod_of_nonneg _ (by omega)]; rfl
   refine aC 4 nd (av (ab 2) (ab 3) (bb (by omega))) ?_
   rw [e]
   refine aC 2 nd (ab 3) (aC 3 nd (ab 4) (bw ⟨g % n,_,Nat.mod_lt g (Nat.pos_of_ne_zero hl),n,_,?_,rfl,rfl⟩))
   rw [<- hg,Nat.gcd_comm n,<- Nat.gcd_rec,Nat.gcd_comm]
 · obtain ⟨g,s4,hg,ht,rfl⟩:=h
   have hl:n=0:=by simpa using ht
   refine aB (ab 2) ?_
   rw [<- hg,hl,Nat.gcd_zero_right]
theorem eS (F:Fun K "is_fraction" qual (top 7) f fd) (hb:∀ x ∈ ai,mg x=none) (c_is_whole:Cal P w K mg base k "is_whole" cD) (c_common_divisor:Cal P w K mg base k "common_divisor" bc):aI P w K mg base CX0 (k + 1) f fd ["thing"] (spD K aX):=by
 refine fnD F eH hb (by rintro _ _ ⟨_,rfl,_⟩; rfl) ?_
 rintro _ _ ⟨x,rfl,rfl⟩ cdv A outer s H E b
 by_cases ht:dW .tuple x=true
 · obtain ⟨xs,rfl⟩:∃ xs,x=.tup xs:=by cases x <;> first | exact ⟨_,rfl⟩ | cases ht
   refine bN (PW.pt (bO (aO (aN (bA .tuple b (ab 0)))) λh=>(bo (aJ (a8 b (aa (ab 0) af) ly) ae iS)))) (λh=>?_) λh=>?_
   · refine aB j2 ?_
     have h:(!decide ((xs.length:Int)=2))=true:=h
     have:xs.length ≠ 2:=λz=>by rw [z] at h; cases h
     rw [lu this]
   · have h:(!decide ((xs.length:Int)=2))=false:=h
     have h2:xs.length=2:=by simp at h; omega
     obtain ⟨u,v,rfl⟩:∃ u v,xs=[u,v]:=by
       match xs,h2 with
       | [u,v],_=>exact ⟨u,v,rfl⟩
     refine bN (PW.pt (bO (aO (aN (x_call b c_is_whole (aa (aL (ab 0) ae (aR (aA (i:=0) rfl))) af) ⟨_,rfl,rfl⟩))) λh=>(bo (aO (aN (x_call b c_is_whole (aa (aL (ab 0) ae (aR (aA (i:=1) rfl))) af) ⟨_,rfl,rfl⟩)))))) (λh=>?_) λh=>?_
     · refine aB j2 ?_
       have:jK (.tup [u,v])=false:=by cases u <;> cases v <;> first | rfl | cases h
       rw [this]
     · obtain ⟨i,j,rfl,rfl⟩:∃ i j,u=.int i/\v=.int j:=by cases u <;> cases v <;> first | exact ⟨_,_,rfl,rfl⟩ | cases h
       exact aB (cw (eU (aL (ab 0) ae (aR (aA (i:=1) rfl))) ae nc) λh=>(dB (eU (x_call b c_common_divisor (aa (aL (ab 0) ae (aR (aA (i:=0) rfl))) (aa (aL (ab 0) ae (aR (aA (i:=1) rfl))) af)) ⟨_,_,rfl,rfl⟩) ae dF))) rfl
 · have e:dW .tuple x=false:=by simpa using ht
   have ef:jK x=false:=by cases x <;> first | rfl | cases e
   refine bN (PW.pt (bO (q:=true) (aO (aN (bA .tuple b (ab 0)))) λh=>(by rw [e] at h; cases h))) (λh=>?_) λh=>?_
   · refine aB j2 ?_
     rw [ef]
   · rw [Bool.or_true] at h; cases h
theorem c9 (F:Fun K "is_short_list" qual (top 11) f fd) (hb:∀ x ∈ ai,mg x=none) (y_MOST:∃ t,mg "MOST" = some (.int 7 t)):aI P w K mg base CX0 (k + 1) f fd ["thing"] (spD K a0):=by
 refine fnD F dn hb (by rintro _ _ ⟨_,rfl,_⟩; rfl) ?_
 rintro _ _ ⟨xs,rfl,rfl⟩ cdv A outer s H E b
 exact aB (cw (bA .list b (ab 0)) λh=>(dB (lS ae (a8 b (aa (ab 0) af) b6) (nY y_MOST) pD pD).1)) rfl
theorem j7 (F:Fun K "is_row" qual (top 12) f fd) (hb:∀ x ∈ ai,mg x=none) (c_is_short_list:Cal P w K mg base k "is_short_list" a0) (c_is_fraction:Cal P w K mg base k "is_fraction" aX):aI P w K mg base CX0 (k + 1) f fd ["thing"] (spD K eV):=by
 refine fnD F jL hb (by rintro _ _ ⟨_,rfl,_⟩; rfl) ?_
 rintro _ _ ⟨q,rfl,h1,h7,rfl⟩ cdv A outer s H E b
 refine aB (cw (x_call b c_is_short_list (aa (ab 0) af) ⟨_,rfl,rfl⟩) λh=>(dB (a8 b (aa (aU (cA (cmp 0 (f:=λ_=>.bl true) b (a6 (ab 0)) (b5 (f:=frD) (xs:=q) 0) (by rw [List.length_map]; omega) λi hi s0 H0 fp=>(x_call (b.comp s0 H0 _ fp) c_is_fraction (aa (ab 0) af) ⟨_,rfl,by rw [gp]⟩)))) af) (fN b.calm ((List.range (q.map frD).length).map λ_=>true) (by rw [List.map_map]; rfl))))) ?_
 rw [List.length_map,decide_eq_true (by omega),decide_eq_true (by omega),k5 _ _ λ_ _=>rfl]
 rfl
theorem gJ (F:Fun K "is_table" qual (top 13) f fd) (hb:∀ x ∈ ai,mg x=none) (c_is_short_list:Cal P w K mg base k "is_short_list" a0) (c_is_row:Cal P w K mg base k "is_row" eV):aI P w K mg base CX0 (k + 1) f fd ["thing"] (spD K cB):=by
 refine fnD F gG hb (by rintro _ _ ⟨_,_,_,rfl,_⟩; rfl) ?_
 rintro _ _ ⟨R,C,M,rfl,t,rfl⟩ cdv A outer s H E b
 have hl:(M.map rwQ).length=R:=by rw [List.length_map,t.len]
 have r1:=t.r1
 have r7:=t.r7
 have c1:=t.c1
 have c7:=t.c7
 refine aT (PW.pt (bO (aO (aN (x_call b c_is_short_list (aa (ab 0) af) ⟨_,rfl,rfl⟩))) λh=>(bo (aO (aN (a8 b (aa (aU (cA (cmp 0 (f:=λ_=>.bl true) b (a6 (ab 0)) (b5 (f:=rwQ) (xs:=M) []) (by rw [hl]; omega) λi hi s0 H0 fp=>(x_call (b.comp s0 H0 _ fp) c_is_row (aa (ab 0) af) ⟨_,rfl,?_,?_,rfl⟩)))) af) (fN b.calm ((List.range (M.map rwQ).length).map λ_=>true) (by rw [List.map_map]; rfl)))))))) ?_ ?_
 · rw [t.at_ (by rw [hl] at hi; exact hi)]; exact c1
 · rw [t.at_ (by rw [hl] at hi; exact hi)]; exact c7
 · rw [hl,decide_eq_true (by omega),decide_eq_true (by omega),k5 _ _ λ_ _=>rfl]; rfl
 have e0:atI (M.map rwQ) 0=some (rwQ (M.getD 0 [])):=nU [] (i:=0) (by rw [t.len]; omega)
 refine aB (a8 b (aa (aU (cA (cmp 0 (f:=λ_=>.bl (decide ((C:Int)=(C:Int)))) b (a6 (ab 0)) (b5 (f:=rwQ) (xs:=M) []) (by rw [hl]; omega) λi hi s0 H0 fp=>(eU (a8 (b.comp s0 H0 _ fp) (aa (ab 0) af) (mK (n:=C) (by rw [List.length_map]; exact t.at_ (by rw [hl] at hi; exact hi)))) (a8 (b.comp s0 H0 _ fp) (aa (aL (ab 1) ae (a4 e0)) af) (mK (n:=C) (by rw [List.length_map]; exact t.at_ (by omega)))) dF)))) af) (fN b.calm ((List.range (M.map rwQ).length).map λ_=>decide ((C:Int)=(C:Int))) (by rw [List.map_map]; rfl))) ?_
 rw [k5 _ _ λ_ _=>decide_eq_true rfl]
theorem fk (F:Fun K "look_table" qual (top 14) f fd) (hb:∀ x ∈ ai,mg x=none) (c_is_table:Cal P w K mg base k "is_table" cB):aI P w K mg base CX0 (k + 1) f fd ["thing"] (spD K bq):=by
 refine fnD F e8 hb (by rintro _ _ ⟨_,_,_,rfl,_⟩; rfl) ?_
 rintro _ _ ⟨R,C,M,rfl,t,rfl⟩ cdv A outer s H E b
 exact aT (aO (aN (x_call b c_is_table (aa (ab 0) af) ⟨R,C,M,rfl,t,rfl⟩))) rfl (bw rfl)
end
theorem qC {X:Cx} {C:Bool} {τ:List Sl} {pos:Pos} {n x:Str} (h:∃ t,X.mg n=some (.str x t)) (hg:Gl X n:=by rfl) (hd:(n == ("__debug__" : Str))=false:=by decide):PE X (.Name n pos) (dE X.K C τ (.d (.str x))):=by
 obtain ⟨t,hm⟩:=h
 exact gK (i8 (v:=.str x) hg hm ⟨t,rfl⟩ hd) λ_=>.str
noncomputable def g9 (t:List (List Rat)):D:=.lst (t.map λr=>.lst (r.map frD))
noncomputable def lH (t:List (List Rat)):Nd:=.l (t.map λr=>.l ((r.map frD).map .d))
theorem pX (xs:List D):fX (xs.map .d)=xs:=by
 induction xs with
 | nil=>rfl
 | cons x xs ih=>rw [List.map_cons,fX,ndD,ih]
theorem ky {α:Type} (f:α->List Nd):∀ t:List α,fX (t.map λr=>.l (f r))=t.map λr=>D.lst (fX (f r))
 | []=>rfl
 | r :: t=>by rw [List.map_cons,fX,ndD,ky f t]; rfl
theorem iU (t:List (List Rat)):ndD (lH t)=g9 t:=by
 unfold lH g9
 rw [ndD,ky]
 congr 1
 exact List.map_congr_left λr _=>by rw [pX]
theorem bu {α β:Type} (f:α->β) (xs:List α) (d:α) {m:Nat} (h:m=xs.length):(List.range m).map (λi=>f (xs.getD i d))=xs.map f:=by
 subst h
 refine List.ext_getElem (by simp) λi h1 h2=>?_
 have:i < xs.length:=by simpa using h2
 simp [this]
open Tx (shI shQ SmQ ch cs)
noncomputable def aV (ds:List D) (r:Sl):Prop:=∃ q:Rat,ds=[frD q]/\SmQ q/\r=.d (.str (shQ q))
section
variable {P:Program} {w:World} {K:PySem.W.Frag} {mg:Str->Option Value} {base:Heap} {k:Nat} {f:Addr} {fd:FuncData} {qual:Str}
theorem eA (F:Fun K "show_number" qual (top 17) f fd) (hb:∀ x ∈ ai,mg x=none):aI P w K mg base CX0 (k + 1) f fd ["number"] (spD K aV):=by
 refine fnD F cf hb (by rintro _ _ ⟨_,rfl,_⟩; rfl) ?_
 rintro _ _ ⟨q,rfl,h,rfl⟩ cdv A outer s H E b
 have nd:=cf.nd
 have l1:=Tx.bX q.num (k:=400) (by decide) h.n
 have l2:=Tx.bX ((q.den:Nat):Int) (k:=400) (by decide) h.d
 have sl:(1000:Nat)<=sizeLine:=by decide
 refine aC 1 nd (jG b (aa (aL (ab 0) ae (aR (aA (i:=0) rfl))) af) (dX (Tx.eg (Tx.p45 h.n)))) ?_
 refine aC 2 nd (jG b (aa (aL (ab 0) ae (aR (aA (i:=1) rfl))) af) (dX (Tx.eg (i:=((q.den:Nat):Int)) (Tx.p45 h.d)))) ?_
 refine aB (mW (aJ (ab 2) bz jw) (λh=>?_) λh=>?_) rfl
 · have h:=of_decide_eq_true h
   rw [Tx.s_1] at h
   have e:((q.den:Nat):Int)=1:=Tx.nC (i:=((q.den:Nat):Int)) (Tx.p45 (by assumption:SmQ q).d) (Tx.p45 (Tx.p6 (n:=1) (by decide))) h
   rw [Tx.kr (by omega)]
   exact ab 1
 · have h:=of_decide_eq_false h
   have e:q.den ≠ 1:=λz=>h (by rw [Tx.s_1,z]; rfl)
   rw [Tx.mD e,<- Tx.jF]
   refine qP (mO (ab 1) ?_) bz (mO (ab 2) ?_) ?_
   · exact Nat.le_trans l1 (by omega)
   · exact Nat.le_trans l2 (by omega)
   · have:("/" : Str).length=1:=by rw [Tx.jF]; rfl
     have l1:(shI q.num).length<=401:=l1
     have l2:(shI ((q.den:Nat):Int)).length<=401:=l2
     show (shI q.num).length + ("/" : Str).length + (shI ((q.den:Nat):Int)).length<=sizeLine
     omega
end
end K72
namespace K72
open PySem PySem.Spec PyProof.Rows L2 Hy
open Ev (D Den aq aG aE)
open Tx (shI shQ shR shT SmQ ch cs)
noncomputable def bP (ds:List D) (r:Sl):Prop:=∃ q:List Rat,ds=[rwQ q]/\q ≠ []/\q.length<=14/\(∀ x ∈ q,SmQ x)/\r=.d (.str (shR q))
open Tx (shI shQ shR shT SmQ ch cs)
noncomputable def bW (ds:List D) (r:Sl):Prop:=∃ (R C:Nat) (M:List (List Rat)),ds=[tbQ M]/\Tq R C M/\(∀ r ∈ M,∀ x ∈ r,SmQ x)/\r=.d (.str (shT M))
theorem Tq.l14 {R C:Nat} {M:List (List Rat)} (t:Tq R C M):M ≠ []/\M.length<=7/\∀ r ∈ M,r.length<=14/\r ≠ []:=by
 have h1:=t.r1
 have h7:=t.r7
 have c1:=t.c1
 have c7:=t.c7
 refine ⟨λz=>?_,by rw [t.len]; exact h7,λr hr=>⟨by rw [t.row r hr]; omega,λz=>?_⟩⟩
 · have:=t.len
   rw [z] at this
   simp at this
   omega
 · have:=t.row r hr
   rw [z] at this
   simp at this
   omega
noncomputable def bg (ds:List D) (r:Sl):Prop:=∃ x:Str,ds=[.str x]/\r=.d .non
section
variable {P:Program} {w:World} {K:PySem.W.Frag} {mg:Str->Option Value} {base:Heap} {k:Nat} {f:Addr} {fd:FuncData} {qual:Str}
theorem gX (F:Fun K "show_row" qual (top 18) f fd) (hb:∀ x ∈ ai,mg x=none) (c_show_number:Cal P w K mg base k "show_number" aV) (c_is_fraction:Cal P w K mg base k "is_fraction" aX):aI P w K mg base CX0 (k + 1) f fd ["row"] (spD K bP):=by
 refine fnD F hJ hb (by rintro _ _ ⟨_,rfl,_⟩; rfl) ?_
 rintro _ _ ⟨q,rfl,q0,q14,sm,rfl⟩ cdv A outer s H E b
 have lp:0 < q.length:=List.length_pos_iff.mpr q0
 refine aT (PW.pt (bO (aO (aN (bA .list b (ab 0)))) λh=>(bO (aJ (a8 b (aa (ab 0) af) b6) ae dF) λh=>(bo (aO (aN (a8 b (aa (aU (cA (cmp 0 (g:=λi=>frD (q.getD i 0)) (f:=λ_=>.bl true) b (a6 (ab 0)) (b5 (f:=frD) (xs:=q) 0) (by rw [List.length_map]; omega) λi hi s0 H0 fp=>show PE _ _ (dE K true _ (.d (.bl true))) by rw [<- gp (q.getD i 0)]; exact x_call (b.comp s0 H0 _ fp) c_is_fraction (aa (ab 0) af) ⟨_,rfl,rfl⟩))) af) (fN b.calm (List.replicate q.length true) ?_)))))))) ?_ ?_
 · rw [List.length_map,List.map_replicate]
   exact List.eq_replicate_iff.mpr ⟨by simp,λb hb=>by obtain ⟨_,_,rfl⟩:=List.mem_map.mp hb; rfl⟩
 · rw [List.length_map,decide_eq_false (by omega),show dW Ty.list (rwQ q)=true from rfl]
   simp
 refine aB (s:=.d (.str (Txt.join (" " : Str) (q.map shQ)))) (eK (xs:=q.map shQ) bz (aU (x:=.lst ((q.map shQ).map .str)) (cA (cmp 0 (g:=λi=>frD (q.getD i 0)) (f:=λi=>.str (shQ (q.getD i 0))) b (a6 (ab 0)) (b5 (f:=frD) (xs:=q) 0) (by rw [List.length_map]; omega) λi hi s0 H0 fp=>x_call (b.comp s0 H0 _ fp) c_show_number (aa (ab 0) af) ⟨q.getD i 0,rfl,sm _ (bZ (by simpa using hi)),rfl⟩)) ?_) ?_) ?_
 · refine congrArg (λl=>some (D.lst l)) ?_
   rw [bu (λx=>D.str (shQ x)) q 0 (List.length_map ..),List.map_map]
   rfl
 · rw [Tx.gW]; exact Tx.iw sm q14
 · rw [Tx.gW]; rfl
theorem fm (F:Fun K "show_table" qual (top 19) f fd) (hb:∀ x ∈ ai,mg x=none) (c_look_table:Cal P w K mg base k "look_table" bq) (c_show_row:Cal P w K mg base k "show_row" bP):aI P w K mg base CX0 (k + 1) f fd ["table"] (spD K bW):=by
 refine fnD F eY hb (by rintro _ _ ⟨_,_,_,rfl,_⟩; rfl) ?_
 rintro _ _ ⟨R,C,M,rfl,t,sm,rfl⟩ cdv A outer s H E b
 obtain ⟨m0,m7,rl⟩:=t.l14
 refine ee (x_call b c_look_table (aa (ab 0) af) ⟨R,C,M,rfl,t,rfl⟩) ?_
 refine aB (s:=.d (.str (Txt.join ("\n" : Str) (M.map shR)))) (eK (xs:=M.map shR) bz (aU (x:=.lst ((M.map shR).map .str)) (cA (cmp 0 (g:=λi=>rwQ (M.getD i [])) (f:=λi=>.str (shR (M.getD i []))) b (a6 (ab 0)) (b5 (f:=rwQ) (xs:=M) []) (by rw [List.length_map]; omega) λi hi s0 H0 fp=>?_)) ?_) ?_) ?_
 · have mi:=bZ (xs:=M) (d:=[]) (i:=i) (by simpa using hi)
   exact x_call (b.comp s0 H0 _ fp) c_show_row (aa (ab 0) af) ⟨M.getD i [],rfl,(rl _ mi).2,(rl _ mi).1,sm _ mi,rfl⟩
 · refine congrArg (λl=>some (D.lst l)) ?_
   rw [bu (λx=>D.str (shR x)) M [] (List.length_map ..),List.map_map]
   rfl
 · rw [Tx.jz]; exact Tx.lq sm (λr hr=>(rl r hr).1) m7
 · rw [Tx.jz]; rfl
theorem fR (F:Fun K "look_text" qual (top 20) f fd) (hb:∀ x ∈ ai,mg x=none):aI P w K mg base CX0 (k + 1) f fd ["thing"] (spD K bg):=by
 refine fnD F fY hb (by rintro _ _ ⟨_,rfl,_⟩; rfl) ?_
 rintro _ _ ⟨x,rfl,rfl⟩ cdv A outer s H E b
 exact aT (aO (aN (bA .str b (ab 0)))) rfl (bw rfl)
end
end K72
namespace K72
open PySem PySem.Spec PyProof.Rows L2 Hy
open Ev (D Den aq aG aE)
open Tx (shI ch cs)
noncomputable def cH (ds:List D) (r:Sl):Prop:=∃ i:Int,ds=[.str (shI i)]/\i.natAbs < 10 ^ 400/\r=.d (.int i)
noncomputable def gI:Str:="0123456789"
theorem nW:∀ c,48<=c->c<=57->c ∈ gI.cps.toList:=by
 have:∀ c,c < 58->48<=c->c ∈ gI.cps.toList:=by decide +kernel
 exact λc h1 h2=>this c (by omega) h1
open Tx (shI shQ SmQ ch cs)
noncomputable def bJ (ds:List D) (r:Sl):Prop:=∃ q:Rat,ds=[.str (shQ q)]/\SmQ q/\r=.d (frD q)
section
variable {P:Program} {w:World} {K:PySem.W.Frag} {mg:Str->Option Value} {base:Heap} {k:Nat} {f:Addr} {fd:FuncData} {qual:Str}
theorem gF (F:Fun K "whole_in" qual (top 25) f fd) (hb:∀ x ∈ ai,mg x=none) (y_FIGURES:∃ t,mg "FIGURES" = some (.str gI t)):aI P w K mg base CX0 (k + 1) f fd ["text"] (spD K cH):=by
 refine fnD F dt hb (by rintro _ _ ⟨_,rfl,_⟩; rfl) ?_
 rintro _ _ ⟨i,rfl,h,rfl⟩ cdv A outer s H E b
 have nd:=dt.nd
 have h5:=Tx.p45 h
 have sl:(1000:Nat)<=sizeLine:=by decide
 have l1:=Tx.bX i (k:=400) (by decide) h
 have l2:=Tx.bX ((i.natAbs:Nat):Int) (k:=400) (by decide) h
 refine aC 1 nd (s:=.d (.str (shI ((i.natAbs:Nat):Int)))) (mW (aN (ke (ab 0) bz)) (λz=>?_) λz=>?_) ?_
 · rw [Tx.pB,Tx.ea] at z
   have z:=of_decide_eq_true z
   obtain ⟨m,rfl⟩:=Int.eq_negSucc_of_lt_zero z
   rw [show shI (((Int.negSucc m).natAbs:Nat):Int)=Txt.slice (shI (Int.negSucc m)) (some 1) none from (Tx.j8 m).symm]
   exact pw (ab 0) (iK ae) iJ (by omega)
 · rw [Tx.pB,Tx.ea] at z
   have z:=of_decide_eq_false z
   have e:((i.natAbs:Nat):Int)=i:=by omega
   rw [e]
   exact ab 0
 generalize hn:i.natAbs=n at l2 ⊢
 have cl:(cs (shI (n:Int))).length=(shI (n:Int)).length:=Tx.dq _
 have clen:(da (shI (n:Int))).length=(cs (shI (n:Int))).length:=by simp [da,cs]
 have cat:∀ j (hj:j < (da (shI (n:Int))).length),(da (shI (n:Int)))[j]=.str ⟨#[(cs (shI (n:Int))).getD j 0]⟩:=λj hj=>by
   rw [clen] at hj
   simp [da,cs] at hj ⊢
   simp [hj]
 have hd:∃ c r,cs (shI (n:Int))=c :: r:=List.exists_cons_of_ne_nil (Tx.iN n)
 obtain ⟨c0,r0,hc0⟩:=hd
 have tr:(List.range (cs (shI (n:Int))).length).map (λj=>decide ((cs (shI (n:Int))).getD j 0 ∈ gI.cps.toList))=List.replicate (cs (shI (n:Int))).length true:=by
   rw [List.eq_replicate_iff]
   refine ⟨by simp,λb hb=>?_⟩
   obtain ⟨j,hj,rfl⟩:=List.mem_map.mp hb
   have hj:=List.mem_range.mp hj
   have:=Tx.ck n _ (show (cs (shI (n:Int))).getD j 0 ∈ cs (shI (n:Int)) by simp [hj])
   exact decide_eq_true (nW _ this.1 this.2)
 refine aT (PW.pt (bO (aJ (ab 1) bz jw) λh=>(bo (aO (aN (a8 b (aa (aU (cA (cmp 0 (g:=λj=>.str ⟨#[(cs (shI (n:Int))).getD j 0]⟩) (f:=λj=>.bl (decide ((cs (shI (n:Int))).getD j 0 ∈ gI.cps.toList))) b (nA (ab 1) (Tx.k7 n)) cat (by rw [clen,cl]; omega) λj hj s0 H0 fp=>eU (ab 0) (qC y_FIGURES) qf))) af) (fN b.calm ((List.range (cs (shI (n:Int))).length).map λj=>decide ((cs (shI (n:Int))).getD j 0 ∈ gI.cps.toList)) (by rw [clen,List.map_map]; rfl)))))))) ?_ ?_
 · have e:decide (shI (n:Int)=("" : Str))=false:=decide_eq_false λz=>by
     have:=congrArg cs z
     rw [hc0] at this
     cases this
   rw [e,tr]
   simp
 have at0:atI (shI (n:Int)).cps.toList 0=some c0:=by
   rw [show (shI (n:Int)).cps.toList=c0 :: r0 from hc0]
   exact aA (i:=0) rfl
 refine aT (PW.pt (lx (aJ (aL (ab 1) ae (pC (by omega) at0)) bz jw) λh=>(iq (aJ (ab 0) bz fE)))) ?_ ?_
 · by_cases z:(⟨#[c0]⟩:Str)=("0" : Str)
   · have e0:c0=48:=by
       rw [Tx.c_0] at z
       have:=congrArg cs z
       exact List.cons.inj this |>.1
     have n0:=Tx.nu n (by rw [hc0,e0]; rfl)
     have i0:i=0:=by omega
     rw [decide_eq_true z,i0,decide_eq_true Tx.s_0.symm]
     rfl
   · rw [decide_eq_false z]; rfl
 obtain ⟨r1,r2⟩:=Tx.gg h5
 exact oj λpins=>aB (jG (b.xn pins) (aa (ab 0) af) (oH r1 r2)) rfl
theorem fT (F:Fun K "number_in" qual (top 24) f fd) (hb:∀ x ∈ ai,mg x=none) (c_whole_in:Cal P w K mg base k "whole_in" cH) (c_is_fraction:Cal P w K mg base k "is_fraction" aX):aI P w K mg base CX0 (k + 1) f fd ["text"] (spD K bJ):=by
 refine fnD F cT hb (by rintro _ _ ⟨_,rfl,_⟩; rfl) ?_
 rintro _ _ ⟨q,rfl,h,rfl⟩ cdv A outer s H E b
 have nd:=cT.nd
 have ln:=Tx.jb h
 refine aC 1 nd (s:=.o ((Txt.split (shQ q) ("/" : Str)).map .str)) (gu (ab 0) bz (by rw [Tx.jF]; rfl) (by omega)) ?_
 rw [Tx.jF,Tx.jI]
 by_cases z:q.den=1
 · rw [show Tx.pq q=[shI q.num] from if_pos z]
   refine oZ 1 ?_
   refine bN (aJ (a8 b (aa (ab 1) af) b6) ae dF) (λ_=>?_) λh=>by cases h
   refine aB (cy (aa (x_call b c_whole_in (aa (ab 0) af) ⟨q.num,by rw [Tx.kr z],h.n,rfl⟩) (aa ae af))) ?_
   unfold frD
   rw [z]
   rfl
 · rw [show Tx.pq q=[shI q.num,shI ((q.den:Nat):Int)] from if_neg z]
   refine oZ 1 ?_
   refine aT (aJ (a8 b (aa (ab 1) af) b6) ae dF) rfl ?_
   refine aT (aJ (a8 b (aa (ab 1) af) b6) ae iS) rfl ?_
   refine aC 2 nd (s:=.d (frD q)) (cy (aa (x_call b c_whole_in (aa (aL (ab 1) ae (a4 (aA (i:=0) rfl))) af) ⟨q.num,rfl,h.n,rfl⟩) (aa (x_call b c_whole_in (aa (aL (ab 1) ae (a4 (aA (i:=1) rfl))) af) ⟨((q.den:Nat):Int),rfl,h.d,rfl⟩) af))) ?_
   refine aT (PW.pt (bO (aJ (aL (ab 2) ae (aR (aA (i:=1) rfl))) ae dF) λh=>(bo (aO (aN (x_call b c_is_fraction (aa (ab 2) af) ⟨_,rfl,rfl⟩)))))) ?_ (aB (ab 2) rfl)
   rw [gp,decide_eq_false (by omega)]
   rfl
end
end K72
namespace K72
open PySem PySem.Spec PyProof.Rows L2 Hy
open Ev (D Den aq aG aE)
open Tx (shI shQ shR shT SmQ ch cs)
noncomputable def bf (ds:List D) (r:Sl):Prop:=∃ q:Rat,ds=[.str (shQ q)]/\SmQ q/\r=.d (frD q)
open Tx (shI shQ shR shT SmQ ch cs)
noncomputable def cR (ds:List D) (r:Sl):Prop:=∃ q:List Rat,ds=[.str (shR q)]/\q ≠ []/\q.length<=14/\(∀ x ∈ q,SmQ x)/\r=.o (q.map frD)
open Tx (shI shQ shR shT SmQ ch cs)
noncomputable def cC (ds:List D) (r:Sl):Prop:=∃ q:List Rat,ds=[.str (shR q)]/\q ≠ []/\q.length<=14/\(∀ x ∈ q,SmQ x)/\r=.o (q.map frD)
open Tx (shI shQ shR shT SmQ ch cs)
noncomputable def c8 (ds:List D) (r:Sl):Prop:=∃ (R C:Nat) (M:List (List Rat)),ds=[.str (shT M)]/\Tq R C M/\(∀ r ∈ M,∀ x ∈ r,SmQ x)/\r=.n (lH M)
open Tx (shI shQ shR shT SmQ ch cs)
noncomputable def bQ (ds:List D) (r:Sl):Prop:=∃ (R C:Nat) (M:List (List Rat)),ds=[.str (shT M)]/\Tq R C M/\(∀ r ∈ M,∀ x ∈ r,SmQ x)/\r=.n (lH M)
section
variable {P:Program} {w:World} {K:PySem.W.Frag} {mg:Str->Option Value} {base:Heap} {k:Nat} {f:Addr} {fd:FuncData} {qual:Str}
theorem ed (F:Fun K "read_number" qual (top 21) f fd) (hb:∀ x ∈ ai,mg x=none) (c_look_text:Cal P w K mg base k "look_text" bg) (c_number_in:Cal P w K mg base k "number_in" bJ):aI P w K mg base CX0 (k + 1) f fd ["text"] (spD K bf):=by
 refine fnD F dY hb (by rintro _ _ ⟨_,rfl,_⟩; rfl) ?_
 rintro _ _ ⟨q,rfl,h,rfl⟩ cdv A outer s H E b
 refine ee (x_call b c_look_text (aa (ab 0) af) ⟨_,rfl,rfl⟩) ?_
 exact aB (x_call b c_number_in (aa (ab 0) af) ⟨q,rfl,h,rfl⟩) rfl
theorem j4 (F:Fun K "row_in" qual (top 26) f fd) (hb:∀ x ∈ ai,mg x=none) (c_number_in:Cal P w K mg base k "number_in" bJ):aI P w K mg base CX0 (k + 1) f fd ["text"] (spD K cR):=by
 refine fnD F jR hb (by rintro _ _ ⟨_,rfl,_⟩; rfl) ?_
 rintro _ _ ⟨q,rfl,q0,q14,sm,rfl⟩ cdv A outer s H E b
 have ln:=Tx.jf sm q14
 have sp:(Txt.split (shR q) (" " : Str)).map D.str=q.map λx=>.str (shQ x):=by rw [Tx.gW,Tx.jZ q0 sm,List.map_map]; rfl
 refine aB (cA (cmp 0 (g:=λi=>.str (shQ (q.getD i 0))) (f:=λi=>frD (q.getD i 0)) b (a6 (aU (gu (ab 0) bz (by rw [Tx.gW]; rfl) (by omega)) (congrArg (λl=>some (D.lst l)) sp))) (b5 (f:=λx=>D.str (shQ x)) (xs:=q) 0) (by rw [List.length_map]; omega) λi hi s0 H0 fp=>x_call (b.comp s0 H0 _ fp) c_number_in (aa (ab 0) af) ⟨q.getD i 0,rfl,sm _ (bZ (by simpa using hi)),rfl⟩)) ?_
 rw [bu frD q 0 (List.length_map ..)]
theorem gY (F:Fun K "read_row" qual (top 22) f fd) (hb:∀ x ∈ ai,mg x=none) (c_look_text:Cal P w K mg base k "look_text" bg) (c_row_in:Cal P w K mg base k "row_in" cR):aI P w K mg base CX0 (k + 1) f fd ["text"] (spD K cC):=by
 refine fnD F hW hb (by rintro _ _ ⟨_,rfl,_⟩; rfl) ?_
 rintro _ _ ⟨q,rfl,h1,h2,h3,rfl⟩ cdv A outer s H E b
 refine ee (x_call b c_look_text (aa (ab 0) af) ⟨_,rfl,rfl⟩) ?_
 exact aB (x_call b c_row_in (aa (ab 0) af) ⟨q,rfl,h1,h2,h3,rfl⟩) rfl
theorem iM (F:Fun K "rows_in" qual (top 27) f fd) (hb:∀ x ∈ ai,mg x=none) (c_row_in:Cal P w K mg base k "row_in" cR):aI P w K mg base CX0 (k + 1) f fd ["text"] (spD K c8):=by
 refine fnD F iL hb (by rintro _ _ ⟨_,_,_,rfl,_⟩; rfl) ?_
 rintro _ _ ⟨R,C,M,rfl,t,sm,rfl⟩ cdv A outer s H E b
 obtain ⟨m0,m7,rl⟩:=t.l14
 have mi:∀ i,i < M.length->M.getD i [] ∈ M:=λi hi=>bZ (xs:=M) (d:=[]) (i:=i) hi
 have ln:=Tx.mm sm (λr hr=>(rl r hr).1) m7
 have sp:(Txt.split (shT M) ("\n" : Str)).map D.str=M.map λx=>.str (shR x):=by rw [Tx.jz,Tx.jO m0 sm λr hr=>(rl r hr).1,List.map_map]; rfl
 refine aB (oQ (qD 0 (g:=λi=>.str (shR (M.getD i []))) (f:=λi=>.l (((M.getD i []).map frD).map .d)) b (a6 (aU (gu (ab 0) bz (by rw [Tx.jz]; rfl) (by omega)) (congrArg (λl=>some (D.lst l)) sp))) (b5 (f:=λx=>D.str (shR x)) (xs:=M) []) (by rw [List.length_map]; omega) (λi hi s0 H0 fp=>x_call (b.comp s0 H0 _ fp) c_row_in (aa (ab 0) af) ⟨M.getD i [],rfl,(rl _ (mi i (by simpa using hi))).2,(rl _ (mi i (by simpa using hi))).1,sm _ (mi i (by simpa using hi)),rfl⟩) λj _=>rfl)) ?_
 rw [bu (λr=>Nd.l ((r.map frD).map .d)) M [] (List.length_map ..)]
 rfl
theorem fj (F:Fun K "read_table" qual (top 23) f fd) (hb:∀ x ∈ ai,mg x=none) (c_look_text:Cal P w K mg base k "look_text" bg) (c_rows_in:Cal P w K mg base k "rows_in" c8) (c_look_table:Cal P w K mg base k "look_table" bq):aI P w K mg base CX0 (k + 1) f fd ["text"] (spD K bQ):=by
 refine fnD F cv hb (by rintro _ _ ⟨_,_,_,rfl,_⟩; rfl) ?_
 rintro _ _ ⟨R,C,M,rfl,t,sm,rfl⟩ cdv A outer s H E b
 have nd:=cv.nd
 refine ee (x_call b c_look_text (aa (ab 0) af) ⟨_,rfl,rfl⟩) ?_
 refine aC 1 nd (x_call b c_rows_in (aa (ab 0) af) ⟨R,C,M,rfl,t,sm,rfl⟩) ?_
 refine ee (p3 (C':=true) 1 (x:=tbQ M) (x_call b c_look_table (aa (ab 1) af) ⟨R,C,M,rfl,t,rfl⟩) rfl rfl (congrArg some (iU M))) ?_
 exact iT 1 rfl
end
end K72
namespace K72
open PySem PySem.Spec PyProof.Rows L2 Hy
open Ev (D Den aq aG aE)
noncomputable def bG (ds:List D) (r:Sl):Prop:=∃ a b:Int,ds=[.int a,.int b]/\r=.d (.int (Int.gcd a b:Int))
noncomputable def cL (ds:List D) (r:Sl):Prop:=∃ (t b:Int) (q:Rat),ds=[.int t,.int b]/\0 < b/\Bd 8999 b/\(t:Rat)=q * (b:Rat)/\r=.d (frD q)
noncomputable def whw (x:D):Bool:=dW .int x && !dW .bool x
noncomputable def dk (ds:List D) (r:Sl):Prop:=∃ x,ds=[x]/\r=.d (.bl (whw x))
noncomputable def aW (ds:List D) (r:Sl):Prop:=∃ q:Rat,ds=[frD q,.int q.num,.int (q.den:Nat)]/\Sq 8000 q/\r=.d (.bl true)
theorem oM (q:Rat):(Int.gcd q.num (q.den:Nat):Int)=1:=by
 have:Nat.gcd q.num.natAbs q.den=1:=q.reduced
 rw [Int.gcd,Int.natAbs_natCast,this]
 rfl
noncomputable def bH (ds:List D) (r:Sl):Prop:=∃ t:List (List Rat),ds=[g9 t,g9 t]/\t.length<=1000/\(∀ i,i < t.length->(t.getD i []).length<=1000/\∀ j,j < (t.getD i []).length->Sq 8000 ((t.getD i []).getD j 0))/\r=.d (.bl true)
theorem oi {t:List (List Rat)} (i:Nat) (h:i < (eI (t.map λr=>D.lst (r.map frD)) (t.map λr=>D.lst (r.map frD))).length):(eI (t.map λr=>D.lst (r.map frD)) (t.map λr=>D.lst (r.map frD)))[i]=.tup [.lst ((t.getD i []).map frD),.lst ((t.getD i []).map frD)]:=by
 rw [gw]
 rw [bC,List.length_map] at h
 simp [show i < t.length by omega]
theorem pR {t u:List Rat} (i:Nat) (h:i < (eI (t.map frD) (u.map frD)).length):(eI (t.map frD) (u.map frD))[i]=.tup [frD (t.getD i 0),frD (u.getD i 0)]:=by
 rw [gw]
 rw [bC,List.length_map,List.length_map] at h
 simp [show i < t.length by omega,show i < u.length by omega]
open Tx (shI shQ shR shT SmQ ch cs)
noncomputable def bt (ds:List D) (r:Sl):Prop:=∃ q:Rat,ds=[frD q]/\SmQ q/\r=.d (.str (shQ q))
section
variable {P:Program} {w:World} {K:PySem.W.Frag} {mg:Str->Option Value} {base:Heap} {k:Nat} {f:Addr} {fd:FuncData} {qual:Str}
theorem fS (F:Fun K "_law_divisor" qual (top 32) f fd) (hb:∀ x ∈ ai,mg x=none):aI P w K mg base CX0 (k + 1) f fd ["_law_one_here","_law_other"] (spD K bG):=by
 refine fnD F cX hb (by rintro _ _ ⟨_,_,rfl,_⟩; rfl) ?_
 rintro _ _ ⟨x,y,rfl,rfl⟩ cdv A outer s H E b
 have nd:=cX.nd
 refine aC 0 nd (a8 b (aa (ab 0) af) fq) (aC 1 nd (a8 b (aa (ab 1) af) fq) ?_)
 rw [cV,cV]
 refine i4 (λn t τ=>∃ (g:Nat) (s2:Sl),Nat.gcd g n=Int.gcd x y/\t=(decide ((0:Int) < n))/\τ=[.d (.int g),.d (.int n),s2]) b ⟨_,_,_,_,rfl,rfl,rfl⟩ (λn t τ h=>?_) (λn τ h=>?_) λn τ h=>?_
 · obtain ⟨g,s2,_,rfl,rfl⟩:=h
   exact aJ (ab 1) ae oJ
 · obtain ⟨g,s2,hg,ht,rfl⟩:=h
   have hl:n ≠ 0:=λz=>by simp [z] at ht
   have e:(g:Int).fmod n=((g % n:Nat):Int):=by rw [Int.fmod_eq_emod_of_nonneg _ (by omega)]; rfl
   refine aC 2 nd (av (ab 0) (ab 1) (bb (by omega))) ?_
   rw [e]
   refine aC 0 nd (ab 1) (aC 1 nd (ab 2) (bw ⟨g % n,_,Nat.mod_lt g (Nat.pos_of_ne_zero hl),n,_,?_,rfl,rfl⟩))
   rw [<- hg,Nat.gcd_comm n,<- Nat.gcd_rec,Nat.gcd_comm]
 · obtain ⟨g,s2,hg,ht,rfl⟩:=h
   have hl:n=0:=by have:=of_decide_eq_false ht.symm; omega
   refine aB (ab 0) ?_
   rw [<- hg,hl,Nat.gcd_zero_right]
theorem jW (F:Fun K "_law_made" qual (top 33) f fd) (hb:∀ x ∈ ai,mg x=none) (c_l_divisor:Cal P w K mg base k "_law_divisor" bG):aI P w K mg base CX0 (k + 1) f fd ["_law_top","_law_bottom"] (spD K cL):=by
 refine fnD F fK hb (by rintro _ _ ⟨_,_,_,rfl,_⟩; rfl) ?_
 rintro _ _ ⟨t,c,q,rfl,h0,h1,hq,rfl⟩ cdv A outer s H E b
 have nd:=fK.nd
 have dv:aE (Int.gcd t c:Int):=(h1.gcd (by omega)).aE (nk (by omega)) (by decide)
 obtain ⟨e1,e2⟩:=ic h0 hq
 refine aC 2 nd (x_call b c_l_divisor (aa (ab 0) (aa (ab 1) af)) ⟨_,_,rfl,rfl⟩) (aB (cy (aa (av (ab 0) (ab 2) (bL dv)) (aa (av (ab 1) (ab 2) (bL dv)) af))) ?_)
 rw [gR,gR,<- e1,<- e2]
 rfl
theorem ig (F:Fun K "_law_whole" qual (top 37) f fd) (hb:∀ x ∈ ai,mg x=none):aI P w K mg base CX0 (k + 1) f fd ["_law_thing"] (spD K dk):=by
 refine fnD F iQ hb (by rintro _ _ ⟨_,rfl,_⟩; rfl) ?_
 rintro _ _ ⟨x,rfl,rfl⟩ cdv A outer s H E b
 exact aB (cw (bA .int b (ab 0)) λh=>(dB (mU (bA .bool b (ab 0))))) rfl
theorem eE (F:Fun K "_law_is_number" qual (top 38) f fd) (hb:∀ x ∈ ai,mg x=none) (c_l_whole:Cal P w K mg base k "_law_whole" dk) (c_l_divisor:Cal P w K mg base k "_law_divisor" bG):aI P w K mg base CX0 (k + 1) f fd ["_law_found","_law_top","_law_bottom"] (spD K aW):=by
 refine fnD F eD hb (by rintro _ _ ⟨_,rfl,_⟩; rfl) ?_
 rintro _ _ ⟨q,rfl,hq,rfl⟩ cdv A outer s H E b
 refine aT (PW.pt (bO (aO (aN (bA .tuple b (ab 0)))) λh=>(bO (aJ (a8 b (aa (ab 0) af) ly) ae iS) λh=>(bO (aO (aN (x_call b c_l_whole (aa (aL (ab 0) ae (aR (aA (i:=0) rfl))) af) ⟨_,rfl,rfl⟩))) λh=>(bo (aO (aN (x_call b c_l_whole (aa (aL (ab 0) ae (aR (aA (i:=1) rfl))) af) ⟨_,rfl,rfl⟩)))))))) rfl ?_
 refine aT (PW.pt (bO (aJ (aL (ab 0) ae (aR (aA (i:=1) rfl))) ae oB) λh=>(bo (aJ (x_call b c_l_divisor (aa (aL (ab 0) ae (aR (aA (i:=0) rfl))) (aa (aL (ab 0) ae (aR (aA (i:=1) rfl))) af)) ⟨_,_,rfl,rfl⟩) ae iS)))) ?_ ?_
 · rw [oM,decide_eq_false (show ¬ ((q.den:Nat):Int) < 1 by have:=den_pos q; omega)]
   rfl
 refine aB (eU (av (aL (ab 0) ae (aR (aA (i:=0) rfl))) (ab 2) (ba (hq.num.aG hq.den (by decide) (by decide)))) (av (ab 1) (aL (ab 0) ae (aR (aA (i:=1) rfl))) (ba (hq.num.aG hq.den (by decide) (by decide)))) dF) ?_
 rw [decide_eq_true rfl]
theorem gj (F:Fun K "_law_is_like" qual (top 39) f fd) (hb:∀ x ∈ ai,mg x=none) (c_l_is_number:Cal P w K mg base k "_law_is_number" aW):aI P w K mg base CX0 (k + 1) f fd ["_law_found","_law_due"] (spD K bH):=by
 refine fnD F cO hb (by rintro _ _ ⟨_,rfl,_⟩; rfl) ?_
 rintro _ _ ⟨t,rfl,ht,hr,rfl⟩ cdv A outer s H E b
 have nd:=cO.nd
 refine aT (PW.pt (bO (aO (aN (bA .list b (ab 0)))) λh=>(bo (aJ (a8 b (aa (ab 0) af) b6) (a8 b (aa (ab 1) af) b6) iS)))) ?_ ?_
 · rw [decide_eq_true rfl]; rfl
 refine iO 2 3 (λi τ=>∃ s2 s3 s4 s5,τ=[.d (g9 t),.d (g9 t),s2,s3,s4,s5]) b nd (mI b (ab 0) (ab 1)) oi ⟨_,_,_,_,rfl⟩ (λi hi τ h=>?_) λτ h=>?_
 · obtain ⟨s2,s3,s4,s5,rfl⟩:=h
   have hi:i < t.length:=by rw [bC,List.length_map] at hi; omega
   obtain ⟨h1,h2⟩:=hr i hi
   generalize t.getD i []=row at h1 h2
   refine aT (PW.pt (bO (aO (aN (bA .list b (ab 2)))) λh=>(bo (aJ (a8 b (aa (ab 2) af) b6) (a8 b (aa (ab 3) af) b6) iS)))) ?_ ?_
   · rw [decide_eq_true rfl]; rfl
   refine iO 4 5 (λi τ=>∃ s4 s5,τ=[.d (g9 t),.d (g9 t),.d (.lst (row.map frD)),.d (.lst (row.map frD)),s4,s5]) b nd (mI b (ab 2) (ab 3)) pR ⟨_,_,rfl⟩ (λj hj τ h=>?_) λτ h=>?_
   · obtain ⟨s4,s5,rfl⟩:=h
     have hj:j < row.length:=by rw [bC,List.length_map] at hj; omega
     refine aT (aO (aN (x_call b c_l_is_number (aa (ab 4) (aa (aL (ab 5) ae (aR (aA (i:=0) rfl))) (aa (aL (ab 5) ae (aR (aA (i:=1) rfl))) af))) ⟨row.getD j 0,rfl,h2 j hj,rfl⟩))) rfl (bw ⟨_,_,rfl⟩)
   · obtain ⟨s4,s5,rfl⟩:=h
     exact bw ⟨_,_,_,_,rfl⟩
 · obtain ⟨s2,s3,s4,s5,rfl⟩:=h
   exact aB j2 rfl
theorem iF (F:Fun K "_law_shown" qual (top 40) f fd) (hb:∀ x ∈ ai,mg x=none):aI P w K mg base CX0 (k + 1) f fd ["_law_number_here"] (spD K bt):=by
 refine fnD F il hb (by rintro _ _ ⟨_,rfl,_⟩; rfl) ?_
 rintro _ _ ⟨q,rfl,h,rfl⟩ cdv A outer s H E b
 have la:=Tx.bX q.num (k:=400) (by decide) h.n
 have lb:(shI ((q.den:Nat):Int)).length<=401:=Tx.bX ((q.den:Nat):Int) (k:=400) (by decide) h.d
 have sl:(10000:Nat)<=sizeLine:=by decide
 have ls:("/" : Str).length=1:=by rw [Tx.jF]; rfl
 refine bN (aJ (aL (ab 0) ae (aR (aA (i:=1) rfl))) ae dF) (λz=>?_) λz=>?_
 · have z:=of_decide_eq_true z
   refine aB (jG b (aa (aL (ab 0) ae (aR (aA (i:=0) rfl))) af) (dX (Tx.eg (Tx.p45 h.n)))) ?_
   rw [Tx.kr (by omega)]
   rfl
 · have z:=of_decide_eq_false z
   refine aB (s:=.d (.str (shI q.num++("/" : Str)++shI ((q.den:Nat):Int)))) (av (av (jG b (aa (aL (ab 0) ae (aR (aA (i:=0) rfl))) af) (dX (Tx.eg (Tx.p45 h.n)))) bz (kN (by show (shI q.num).length + _<=_; omega))) (jG b (aa (aL (ab 0) ae (aR (aA (i:=1) rfl))) af) (dX (Tx.eg (i:=((q.den:Nat):Int)) (Tx.p45 h.d)))) (kN (by rw [Tx.lG]; show (shI q.num).length + _ + (shI ((q.den:Nat):Int)).length<=_; omega))) ?_
   rw [Tx.jF,<- Tx.mD (by omega)]
end
end K72
namespace K72
open PySem PySem.Spec PyProof.Rows L2 Hy
open Ev (D Den aq aG aE)
open Tx (shI shQ shR shT SmQ ch cs)
noncomputable def cc (ds:List D) (r:Sl):Prop:=∃ (R C:Nat) (M:List (List Rat)),ds=[tbQ M]/\Tq R C M/\(∀ r ∈ M,∀ x ∈ r,SmQ x)/\r=.d (.str (shT M))
open Tx (shI shQ shR shT SmQ ch cs)
noncomputable def fO (ds:List D) (r:Sl):Prop:=∃ q:Rat,ds=[frD q]/\SmQ q/\r=.d (.bl true)
noncomputable def bD (ds:List D) (r:Sl):Prop:=∃ q:Rat,ds=[frD q]/\SmQ q/\r=.d (.bl true)
set_option exponentiation.threshold 4000 in
theorem jm {q:Rat} (h:SmQ q):Sq 8000 q:=by
 have e:(10:Nat) ^ 400 < 2 ^ 8000:=by decide +kernel
 exact ⟨Nat.lt_trans h.n e,Nat.lt_trans h.d e⟩
theorem pL (q:Rat):Ev.fb (frD q)/\Ev.eqD (frD q) (frD q)=true:=by
 unfold frD
 exact ⟨⟨by simp [Ev.cln,Ev.ff],by simp [Ev.dep,Ev.hX]⟩,by simp [Ev.eqD,Ev.gq]⟩
section
variable {P:Program} {w:World} {K:PySem.W.Frag} {mg:Str->Option Value} {base:Heap} {k:Nat} {f:Addr} {fd:FuncData} {qual:Str}
theorem gv (F:Fun K "_law_written" qual (top 41) f fd) (hb:∀ x ∈ ai,mg x=none) (c_l_shown:Cal P w K mg base k "_law_shown" bt):aI P w K mg base CX0 (k + 1) f fd ["_law_table_here"] (spD K cc):=by
 refine fnD F gC hb (by rintro _ _ ⟨_,_,_,rfl,_⟩; rfl) ?_
 rintro _ _ ⟨R,C,M,rfl,t,sm,rfl⟩ cdv A outer s H E b
 obtain ⟨m0,m7,rl⟩:=t.l14
 refine aB (s:=.d (.str (Txt.join ("\n" : Str) (M.map shR)))) (eK (xs:=M.map shR) bz (aU (x:=.lst ((M.map shR).map .str)) (cA (cmp 0 (g:=λi=>rwQ (M.getD i [])) (f:=λi=>.str (shR (M.getD i []))) b (a6 (ab 0)) (b5 (f:=rwQ) (xs:=M) []) (by rw [List.length_map]; omega) λi hi s0 H0 fp=>?_)) ?_) ?_) ?_
 · have mi:=bZ (xs:=M) (d:=[]) (i:=i) (by simpa using hi)
   obtain ⟨r14,_⟩:=rl _ mi
   have sr:=sm _ mi
   generalize M.getD i []=q at r14 sr ⊢
   have e:shR q=Txt.join (" " : Str) (q.map shQ):=by rw [Tx.gW]; rfl
   rw [e]
   refine eK (xs:=q.map shQ) bz (aU (x:=.lst ((q.map shQ).map .str)) (cA (cmp 0 (g:=λi=>frD (q.getD i 0)) (f:=λi=>.str (shQ (q.getD i 0))) (b.comp s0 H0 _ fp) (a6 (ab 0)) (b5 (f:=frD) (xs:=q) 0) (by rw [List.length_map]; omega) λj hj s1 H1 fp1=>x_call ((b.comp s0 H0 _ fp).comp s1 H1 _ fp1) c_l_shown (aa (ab 0) af) ⟨q.getD j 0,rfl,sr _ (bZ (by simpa using hj)),rfl⟩)) ?_) ?_
   · refine congrArg (λl=>some (D.lst l)) ?_
     rw [bu (λx=>D.str (shQ x)) q 0 (List.length_map ..),List.map_map]
     rfl
   · rw [Tx.gW]; exact Tx.iw sr r14
 · refine congrArg (λl=>some (D.lst l)) ?_
   rw [bu (λx=>D.str (shR x)) M [] (List.length_map ..),List.map_map]
   rfl
 · rw [Tx.jz]; exact Tx.lq sm (λr hr=>(rl r hr).1) m7
 · rw [Tx.jz]; rfl
theorem lD (F:Fun K "_law_one" qual (top 42) f fd) (hb:∀ x ∈ ai,mg x=none) (c_l_shown:Cal P w K mg base k "_law_shown" bt) (c_show_number:Cal P w K mg base k "show_number" aV) (c_l_is_number:Cal P w K mg base k "_law_is_number" aW) (c_read_number:Cal P w K mg base k "read_number" bf):aI P w K mg base CX0 (k + 1) f fd ["_law_number_here"] (spD K fO):=by
 refine fnD F hV hb (by rintro _ _ ⟨_,rfl,_⟩; rfl) ?_
 rintro _ _ ⟨q,rfl,h,rfl⟩ cdv A outer s H E b
 have nd:=hV.nd
 obtain ⟨e1,e2⟩:=pL q
 refine aC 1 nd (x_call b c_l_shown (aa (ab 0) af) ⟨q,rfl,h,rfl⟩) ?_
 refine aC 2 nd (x_call b c_show_number (aa (ab 0) af) ⟨q,rfl,h,rfl⟩) ?_
 refine aT (PW.pt (bO (aO (aN (bA .str b (ab 2)))) λh=>(bo (aJ (ab 2) (ab 1) fE)))) ?_ ?_
 · rw [decide_eq_true rfl]; rfl
 refine aB (s:=.d (.bl (true && Ev.eqD (frD q) (frD q)))) (cw (x_call b c_l_is_number (aa (x_call b c_read_number (aa (ab 1) af) ⟨q,rfl,h,rfl⟩) (aa (aL (ab 0) ae (aR (aA (i:=0) rfl))) (aa (aL (ab 0) ae (aR (aA (i:=1) rfl))) af))) ⟨q,rfl,jm h,rfl⟩) λ_=>(dB (eU (x_call b c_read_number (aa (ab 1) af) ⟨q,rfl,h,rfl⟩) (ab 0) (pM b e1 e1)))) (by rw [e2]; rfl)
theorem dC (F:Fun K "_law_read_again" qual (top 43) f fd) (hb:∀ x ∈ ai,mg x=none) (c_l_shown:Cal P w K mg base k "_law_shown" bt) (c_read_number:Cal P w K mg base k "read_number" bf) (c_l_is_number:Cal P w K mg base k "_law_is_number" aW) (c_show_number:Cal P w K mg base k "show_number" aV):aI P w K mg base CX0 (k + 1) f fd ["_law_number_here"] (spD K bD):=by
 refine fnD F bY hb (by rintro _ _ ⟨_,rfl,_⟩; rfl) ?_
 rintro _ _ ⟨q,rfl,h,rfl⟩ cdv A outer s H E b
 have nd:=bY.nd
 refine aC 1 nd (x_call b c_l_shown (aa (ab 0) af) ⟨q,rfl,h,rfl⟩) ?_
 refine aC 2 nd (x_call b c_read_number (aa (ab 1) af) ⟨q,rfl,h,rfl⟩) ?_
 exact aB (s:=.d (.bl (true && decide (shQ q=shQ q)))) (cw (x_call b c_l_is_number (aa (ab 2) (aa (aL (ab 0) ae (aR (aA (i:=0) rfl))) (aa (aL (ab 0) ae (aR (aA (i:=1) rfl))) af))) ⟨q,rfl,jm h,rfl⟩) λ_=>(dB (eU (x_call b c_show_number (aa (ab 2) af) ⟨q,rfl,h,rfl⟩) (ab 1) jw))) (by rw [decide_eq_true rfl]; rfl)
end
end K72
namespace K72
open PySem PySem.Spec PyProof.Rows L2 Hy
open Ev (D Den aq aG aE)
theorem ix0 {n:Nat} (h:0 < n):ixN n 0=some 0:=by
 unfold ixN
 rw [if_pos (by omega),if_pos (by omega)]
 rfl
open Tx (shI shQ shR shT SmQ ch cs)
noncomputable def er (ds:List D) (r:Sl):Prop:=∃ q:List Rat,ds=[rwQ q]/\q ≠ []/\q.length<=14/\(∀ x ∈ q,SmQ x)/\r=.d (.bl true)
open Tx (shI shQ shR shT SmQ ch cs)
noncomputable def cZ (ds:List D) (r:Sl):Prop:=∃ (R C:Nat) (M:List (List Rat)),ds=[tbQ M]/\Tq R C M/\(∀ r ∈ M,∀ x ∈ r,SmQ x)/\r=.d (.bl true)
section
variable {P:Program} {w:World} {K:PySem.W.Frag} {mg:Str->Option Value} {base:Heap} {k:Nat} {f:Addr} {fd:FuncData} {qual:Str}
theorem jV (F:Fun K "_law_line" qual (top 44) f fd) (hb:∀ x ∈ ai,mg x=none) (c_show_row:Cal P w K mg base k "show_row" bP) (c_read_row:Cal P w K mg base k "read_row" cC) (c_l_shown:Cal P w K mg base k "_law_shown" bt) (c_l_is_like:Cal P w K mg base k "_law_is_like" bH):aI P w K mg base CX0 (k + 1) f fd ["_law_row"] (spD K er):=by
 refine fnD F fx hb (by rintro _ _ ⟨_,rfl,_⟩; rfl) ?_
 rintro _ _ ⟨q,rfl,q0,q14,sm,rfl⟩ cdv A outer s H E b
 have nd:=fx.nd
 have like:∀ i,i < [q].length->([q].getD i []).length<=1000/\∀ j,j < ([q].getD i []).length->Sq 8000 (([q].getD i []).getD j 0):=λi hi=>by
   obtain rfl:i=0:=by simpa using hi
   exact ⟨by show q.length<=1000; omega,λj hj=>jm (sm _ (bZ (show j < q.length from hj)))⟩
 have e:shR q=Txt.join (" " : Str) (q.map shQ):=by rw [Tx.gW]; rfl
 refine aC 1 nd (s:=.d (.str (shR q))) (show PE _ _ (dE K true _ (.d (.str (shR q)))) by
   rw [e]
   refine eK (xs:=q.map shQ) bz (aU (x:=.lst ((q.map shQ).map .str)) (cA (cmp 0 (g:=λi=>frD (q.getD i 0)) (f:=λi=>.str (shQ (q.getD i 0))) b (a6 (ab 0)) (b5 (f:=frD) (xs:=q) 0) (by rw [List.length_map]; omega) λj hj s1 H1 fp1=>x_call (b.comp s1 H1 _ fp1) c_l_shown (aa (ab 0) af) ⟨q.getD j 0,rfl,sm _ (bZ (by simpa using hj)),rfl⟩)) ?_) ?_
   · refine congrArg (λl=>some (D.lst l)) ?_
     rw [bu (λx=>D.str (shQ x)) q 0 (List.length_map ..),List.map_map]
     rfl
   · rw [Tx.gW]; exact Tx.iw sm q14) ?_
 refine aC 2 nd (x_call b c_show_row (aa (ab 0) af) ⟨q,rfl,q0,q14,sm,rfl⟩) ?_
 generalize hx:shR q=x
 refine aT (PW.pt (bO (aO (aN (bA .str b (ab 2)))) λh=>(bo (aJ (ab 2) (ab 1) fE)))) ?_ ?_
 · rw [decide_eq_true rfl]; rfl
 refine hE 3 (λi τ=>∃ s3 s4,τ=[.d (rwQ q),.d (.str x),.d (.str x),s3,s4]) b nd (fL (n:=2) b ae (by decide) (by decide)) fA ⟨.un,.un,rfl⟩ (λi hi τ h=>?_) λτ h=>?_
 · obtain ⟨s3,s4,rfl⟩:=h
   refine aC 4 nd (x_call b c_read_row (aa (ab 1) af) ⟨q,by rw [hx],q0,q14,sm,rfl⟩) ?_
   refine aT (PW.pt (bO (aO (aN (x_call b c_l_is_like (aa (aU (cu (aa (gd 4) af))) (aa (aU (cu (aa (ab 0) af))) af)) ⟨[q],rfl,(show 1<=1000 by decide),like,rfl⟩))) λh=>(bo (aJ (x_call b c_show_row (aa (gd 4) af) ⟨q,rfl,q0,q14,sm,rfl⟩) (ab 1) fE)))) ?_ ?_
   · rw [hx,decide_eq_true rfl]; rfl
   exact k8 4 (xs:=q.map frD) ae (by rw [List.length_map]; omega) (bw ⟨_,_,rfl⟩)
 · obtain ⟨s3,s4,rfl⟩:=h
   exact aB j2 rfl
theorem ib (F:Fun K "_law_asked" qual (top 45) f fd) (hb:∀ x ∈ ai,mg x=none) (c_l_written:Cal P w K mg base k "_law_written" cc) (c_show_table:Cal P w K mg base k "show_table" bW) (c_read_table:Cal P w K mg base k "read_table" bQ) (c_l_is_like:Cal P w K mg base k "_law_is_like" bH):aI P w K mg base CX0 (k + 1) f fd ["_law_table_here"] (spD K cZ):=by
 refine fnD F eQ hb (by rintro _ _ ⟨_,_,_,rfl,_⟩; rfl) ?_
 rintro _ _ ⟨R,C,M,rfl,t,sm,rfl⟩ cdv A outer s H E b
 have nd:=eQ.nd
 obtain ⟨m0,m7,rl⟩:=t.l14
 have like:∀ i,i < M.length->(M.getD i []).length<=1000/\∀ j,j < (M.getD i []).length->Sq 8000 ((M.getD i []).getD j 0):=λi hi=>by
   have mi:=bZ (xs:=M) (d:=[]) hi
   exact ⟨by have:=(rl _ mi).1; omega,λj hj=>jm (sm _ mi _ (bZ hj))⟩
 refine aC 1 nd (x_call b c_l_written (aa (ab 0) af) ⟨R,C,M,rfl,t,sm,rfl⟩) ?_
 refine aC 2 nd (x_call b c_show_table (aa (ab 0) af) ⟨R,C,M,rfl,t,sm,rfl⟩) ?_
 generalize hx:shT M=x
 refine aT (PW.pt (bO (aO (aN (bA .str b (ab 2)))) λh=>(bo (aJ (ab 2) (ab 1) fE)))) ?_ ?_
 · rw [decide_eq_true rfl]; rfl
 refine hE 3 (λi τ=>∃ s3 s4,τ=[.d (tbQ M),.d (.str x),.d (.str x),s3,s4]) b nd (fL (n:=2) b ae (by decide) (by decide)) fA ⟨.un,.un,rfl⟩ (λi hi τ h=>?_) λτ h=>?_
 · obtain ⟨s3,s4,rfl⟩:=h
   obtain ⟨r0,M',rfl⟩:=List.exists_cons_of_ne_nil m0
   have l0:=(rl r0 (List.mem_cons_self ..)).1
   refine aC 4 nd (x_call b c_read_table (aa (ab 1) af) ⟨R,C,r0 :: M',by rw [hx],t,sm,rfl⟩) ?_
   refine aT (PW.pt (bO (aO (aN (x_call b c_l_is_like (aa (gd 4 rfl (congrArg some (iU (r0 :: M')))) (aa (ab 0) af)) ⟨r0 :: M',rfl,by omega,like,rfl⟩))) λh=>(bo (aJ (x_call b c_show_table (aa (gd 4 rfl (congrArg some (iU (r0 :: M')))) af) ⟨R,C,r0 :: M',rfl,t,sm,rfl⟩) (ab 1) fE)))) ?_ ?_
   · rw [hx,decide_eq_true rfl]; rfl
   refine lE (pz (lg 4) ae rfl rfl (m:=0) (ix0 (by simp))) ae rfl rfl rfl (by simp only [List.length_map]; omega) ?_
   refine lE (lg 4) (cu af) rfl rfl rfl ?_ (bw ⟨_,_,rfl⟩)
   simp only [List.length_map,List.length_cons,List.length_set] at m7 ⊢
   omega
 · obtain ⟨s3,s4,rfl⟩:=h
   exact aB j2 rfl
end
noncomputable def eO (ds:List D) (r:Sl):Prop:=∃ (ns:List Int) (k:Nat),ds=[.lst (ns.map .int),.int k]/\r=.d (.int (ns.getD k 0))
noncomputable def d9:Int->List Int->List Int
 | _,[]=>[]
 | c,b :: r=>c.fmod b :: d9 (c.fdiv b) r
noncomputable def lV (c:Int) (bs:List Int):Int:=bs.foldl (λc b=>c.fdiv b) c
noncomputable def oI (c:Int) (k:Nat) (b:Int):Int:=(((((c * 48271 + (k:Int) * k * 69621 + (k:Int) * 16807 + 11).fmod 2147483647) * 40692 + c + 31 * (k:Int)).fmod 2147483399).fdiv 7).fmod b
noncomputable def lK (c:Int) (bs:List Int):List Int:=(List.range bs.length).map λk=>oI c k (bs.getD k 0)
noncomputable def nums (c:Int) (bs:List Int):List Int:=if (10:Int) ^ (18:Int).toNat<=iW c then d9 c bs else lK c bs
theorem fH:∀ (bs:List Int) (c b:Int),d9 c (bs++[b])=d9 c bs++[(lV c bs).fmod b]
 | [],_,_=>rfl
 | a :: bs,c,b=>by rw [List.cons_append,d9,d9,fH bs]; rfl
theorem et:∀ (bs:List Int) (c:Int),(d9 c bs).length=bs.length
 | [],_=>rfl
 | _ :: bs,c=>congrArg (· + 1) (et bs _)
theorem cJ (c:Int) (bs:List Int):(nums c bs).length=bs.length:=by
 unfold nums
 split
 · exact et bs c
 · simp [lK]
theorem i3:∀ (bs:List Int) (c:Int),(∀ b ∈ bs,0 < b)->∀ (i:Nat),i < bs.length->0<=(d9 c bs).getD i 0/\(d9 c bs).getD i 0 < bs.getD i 0
 | b :: bs,c,h,0,_=>by
   have:=h b (List.mem_cons_self ..)
   exact ⟨Int.fmod_nonneg_of_pos c this,Int.fmod_lt_of_pos c this⟩
 | b :: bs,c,h,i + 1,hi=>by
   have:=i3 bs (c.fdiv b) (λx hx=>h x (List.mem_cons_of_mem _ hx)) i (by simpa using hi)
   simpa [d9] using this
theorem gc {c:Int} {bs:List Int} (h:∀ b ∈ bs,0 < b) {i:Nat} (hi:i < bs.length):0<=(nums c bs).getD i 0/\(nums c bs).getD i 0 < bs.getD i 0:=by
 unfold nums
 split
 · exact i3 bs c h i hi
 · have hp:0 < bs.getD i 0:=h _ (by simp [hi])
   have e:(lK c bs).getD i 0=oI c i (bs.getD i 0):=by simp [lK,hi]
   rw [e]
   exact ⟨Int.fmod_nonneg_of_pos _ hp,Int.fmod_lt_of_pos _ hp⟩
theorem take_snoc {α:Type} {xs:List α} {i:Nat} (d:α) (h:i < xs.length):xs.take (i + 1)=xs.take i++[xs.getD i d]:=by
 rw [List.take_add_one,List.getElem?_eq_getElem h]
 simp [h]
theorem iI {b:Int} (h0:0 < b) (h:b < 2 ^ 60):0 < b/\aE b:=⟨h0,mkD (by omega) (by omega)⟩
noncomputable def a3 (ds:List D) (r:Sl):Prop:=∃ (c:Int) (bs:List Int),ds=[.int c,.lst (bs.map .int)]/\bs.length<=10000/\(∀ b ∈ bs,0 < b/\aE b)/\r=.o ((nums c bs).map .int)
noncomputable def rsZ (c u:Int):Int:=if decide ((10:Int) ^ Int.toNat 18<=iW c)=true then c.fdiv u else c + u
noncomputable def eJ (ds:List D) (r:Sl):Prop:=∃ c u:Int,ds=[.int c,.int u]/\aE u/\r=.d (.int (rsZ c u))
theorem Qs.of {t b:Int} {q:Rat} {d v:Nat} (hb:0 < b) (h:(t:Rat)=q * (b:Rat)) (hd:Bd d b) (hv:t.natAbs<=2 ^ v):Qs d v q:=by
 obtain ⟨e1,e2⟩:=ic hb h
 refine ⟨by rw [e2]; exact hd.ediv _,?_⟩
 have g:=Int.gcd_dvd_left (a:=t) (b:=b)
 have h1:q.num.natAbs<=t.natAbs:=by rw [e1]; exact Int.natAbs_ediv_le_natAbs ..
 exact Nat.le_trans h1 (Nat.le_trans hv (Nat.le_mul_of_pos_right _ q.den_pos))
noncomputable def nmT (kd:Nat) (p:Int):Int:=if kd=1 then p.fmod 5 - 2 else if kd=3 then (p.fdiv 2).fmod (10 ^ 40) * (1 - 2 * p.fmod 2) else if kd=2 then p.fmod 10 else p.fmod 19 - 9
noncomputable def nmB (kd:Nat) (p:Int):Int:=if kd=1 then 1 else if kd=3 then 1 + (p.fdiv (2 * 10 ^ 40)).fmod (10 ^ 40 - 1) else if kd=2 then 1 + (p.fdiv 10).fmod 6 else 1 + (p.fdiv 19).fmod 6
noncomputable def nmQ (kd:Nat) (p:Int):Rat:=if kd=1 then ((p.fmod 5 - 2:Int):Rat) else ((nmT kd p:Int):Rat) / ((nmB kd p:Int):Rat)
noncomputable def kD (kd:Nat):Nat:=if kd=3 then 133 else 3
noncomputable def kV (kd:Nat):Nat:=if kd=3 then 133 else 4
theorem fmn {a b:Int} (h:0 < b):0<=a.fmod b/\a.fmod b < b:=⟨Int.fmod_nonneg_of_pos a h,Int.fmod_lt_of_pos a h⟩
theorem gz {kd:Nat} (p:Int):0 < nmB kd p/\Bd (kD kd) (nmB kd p):=by
 unfold nmB kD
 by_cases h1:kd=1
 · rw [if_pos h1,if_neg (by omega)]; exact ⟨by decide,by unfold Bd; decide⟩
 · rw [if_neg h1]
   by_cases h3:kd=3
   · rw [if_pos h3,if_pos h3]
     have:=fmn (a:=p.fdiv (2 * 10 ^ 40)) (b:=10 ^ 40 - 1) (by decide)
     refine ⟨by omega,?_⟩
     unfold Bd
     have:(10:Int) ^ 40 < 2 ^ 133:=by decide
     have e:((2 ^ 133:Nat):Int)=2 ^ 133:=by decide
     omega
   · rw [if_neg h3,if_neg h3]
     by_cases h2:kd=2
     · rw [if_pos h2]
       have:=fmn (a:=p.fdiv 10) (b:=6) (by decide)
       exact ⟨by omega,by unfold Bd; omega⟩
     · rw [if_neg h2]
       have:=fmn (a:=p.fdiv 19) (b:=6) (by decide)
       exact ⟨by omega,by unfold Bd; omega⟩
theorem nV {kd:Nat} (p:Int):(nmT kd p).natAbs<=2 ^ kV kd:=by
 unfold nmT kV
 by_cases h1:kd=1
 · rw [if_pos h1,if_neg (by omega)]
   have:=fmn (a:=p) (b:=5) (by decide)
   omega
 · rw [if_neg h1]
   by_cases h3:kd=3
   · rw [if_pos h3,if_pos h3]
     have h4:=fmn (a:=p.fdiv 2) (b:=10 ^ 40) (by decide)
     have h5:=fmn (a:=p) (b:=2) (by decide)
     have:(10:Int) ^ 40 < 2 ^ 133:=by decide
     have e:((2 ^ 133:Nat):Int)=2 ^ 133:=by decide
     rw [Int.natAbs_mul,show (1 - 2 * p.fmod 2).natAbs=1 by omega,Nat.mul_one]
     omega
   · rw [if_neg h3,if_neg h3]
     by_cases h2:kd=2
     · rw [if_pos h2]
       have:=fmn (a:=p) (b:=10) (by decide)
       omega
     · rw [if_neg h2]
       have:=fmn (a:=p) (b:=19) (by decide)
       omega
theorem kS {kd:Nat} (p:Int):((nmT kd p:Int):Rat)=nmQ kd p * ((nmB kd p:Int):Rat):=by
 unfold nmQ
 by_cases h1:kd=1
 · rw [if_pos h1]
   unfold nmT nmB
   rw [if_pos h1,if_pos h1]
   exact (Rat.mul_one _).symm
 · rw [if_neg h1]
   exact (Rat.div_mul_cancel (kB (gz p).1)).symm
theorem oR {kd:Nat} (p:Int):Qs (kD kd) (kV kd) (nmQ kd p):=Qs.of (gz p).1 (kS p) (gz p).2 (nV p)
noncomputable def cG (ds:List D) (r:Sl):Prop:=∃ (kd:Nat) (p:Int),ds=[.int (kd:Nat),.int p]/\kd < 4/\r=.d (frD (nmQ kd p))
theorem m40:aG ((2:Int) * 10 ^ 40) (10 ^ 40):=(show Bd 140 ((2:Int) * 10 ^ 40) by unfold Bd; decide).aG (show Bd 140 ((10:Int) ^ 40) by unfold Bd; decide) (by decide) (by decide)
theorem qr:aE ((2:Int) * 10 ^ 40):=(show Bd 140 ((2:Int) * 10 ^ 40) by unfold Bd; decide).aE (by decide) (by decide)
section
variable {P:Program} {w:World} {K:PySem.W.Frag} {mg:Str->Option Value} {base:Heap} {k:Nat} {f:Addr} {fd:FuncData} {qual:Str}
theorem ka (F:Fun K "_law_cell" qual (top 29) f fd) (hb:∀ x ∈ ai,mg x=none):aI P w K mg base CX0 (k + 1) f fd ["_law_script","_law_k"] (spD K eO):=by
 refine fnD F jy hb (by rintro _ _ ⟨_,_,rfl,_⟩; rfl) ?_
 rintro _ _ ⟨ns,n,rfl,rfl⟩ cdv A outer s H E b
 refine bN (aJ (ab 1) (a8 b (aa (ab 0) af) b6) oB) (λh=>?_) λh=>?_
 · have h:=of_decide_eq_true h
   rw [List.length_map] at h
   exact aB (aL (ab 0) (ab 1) (a4 (eX (by omega) (by omega)))) rfl
 · have h:=of_decide_eq_false h
   rw [List.length_map] at h
   refine aB ae ?_
   show Sl.d (.int 0)=_
   rw [getD_none (by omega)]
theorem gr (F:Fun K "_law_numbers" qual (top 30) f fd) (hb:∀ x ∈ ai,mg x=none):aI P w K mg base CX0 (k + 1) f fd ["_law_cell_here","_law_bases"] (spD K a3):=by
 refine fnD F cP hb (by rintro _ _ ⟨_,_,rfl,_⟩; rfl) ?_
 rintro _ _ ⟨c,bs,rfl,hl,hbs,rfl⟩ cdv A outer s H E b
 have nd:=cP.nd
 have hp:∀ i,i < bs.length->0 < bs.getD i 0/\aE (bs.getD i 0):=λi hi=>hbs _ (by simp [hi])
 refine aC 2 nd (cu af) ?_
 refine bN (aJ (a8 b (aa (ab 0) af) fq) (av ae ae (bM ⟨by decide,by decide,by decide⟩)) nc) (λh=>?_) λh=>?_
 · refine hE 3 (λi τ=>∃ s3,τ=[.d (.int (lV c (bs.take i))),.d (.lst (bs.map .int)),.o ((d9 c (bs.take i)).map .int),s3,.un,.un]) b nd (a6 (ab 1)) mR ⟨_,rfl⟩ (λi hi τ h=>?_) λτ h=>?_
   · obtain ⟨s3,rfl⟩:=h
     have hi:i < bs.length:=by simpa using hi
     obtain ⟨p1,p2⟩:=hp i hi
     refine k8 2 (av (ab 0) (ab 3) (bb (by omega))) ?_ ?_
     · rw [List.length_map,et,List.length_take]; omega
     refine aC 0 nd (av (ab 0) (ab 3) (bL p2)) (bw ?_)
     apply ex1
     show [Sl.d (.int ((lV c (bs.take i)).fdiv (bs.getD i 0))),_,Sl.o _,_,_,_]=_
     rw [take_snoc 0 hi,fH,List.map_append]
     unfold lV
     rw [List.foldl_append]
     rfl
   · obtain ⟨s3,rfl⟩:=h
     refine iT 2 ?_
     rw [List.length_map,List.take_of_length_le (Nat.le_refl _)]
     unfold nums
     rw [if_pos (of_decide_eq_true h)]
 · refine iO 4 3 (λi τ=>∃ s3 s4 s5,τ=[.d (.int c),.d (.lst (bs.map .int)),.o (((List.range i).map λk=>oI c k (bs.getD k 0)).map .int),s3,s4,s5]) b nd (px b (ab 1)) oU ⟨_,_,_,rfl⟩ (λi hi τ h=>?_) λτ h=>?_
   · obtain ⟨s3,s4,s5,rfl⟩:=h
     have hi:i < bs.length:=by rw [cS,List.length_map] at hi; exact hi
     obtain ⟨p1,p2⟩:=hp i hi
     refine aC 5 nd (av (av (av (av (av (ab 0) ae (ba (mkR (by decide)))) (av (av (ab 4) (ab 4) (ba (mkL (by omega)))) ae (ba (mkR (by decide)))) aZ) (av (ab 4) ae (ba (mkR (by decide)))) aZ) ae aZ) ae (bb (by decide))) ?_
     refine k8 2 (av (av (av (av (av (av (ab 5) ae (ba (mkR (by decide)))) (ab 0) aZ) (av ae (ab 4) (ba (mkL (by decide)))) aZ) ae (bb (by decide))) ae (bL (mkD (by decide) (by decide)))) (ab 3) (bb (by omega))) ?_ (bw ?_)
     · rw [List.length_map,List.length_map,List.length_range]; omega
     apply ex3
     rw [List.range_succ,List.map_append,List.map_append]
     rfl
   · obtain ⟨s3,s4,s5,rfl⟩:=h
     refine iT 2 ?_
     rw [cS,List.length_map]
     unfold nums
     rw [if_neg (of_decide_eq_false h)]
     rfl
theorem j0 (F:Fun K "_law_rest" qual (top 31) f fd) (hb:∀ x ∈ ai,mg x=none):aI P w K mg base CX0 (k + 1) f fd ["_law_cell_here","_law_used"] (spD K eJ):=by
 refine fnD F jY hb (by rintro _ _ ⟨_,_,rfl,_⟩; rfl) ?_
 rintro _ _ ⟨c,u,rfl,h0,rfl⟩ cdv A outer s H E b
 refine bN (aJ (a8 b (aa (ab 0) af) fq) (av ae ae (bM ⟨by decide,by decide,by decide⟩)) nc) (λh=>?_) λh=>?_
 · refine aB (av (ab 0) (ab 1) (bL h0)) ?_
   unfold rsZ
   rw [if_pos (show decide ((10:Int) ^ Int.toNat 18<=iW c)=true from h)]
 · refine aB (av (ab 0) (ab 1) aZ) ?_
   unfold rsZ
   rw [if_neg (λz=>by rw [show decide ((10:Int) ^ Int.toNat 18<=iW c)=false from h] at z; cases z)]
theorem gQ (F:Fun K "_law_number" qual (top 34) f fd) (hb:∀ x ∈ ai,mg x=none) (c_l_made:Cal P w K mg base k "_law_made" cL):aI P w K mg base CX0 (k + 1) f fd ["_law_kind","_law_part"] (spD K cG):=by
 refine fnD F du hb (by rintro _ _ ⟨_,_,rfl,_⟩; rfl) ?_
 rintro _ _ ⟨kd,p,rfl,h4,rfl⟩ cdv A outer s H E b
 have nd:=du.nd
 obtain ⟨b0,b1⟩:=gz (kd:=kd) p
 have b2:Bd 8999 (nmB kd p):=b1.mono (by unfold kD; split <;> decide)
 have hm:=kS (kd:=kd) p
 refine bN (aJ (ab 0) ae dF) (λh=>?_) λh=>?_
 · have h1:kd=1:=by have:=of_decide_eq_true h; omega
   refine aB (cy (aa (av (av (ab 1) ae (bb (by decide))) ae jc) (aa ae af))) ?_
   unfold nmQ
   rw [if_pos h1]
   rfl
 have n1:¬ kd=1:=by have:=of_decide_eq_false h; omega
 refine bN (aJ (ab 0) ae dF) (λh=>?_) λh=>?_
 · have h3:kd=3:=by have:=of_decide_eq_true h; omega
   have eT:nmT kd p=(p.fdiv 2).fmod (10 ^ 40) * (1 - 2 * p.fmod 2):=by unfold nmT; rw [if_neg n1,if_pos h3]
   have eB:nmB kd p=1 + (p.fdiv (2 * 10 ^ 40)).fmod (10 ^ 40 - 1):=by unfold nmB; rw [if_neg n1,if_pos h3]
   rw [eT] at hm
   rw [eB] at hm b0 b2
   refine aC 2 nd (av (av (av (ab 1) ae (bL (mkD (by decide) (by decide)))) (av ae ae (bM ⟨by decide,by decide,by decide⟩)) (bb (by decide))) (av ae (av ae (av (ab 1) ae (bb (by decide))) (ba (mkL (by decide)))) jc) (ba (mkR ?_))) ?_
   · have:=fmn (a:=p) (b:=2) (by decide); omega
   exact aB (x_call b c_l_made (aa (ab 2) (aa (av ae (av (av (ab 1) (av ae (av ae ae (bM ⟨by decide,by decide,by decide⟩)) (ba (mkL (by decide)))) (bL qr)) (av (av ae ae (bM ⟨by decide,by decide,by decide⟩)) ae jc) (bb (by decide))) aZ) af)) ⟨_,_,nmQ kd p,rfl,b0,b2,hm,rfl⟩) rfl
 have n3:¬ kd=3:=by have:=of_decide_eq_false h; omega
 refine bN (aJ (ab 0) ae dF) (λh=>?_) λh=>?_
 · have h2:kd=2:=by have:=of_decide_eq_true h; omega
   have eT:nmT kd p=p.fmod 10:=by unfold nmT; rw [if_neg n1,if_neg n3,if_pos h2]
   have eB:nmB kd p=1 + (p.fdiv 10).fmod 6:=by unfold nmB; rw [if_neg n1,if_neg n3,if_pos h2]
   rw [eT] at hm
   rw [eB] at hm b0 b2
   exact aB (x_call b c_l_made (aa (av (ab 1) ae (bb (by decide))) (aa (av ae (av (av (ab 1) ae (bL (mkD (by decide) (by decide)))) ae (bb (by decide))) aZ) af)) ⟨_,_,nmQ kd p,rfl,b0,b2,hm,rfl⟩) rfl
 · have n2:¬ kd=2:=by have:=of_decide_eq_false h; omega
   have eT:nmT kd p=p.fmod 19 - 9:=by unfold nmT; rw [if_neg n1,if_neg n3,if_neg n2]
   have eB:nmB kd p=1 + (p.fdiv 19).fmod 6:=by unfold nmB; rw [if_neg n1,if_neg n3,if_neg n2]
   rw [eT] at hm
   rw [eB] at hm b0 b2
   exact aB (x_call b c_l_made (aa (av (av (ab 1) ae (bb (by decide))) ae jc) (aa (av ae (av (av (ab 1) ae (bL (mkD (by decide) (by decide)))) ae (bb (by decide))) aZ) af)) ⟨_,_,nmQ kd p,rfl,b0,b2,hm,rfl⟩) rfl
end
theorem atR {row:List Int} {j:Nat} (h:j < row.length):atI (row.map D.int) (j:Int)=some (.int (row.getD j 0)):=eX (i:=(j:Int)) (by omega) (by omega)
noncomputable def tlB (kd:Nat):Int:=if kd=0 then 114 else if kd=1 then 5 else if kd=2 then 60 else 2 * 10 ^ 40 * 10 ^ 40
noncomputable def tlP (c:Int) (n kd:Nat):List Int:=nums c (List.replicate n (tlB kd))
noncomputable def tlM (c:Int) (R C kd:Nat):List (List Rat):=(List.range R).map λi=>(List.range C).map λj=>nmQ kd ((tlP c (R * C) kd).getD (C * i + j) 0)
theorem p7 {kd:Nat} (h:kd < 4):atI [D.int 114,.int 5,.int 60,.int (2 * 10 ^ 40 * 10 ^ 40)] (kd:Int)=some (.int (tlB kd)):=by
 rcases (by omega:kd=0\/kd=1\/kd=2\/kd=3) with rfl | rfl | rfl | rfl <;> rfl
theorem nL {kd:Nat}:0 < tlB kd/\aE (tlB kd):=by
 unfold tlB
 split
 · exact iI (by decide) (by decide)
 · split
   · exact iI (by decide) (by decide)
   · split
     · exact iI (by decide) (by decide)
     · exact ⟨by decide,(show Bd 280 ((2:Int) * 10 ^ 40 * 10 ^ 40) by unfold Bd; decide +kernel).aE (by decide) (by decide)⟩
theorem kj {c:Int} {R C kd:Nat} (h1:1<=R) (h2:R<=7) (h3:1<=C) (h4:C<=7):Tq R C (tlM c R C kd):=⟨h1,h2,h3,h4,by simp [tlM],λr hr=>by
 unfold tlM at hr
 obtain ⟨i,_,rfl⟩:=List.mem_map.mp hr
 simp⟩
theorem nH {c:Int} {R C kd:Nat}:∀ r ∈ tlM c R C kd,∀ x ∈ r,Qs (kD kd) (kV kd) x:=λr hr x hx=>by
 unfold tlM at hr
 obtain ⟨i,_,rfl⟩:=List.mem_map.mp hr
 obtain ⟨j,_,rfl⟩:=List.mem_map.mp hx
 exact oR _
noncomputable def c3 (ds:List D) (r:Sl):Prop:=∃ (c:Int) (R C kd:Nat),ds=[.int c,.int (R:Nat),.int (C:Nat),.int (kd:Nat)]/\R<=7/\C<=7/\kd < 4/\r=.o ((tlM c R C kd).map rwQ)
section
variable {P:Program} {w:World} {K:PySem.W.Frag} {mg:Str->Option Value} {base:Heap} {k:Nat} {f:Addr} {fd:FuncData} {qual:Str}
set_option maxHeartbeats 4000000 in
theorem iD (F:Fun K "_law_table" qual (top 35) f fd) (hb:∀ x ∈ ai,mg x=none) (c_l_numbers:Cal P w K mg base k "_law_numbers" a3) (c_l_number:Cal P w K mg base k "_law_number" cG):aI P w K mg base CX0 (k + 1) f fd ["_law_cell_here","_law_many","_law_wide","_law_kind"] (spD K c3):=by
 refine fnD F dU hb (by rintro _ _ ⟨_,_,_,_,rfl,_⟩; rfl) ?_
 rintro _ _ ⟨c,R,C,kd,rfl,r7,c7,k4,rfl⟩ cdv A outer s H E b
 have nd:=dU.nd
 have rc:R * C<=49:=Nat.mul_le_mul r7 c7
 have eRC:(R:Int) * (C:Int)=((R * C:Nat):Int):=by rw [Int.natCast_mul]
 refine aC 4 nd (aL (aU (cu (aa ae (aa ae (aa ae (aa (av (av ae (av ae ae (bM ⟨by decide,by decide,by decide⟩)) (ba (mkL (by decide)))) (av ae ae (bM ⟨by decide,by decide,by decide⟩)) (ba m40)) af)))))) (ab 3) (a4 (p7 k4))) ?_
 refine aC 5 nd (aU (x_call b c_l_numbers (aa (ab 0) (aa (aU (cA (cmp 0 (f:=λ_=>.int (tlB kd)) b (fL (n:=((R * C:Nat):Int)) b (by rw [<- eRC]; exact av (ab 1) (ab 2) (ba (mkL (by omega)))) (by omega) (by omega)) fA (by rw [aY]; omega) λi hi s0 H0 fp=>(ab 1)))) af)) ⟨c,List.replicate (R * C) (tlB kd),?_,?_,?_,rfl⟩)) ?_
 · rw [aY,Int.toNat_natCast,List.map_replicate]
   refine congrArg (λl=>[D.int c,D.lst l]) (List.ext_getElem (by simp) λi h1 h2=>by simp)
 · rw [List.length_replicate]; omega
 · intro x hx
   rw [(List.mem_replicate.mp hx).2]
   exact nL
 have lp:(tlP c (R * C) kd).length=R * C:=by unfold tlP; rw [cJ,List.length_replicate]
 refine aB (cA (cmp 0 (f:=λi=>rwQ ((List.range C).map λj=>nmQ kd ((tlP c (R * C) kd).getD (C * i + j) 0))) b (fL b (ab 1) (by omega) (by omega)) fA (by rw [aY]; omega) λi hi s0 H0 fp=>?_)) ?_
 · rw [aY,Int.toNat_natCast] at hi
   refine aU (cA (cmp 0 (f:=λj=>frD (nmQ kd ((tlP c (R * C) kd).getD (C * i + j) 0))) (b.comp s0 H0 _ fp) (fL (b.comp s0 H0 _ fp) (ab 3) (by omega) (by omega)) fA (by rw [aY]; omega) λj hj s1 H1 fp1=>?_)) ?_
   · rw [aY,Int.toNat_natCast] at hj
     have h1:C * i + j < R * C:=by
       have:C * (i + 1)<=C * R:=Nat.mul_le_mul_left _ (by omega)
       rw [Nat.mul_succ,Nat.mul_comm C R] at this
       omega
     have e:(C:Int) * (i:Int) + (j:Int)=((C * i + j:Nat):Int):=by rw [Int.natCast_add,Int.natCast_mul]
     refine x_call ((b.comp s0 H0 _ fp).comp s1 H1 _ fp1) c_l_number (aa (ab 2) (aa (aL (ab 3) (av (av (ab 4) (ab 1) (ba (mkL (by omega)))) (ab 0) aZ) (a4 ?_)) af)) ⟨kd,_,rfl,k4,rfl⟩
     rw [e]
     exact atR (show C * i + j < (tlP c (R * C) kd).length by rw [lp]; exact h1)
   · rw [aY,Int.toNat_natCast]
     refine congrArg (λl=>some (D.lst l)) ?_
     rw [List.map_map]
     rfl
 · unfold tlM
   rw [aY,Int.toNat_natCast,List.map_map]
   rfl
end
noncomputable def z5 (c:Int):List Int:=nums c [8,4,4,7,7]
noncomputable def zR (c:Int):Nat:=(1 + if (z5 c).getD 0 0=1 then (z5 c).getD 3 0 else (z5 c).getD 1 0).toNat
noncomputable def zC (c:Int):Nat:=(1 + if (z5 c).getD 0 0=1 then (z5 c).getD 4 0 else (z5 c).getD 2 0).toNat
theorem mN (c:Int):(z5 c).length=5/\(0<=(z5 c).getD 1 0/\(z5 c).getD 1 0 < 4)/\(0<=(z5 c).getD 2 0/\(z5 c).getD 2 0 < 4)/\(0<=(z5 c).getD 3 0/\(z5 c).getD 3 0 < 7)/\(0<=(z5 c).getD 4 0/\(z5 c).getD 4 0 < 7):=by
 have hp:∀ b ∈ ([8,4,4,7,7]:List Int),0 < b:=by decide
 have lt:=λi (h:i < 5)=>gc (c:=c) hp (i:=i) h
 exact ⟨cJ ..,lt 1 (by decide),lt 2 (by decide),lt 3 (by decide),lt 4 (by decide)⟩
theorem pg (c:Int):(1<=zR c/\zR c<=7)/\(1<=zC c/\zC c<=7):=by
 obtain ⟨_,h1,h2,h3,h4⟩:=mN c
 unfold zR zC
 split <;> omega
noncomputable def ez (ds:List D) (r:Sl):Prop:=∃ c:Int,ds=[.int c]/\r=.d (.tup [.int (zR c:Nat),.int (zC c:Nat)])
open Tx (shI shQ shR shT SmQ ch cs)
set_option exponentiation.threshold 4000
noncomputable def gbs:List Int:=[10 ^ 50,10 ^ 60,10 ^ 60,10 ^ 60,10 ^ 60,3]
noncomputable def gps (c:Int):List Int:=nums c gbs
noncomputable def gT (ps:List Int) (i:Nat):Int:=(ps.take i).foldl (λa p=>a * 10 ^ 60 + p) 1
noncomputable def gB (ps:List Int):Int:=if ps.getD 5 0=0 then 1 else if ps.getD 5 0=1 then 1 + ps.getD 4 0 else 1 + gT ps 4 + ps.getD 4 0 * gT ps 4
noncomputable def gN (c:Int):Int:=if c.fmod 2=0 then gT (gps c) 4 else -gT (gps c) 4
noncomputable def grQ (c:Int):Rat:=(gN c:Rat) / (gB (gps c):Rat)
theorem jC:Bd 200 ((10:Int) ^ 60)/\Bd 200 ((10:Int) ^ 50):=by constructor <;> (unfold Bd; decide)
theorem kv:∀ b ∈ gbs,0 < b/\aE b:=λb hb=>by
 unfold gbs at hb
 simp only [List.mem_cons,List.not_mem_nil,or_false] at hb
 rcases hb with rfl | rfl | rfl | rfl | rfl | rfl
 · exact ⟨by decide,jC.2.aE (by decide) (by decide)⟩
 · exact ⟨by decide,jC.1.aE (by decide) (by decide)⟩
 · exact ⟨by decide,jC.1.aE (by decide) (by decide)⟩
 · exact ⟨by decide,jC.1.aE (by decide) (by decide)⟩
 · exact ⟨by decide,jC.1.aE (by decide) (by decide)⟩
 · exact iI (by decide) (by decide)
theorem ir (c:Int):(gps c).length=6/\(∀ i,i < 5->0<=(gps c).getD i 0/\(gps c).getD i 0 < 10 ^ 60)/\(0<=(gps c).getD 5 0/\(gps c).getD 5 0 < 3):=by
 have lt:=λi (h:i < 6)=>gc (c:=c) (λb hb=>(kv b hb).1) (i:=i) h
 refine ⟨cJ ..,λi hi=>?_,lt 5 (by decide)⟩
 have:=lt i (by omega)
 rcases (by omega:i=0\/i=1\/i=2\/i=3\/i=4) with rfl | rfl | rfl | rfl | rfl
 · have h:0<=(gps c).getD 0 0/\(gps c).getD 0 0 < 10 ^ 50:=this
   exact ⟨h.1,Int.lt_trans h.2 (by decide)⟩
 · exact this
 · exact this
 · exact this
 · exact this
theorem jq {ps:List Int} {i:Nat} (h:i < ps.length):gT ps (i + 1)=gT ps i * 10 ^ 60 + ps.getD i 0:=by
 unfold gT
 rw [take_snoc 0 h,List.foldl_append]
 rfl
theorem kT (c:Int):∀ i,i<=4->0 < gT (gps c) i/\gT (gps c) i < 10 ^ (60 * i + 1)
 | 0,_=>⟨by show (0:Int) < 1; decide,by show (1:Int) < 10 ^ 1; decide⟩
 | i + 1,h=>by
   obtain ⟨h1,h2⟩:=kT c i (by omega)
   obtain ⟨ln,hp,_⟩:=ir c
   have hi:=hp i (by omega)
   rw [jq (by omega)]
   have e:(10:Int) ^ (60 * (i + 1) + 1)=10 ^ (60 * i + 1) * 10 ^ 60:=by rw [<- Int.pow_add,show 60 * (i + 1) + 1=60 * i + 1 + 60 by omega]
   rw [e]
   generalize gT (gps c) i=t at *
   generalize (10:Int) ^ (60 * i + 1)=u at *
   have p:(0:Int) < 10 ^ 60:=by decide
   generalize (10:Int) ^ 60=v at *
   have h3:(t + 1) * v<=u * v:=Int.mul_le_mul_of_nonneg_right (by omega) (by omega)
   rw [Int.add_mul,Int.one_mul] at h3
   have h4:0 < t * v:=Int.mul_pos h1 p
   omega
theorem gT4 (c:Int):0 < gT (gps c) 4/\gT (gps c) 4 < 10 ^ 241:=kT c 4 (by decide)
theorem mG (c:Int):0 < gB (gps c)/\gB (gps c) < 10 ^ 302:=by
 obtain ⟨h1,h2⟩:=gT4 c
 obtain ⟨_,hp,_⟩:=ir c
 have h4:=hp 4 (by decide)
 have e1:(10:Int) ^ 302=10 * (10 ^ 60 * 10 ^ 241):=by rw [<- Int.pow_add]; show _=(10:Int) * 10 ^ 301; decide +kernel
 have e2:(10:Int) ^ 60 < 10 ^ 60 * 10 ^ 241:=by decide +kernel
 have e3:(10:Int) ^ 241 < 10 ^ 60 * 10 ^ 241:=by decide +kernel
 have p:(1:Int) < 10 ^ 60:=by decide
 have m:(gps c).getD 4 0 * gT (gps c) 4<=10 ^ 60 * 10 ^ 241:=Int.mul_le_mul (by omega) (by omega) (by omega) (by omega)
 have m0:0<=(gps c).getD 4 0 * gT (gps c) 4:=Int.mul_nonneg h4.1 (by omega)
 unfold gB
 rw [e1]
 generalize (10:Int) ^ 60 * 10 ^ 241=w at *
 generalize (10:Int) ^ 60=w2 at *
 generalize (10:Int) ^ 241=w3 at *
 generalize (gps c).getD 4 0 * gT (gps c) 4=z at *
 split
 · omega
 · split <;> omega
theorem lh (c:Int):SmQ (grQ c)/\(gN c:Rat)=grQ c * (gB (gps c):Rat):=by
 obtain ⟨h1,h2⟩:=gT4 c
 obtain ⟨b1,b2⟩:=mG c
 have e:(gN c:Rat)=grQ c * (gB (gps c):Rat):=(Rat.div_mul_cancel (kB b1)).symm
 obtain ⟨q1,q2⟩:=ic b1 e
 have n:(gN c).natAbs < 10 ^ 241:=by
   have e:((10 ^ 241:Nat):Int)=(10:Int) ^ 241:=by decide +kernel
   unfold gN
   split <;> omega
 have bn:(gB (gps c)).natAbs < 10 ^ 302:=by
   have e:((10 ^ 302:Nat):Int)=(10:Int) ^ 302:=by decide +kernel
   omega
 refine ⟨⟨?_,?_⟩,e⟩
 · have:=Int.natAbs_ediv_le_natAbs (gN c) (Int.gcd (gN c) (gB (gps c)):Int)
   rw [<- q1] at this
   exact Nat.lt_of_le_of_lt this (Nat.lt_trans n (by decide +kernel))
 · have:=Int.natAbs_ediv_le_natAbs (gB (gps c)) (Int.gcd (gN c) (gB (gps c)):Int)
   rw [<- q2] at this
   exact Nat.lt_of_le_of_lt this (Nat.lt_trans bn (by decide +kernel))
noncomputable def de (ds:List D) (r:Sl):Prop:=∃ c:Int,ds=[.int c]/\r=.d (frD (grQ c))
theorem mS {x:Int} (h:0 < x) (g:x < 10 ^ 241):Bd 900 x:=by
 have e:((10 ^ 241:Nat):Int)=(10:Int) ^ 241:=by decide +kernel
 have l:(10:Nat) ^ 241 < 2 ^ 900:=by decide +kernel
 unfold Bd
 omega
section
variable {P:Program} {w:World} {K:PySem.W.Frag} {mg:Str->Option Value} {base:Heap} {k:Nat} {f:Addr} {fd:FuncData} {qual:Str}
theorem jU (F:Fun K "_law_size" qual (top 36) f fd) (hb:∀ x ∈ ai,mg x=none) (c_l_numbers:Cal P w K mg base k "_law_numbers" a3):aI P w K mg base CX0 (k + 1) f fd ["_law_cell_here"] (spD K ez):=by
 refine fnD F ft hb (by rintro _ _ ⟨_,rfl,_⟩; rfl) ?_
 rintro _ _ ⟨c,rfl,rfl⟩ cdv A outer s H E b
 have nd:=ft.nd
 refine aC 1 nd (aU (x_call b c_l_numbers (aa (ab 0) (aa (aU (cu (aa ae (aa ae (aa ae (aa ae (aa ae af))))))) af)) ⟨c,[8,4,4,7,7],rfl,by decide,λb hb=>iI (by revert b; decide) (by revert b; decide),rfl⟩)) ?_
 obtain ⟨ln,h1,h2,h3,h4⟩:=mN c
 show PSs _ _ (dS K [_,.d (.lst ((z5 c).map .int))] _)
 have at5:∀ i:Nat,i < 5->atI ((z5 c).map D.int) (i:Int)=some (.int ((z5 c).getD i 0)):=λi hi=>by
   have:=eX (ns:=z5 c) (i:=(i:Int)) (by omega) (by rw [ln]; simpa using hi)
   simpa using this
 refine bN (aJ (aL (ab 1) ae (a4 (at5 0 (by decide)))) ae dF) (λz=>?_) λz=>?_
 · have z:=of_decide_eq_true z
   refine aB (cy (aa (av ae (aL (ab 1) ae (a4 (at5 3 (by decide)))) aZ) (aa (av ae (aL (ab 1) ae (a4 (at5 4 (by decide)))) aZ) af))) ?_
   unfold zR zC
   rw [if_pos z,if_pos z,Int.toNat_of_nonneg (by omega),Int.toNat_of_nonneg (by omega)]
 · have z:=of_decide_eq_false z
   refine aB (cy (aa (av ae (aL (ab 1) ae (a4 (at5 1 (by decide)))) aZ) (aa (av ae (aL (ab 1) ae (a4 (at5 2 (by decide)))) aZ) af))) ?_
   unfold zR zC
   rw [if_neg z,if_neg z,Int.toNat_of_nonneg (by omega),Int.toNat_of_nonneg (by omega)]
set_option exponentiation.threshold 4000 in
set_option maxHeartbeats 1000000 in
theorem iu (F:Fun K "_law_great" qual (top 46) f fd) (hb:∀ x ∈ ai,mg x=none) (c_l_numbers:Cal P w K mg base k "_law_numbers" a3) (c_l_made:Cal P w K mg base k "_law_made" cL):aI P w K mg base CX0 (k + 1) f fd ["_law_cell_here"] (spD K de):=by
 refine fnD F dR hb (by rintro _ _ ⟨_,rfl,_⟩; rfl) ?_
 rintro _ _ ⟨c,rfl,rfl⟩ cdv A outer s H E b
 have nd:=dR.nd
 refine aC 1 nd (aU (x_call b c_l_numbers (aa (ab 0) (aa (aU (cu (aa (av ae ae (bM ⟨by decide,by decide,by decide⟩)) (aa (av ae ae (bM ⟨by decide,by decide,by decide⟩)) (aa (av ae ae (bM ⟨by decide,by decide,by decide⟩)) (aa (av ae ae (bM ⟨by decide,by decide,by decide⟩)) (aa (av ae ae (bM ⟨by decide,by decide,by decide⟩)) (aa ae af)))))))) af)) ⟨c,gbs,rfl,by decide,kv,rfl⟩)) ?_
 obtain ⟨ln,hp,h5⟩:=ir c
 show PSs _ _ (dS K [_,.d (.lst ((gps c).map .int)),_,_,_] _)
 have at6:∀ i:Nat,i < 6->atI ((gps c).map D.int) (i:Int)=some (.int ((gps c).getD i 0)):=λi hi=>by
   have:=eX (ns:=gps c) (i:=(i:Int)) (by omega) (by rw [ln]; simpa using hi)
   simpa using this
 refine aC 2 nd ae ?_
 have cut:Hy.cutD ((gps c).map D.int) none (some 4)=((gps c).take 4).map D.int:=by rw [show (4:Int)=((4:Nat):Int) from rfl,kF,<- List.map_take]
 refine hE 3 (g:=λi=>.int (((gps c).take 4).getD i 0)) (λi τ=>i<=4/\∃ s3,τ=[.d (.int c),.d (.lst ((gps c).map .int)),.d (.int (gT (gps c) i)),s3,.un]) b nd (a6 (aU (pE (ab 1) iJ (iK ae)) (congrArg (λl=>some (D.lst l)) cut))) mR ⟨by decide,.un,rfl⟩ (λi hi τ h=>?_) λτ h=>?_
 · obtain ⟨_,s3,rfl⟩:=h
   have hi:i < 4:=by rw [List.length_map,List.length_take] at hi; omega
   have g1:=kT c i (by omega)
   have g4:gT (gps c) i < 10 ^ 241:=Int.lt_of_lt_of_le g1.2 (by
     rcases (by omega:i=0\/i=1\/i=2\/i=3) with rfl | rfl | rfl | rfl <;> decide +kernel)
   have e:((gps c).take 4).getD i 0=(gps c).getD i 0:=by simp [List.getD,List.getElem?_take,hi]
   rw [e]
   refine aC 2 nd (av (av (ab 2) (av ae ae (bM ⟨by decide,by decide,by decide⟩)) (ba ((mS g1.1 g4).aG jC.1 (by decide) (by decide)))) (ab 3) aZ) (bw ⟨by omega,.d (.int ((gps c).getD i 0)),?_⟩)
   rw [jq (by omega)]
   rfl
 obtain ⟨_,s3,rfl⟩:=h
 have l4:(((gps c).take 4).map D.int).length=4:=by rw [List.length_map,List.length_take,ln]; rfl
 rw [l4]
 obtain ⟨t1,t2⟩:=gT4 c
 obtain ⟨b1,b2⟩:=mG c
 obtain ⟨sm,qe⟩:=lh c
 have p4:=hp 4 (by decide)
 have bp4:Bd 200 ((gps c).getD 4 0):=by
   have e:((10 ^ 60:Nat):Int)=(10:Int) ^ 60:=by decide
   have l:(10:Nat) ^ 60 < 2 ^ 200:=by decide
   unfold Bd
   omega
 have bB:Bd 8999 (gB (gps c)):=by
   have e:((10 ^ 302:Nat):Int)=(10:Int) ^ 302:=by decide +kernel
   have l:(10:Nat) ^ 302 < 2 ^ 8999:=by decide +kernel
   unfold Bd
   omega
 have atB:atI [D.int 1,.int (1 + (gps c).getD 4 0),.int (1 + gT (gps c) 4 + (gps c).getD 4 0 * gT (gps c) 4)] ((gps c).getD 5 0)=some (.int (gB (gps c))):=by
   unfold gB
   rcases (by omega:(gps c).getD 5 0=0\/(gps c).getD 5 0=1\/(gps c).getD 5 0=2) with z | z | z
   · rw [z]; rfl
   · rw [z]; rfl
   · rw [z]; rfl
 have f2:=fmn (a:=c) (b:=2) (by decide)
 have atN:atI [D.int (gT (gps c) 4),.int (-gT (gps c) 4)] (c.fmod 2)=some (.int (gN c)):=by
   unfold gN
   rcases (by omega:c.fmod 2=0\/c.fmod 2=1) with z | z
   · rw [z]; rfl
   · rw [z]; rfl
 refine aC 4 nd (aL (aU (cu (aa ae (aa (av ae (aL (ab 1) ae (a4 (at6 4 (by decide)))) aZ) (aa (av (av ae (ab 2) aZ) (av (aL (ab 1) ae (a4 (at6 4 (by decide)))) (ab 2) (ba (bp4.aG (mS t1 t2) (by decide) (by decide)))) aZ) af))))) (aL (ab 1) ae (a4 (at6 5 (by decide)))) (a4 atB)) ?_
 exact aB (x_call b c_l_made (aa (aL (aU (cu (aa (ab 2) (aa (lr (ab 2)) af)))) (av (ab 0) ae (bb (by decide))) (a4 atN)) (aa (ab 4) af)) ⟨gN c,gB (gps c),grQ c,rfl,b1,bB,qe,rfl⟩) rfl
end
end K72
namespace K72
open PySem PySem.Spec PyProof.Rows L2 Hy
open Ev (D Den aq aG aE)
open Tx (shI shQ shR shT SmQ ch cs)
noncomputable def jl (ds:List D) (r:Sl):Prop:=∃ ns:List Int,ns.length<=63/\ds=[.lst (ns.map .int)]/\r=.d (.bl true)
set_option exponentiation.threshold 4000 in
theorem pG {kd:Nat} {q:Rat} (h:Qs (kD kd) (kV kd) q):SmQ q:=by
 have h1:kD kd<=133:=by unfold kD; split <;> decide
 have h2:kV kd<=133:=by unfold kV; split <;> decide
 have hd:q.den < 2 ^ 133:=Nat.lt_of_lt_of_le h.den (Nat.pow_le_pow_right (by decide) h1)
 have hv:q.num.natAbs<=2 ^ 133 * q.den:=Nat.le_trans h.val (Nat.mul_le_mul_right _ (Nat.pow_le_pow_right (by decide) h2))
 have hm:2 ^ 133 * q.den<=2 ^ 133 * 2 ^ 133:=Nat.mul_le_mul_left _ (Nat.le_of_lt hd)
 have e:2 ^ 133 * 2 ^ 133 < 10 ^ 400:=by decide +kernel
 have e2:2 ^ 133 < 10 ^ 400:=by decide +kernel
 exact ⟨by omega,by omega⟩
theorem mX {c:Int} {R C kd:Nat}:∀ r ∈ tlM c R C kd,∀ x ∈ r,SmQ x:=λr hr x hx=>pG (nH r hr x hx)
noncomputable def q2 (a:Int) (b:Nat) (h:b ≠ 0) (g:a.natAbs.Coprime b):Rat:=⟨a,b,h,g⟩
theorem cM {q:Rat} (h1:q.num.natAbs < 1000) (h2:q.den < 1000):SmQ q:=by
 have:(1000:Nat)<=10 ^ 400:=Nat.le_trans (by decide:1000<=10 ^ 3) (Nat.pow_le_pow_right (by decide) (by decide))
 exact ⟨by omega,by omega⟩
section
variable {P:Program} {w:World} {K:PySem.W.Frag} {mg:Str->Option Value} {base:Heap} {k:Nat} {f:Addr} {fd:FuncData} {qual:Str}
set_option maxHeartbeats 2000000 in
theorem oN (F:Fun K "law" qual (top 47) f fd) (hb:∀ x ∈ ai,mg x=none) (c_l_cell:Cal P w K mg base k "_law_cell" eO) (c_l_size:Cal P w K mg base k "_law_size" ez) (c_l_table:Cal P w K mg base k "_law_table" c3) (c_l_one:Cal P w K mg base k "_law_one" fO) (c_l_numbers:Cal P w K mg base k "_law_numbers" a3) (c_l_asked:Cal P w K mg base k "_law_asked" cZ) (c_l_line:Cal P w K mg base k "_law_line" er) (c_l_read_again:Cal P w K mg base k "_law_read_again" bD) (c_l_rest:Cal P w K mg base k "_law_rest" eJ) (c_l_great:Cal P w K mg base k "_law_great" de):aI P w K mg base CX0 (k + 1) f fd ["_law_script"] (spD K jl):=by
 refine fnD F kK hb (by rintro _ _ ⟨_,_,rfl,_⟩; rfl) ?_
 rintro _ _ ⟨ns,hn,rfl,rfl⟩ cdv A outer s H E b
 have nd:=kK.nd
 have hN:∃ N:Nat,(if (if ((ns.map D.int).length:Int) < 12 then ((ns.map D.int).length:Int) else 12) > 1 then (if ((ns.map D.int).length:Int) < 12 then ((ns.map D.int).length:Int) else 12) else 1)=(N:Nat)/\N<=12:=by
   refine ⟨(if (if ((ns.map D.int).length:Int) < 12 then ((ns.map D.int).length:Int) else 12) > 1 then (if ((ns.map D.int).length:Int) < 12 then ((ns.map D.int).length:Int) else 12) else 1).toNat,?_,?_⟩
   · repeat' split
     all_goals omega
   · repeat' split
     all_goals omega
 obtain ⟨N,eN,N6⟩:=hN
 refine hE 1 (λi τ=>∃ s1 s2 s3 s4 s5 s6 s7,τ=[.d (.lst (ns.map .int)),s1,s2,s3,s4,s5,s6,s7]) b nd (fL (n:=(N:Nat)) b (by rw [<- eN]; exact a8 b (aa ae (aa (a8 b (aa ae (aa (a8 b (aa (ab 0) af) b6) af)) (qb b.calm)) af)) (pZ b.calm)) (by omega) (by omega)) fA ⟨.un,.un,.un,.un,.un,.un,.un,rfl⟩ (λi hi τ h=>?_) λτ h=>?_
 · obtain ⟨s1,s2,s3,s4,s5,s6,s7,rfl⟩:=h
   refine aC 2 nd (x_call b c_l_cell (aa (ab 0) (aa (ab 1) af)) ⟨ns,i,rfl,rfl⟩) ?_
   generalize ns.getD i 0=c
   refine nq (x_call b c_l_size (aa (ab 2) af) ⟨c,rfl,rfl⟩) (qh b.calm (ju 3 nd (ju 4 nd nh))) ?_
   obtain ⟨hR,hC⟩:=pg c
   generalize zR c=R at hR ⊢
   generalize zC c=C at hC ⊢
   have pb:∀ b ∈ ([8,4,4,7,7,4]:List Int),0 < b/\aE b:=λb hb=>iI (by revert b; decide) (by revert b; decide)
   have l6:(nums c [8,4,4,7,7,4]).length=6:=cJ ..
   have p5:0<=(nums c [8,4,4,7,7,4]).getD 5 0/\(nums c [8,4,4,7,7,4]).getD 5 0 < 4:=gc (c:=c) (λb hb=>(pb b hb).1) (i:=5) (by decide)
   have a5:atI ((nums c [8,4,4,7,7,4]).map D.int) 5=some (.int ((nums c [8,4,4,7,7,4]).getD 5 0)):=eX (i:=5) (by decide) (by rw [l6]; decide)
   refine aC 5 nd (aL (aU (x_call b c_l_numbers (aa (ab 2) (aa (aU (cu (aa ae (aa ae (aa ae (aa ae (aa ae (aa ae af)))))))) af)) ⟨c,[8,4,4,7,7,4],rfl,by decide,pb,rfl⟩)) ae (a4 a5)) ?_
   generalize (nums c [8,4,4,7,7,4]).getD 5 0=p at p5 ⊢
   refine oe (M:=λτ=>∃ kd:Nat,kd < 4/\τ=[.d (.lst (ns.map .int)),.d (.int (i:Nat)),.d (.int c),.d (.int (R:Nat)),.d (.int (C:Nat)),.d (.int (kd:Nat)),s6,s7]) (PW.pt (lx (aJ (ab 1) ae oJ) λh=>(iq (aJ (av (ab 3) (ab 4) (ba (mkL (by omega)))) ae oJ)))) (λh=>?_) (λh=>?_) ?_
   · have f3:=fmn (a:=p) (b:=3) (by decide)
     refine aC 5 nd (av (ab 5) ae (bb (by decide))) (bw ⟨(p.fmod 3).toNat,by omega,?_⟩)
     rw [Int.toNat_of_nonneg f3.1]
     rfl
   · refine bw ⟨p.toNat,by omega,?_⟩
     rw [Int.toNat_of_nonneg p5.1]
     rfl
   rintro _ ⟨kd,hk,rfl⟩
   refine aT (aO (aN (x_call b c_l_asked (aa (aU (x_call b c_l_table (aa (x_call b c_l_rest (aa (ab 2) (aa ae af)) ⟨c,25088,rfl,(iI (by decide) (by decide)).2,rfl⟩) (aa (ab 3) (aa (ab 4) (aa (ab 5) af)))) ⟨_,R,C,kd,rfl,hR.2,hC.2,hk,rfl⟩)) af) ⟨R,C,_,rfl,kj hR.1 hR.2 hC.1 hC.2,mX,rfl⟩))) rfl ?_
   refine aC 6 nd (x_call b c_l_cell (aa (ab 0) (aa (av (ab 1) ae aZ) af)) ⟨ns,i + 1,rfl,rfl⟩) ?_
   generalize ns.getD (i + 1) 0=d
   have f4:=fmn (a:=d.fdiv 4) (b:=4) (by decide)
   obtain ⟨kd2,ek⟩:=Int.eq_ofNat_of_zero_le f4.1
   refine aC 7 nd (aU (x:=tbQ (tlM (d + (i:Int)) 2 7 kd2)) (x_call b c_l_table (aa (av (ab 6) (ab 1) aZ) (aa ae (aa ae (aa (av (av (ab 6) ae (bL (mkD (by decide) (by decide)))) ae (bb (by decide))) af)))) ⟨d + (i:Int),2,7,kd2,by rw [ek]; rfl,by decide,by decide,by omega,rfl⟩) rfl) ?_
   have t2:Tq 2 7 (tlM (d + (i:Int)) 2 7 kd2):=kj (by decide) (by decide) (by decide) (by decide)
   have sm2:∀ r ∈ tlM (d + (i:Int)) 2 7 kd2,∀ x ∈ r,SmQ x:=mX
   generalize tlM (d + (i:Int)) 2 7 kd2=M at t2 sm2 ⊢
   obtain ⟨r0,r1,rfl⟩:∃ r0 r1,M=[r0,r1]:=by
     have:=t2.len
     match M,this with
     | [r0,r1],_=>exact ⟨r0,r1,rfl⟩
   have lr0:=t2.row r0 (by simp)
   have lr1:=t2.row r1 (by simp)
   have s0:=sm2 r0 (by simp)
   have s1':=sm2 r1 (by simp)
   have f14:=fmn (a:=d) (b:=14) (by decide)
   obtain ⟨m,em⟩:∃ m:Nat,1 + d.fmod 14=(m:Nat):=⟨(1 + d.fmod 14).toNat,by omega⟩
   have cut:Hy.cutD (r0.map frD++r1.map frD) none (some (1 + d.fmod 14))=((r0++r1).take m).map frD:=by rw [em,kF,<- List.map_append,<- List.map_take]
   have ql:((r0++r1).take m).length<=14:=by rw [List.length_take,List.length_append]; omega
   have q0:(r0++r1).take m ≠ []:=λz=>by
     have:=congrArg List.length z
     rw [List.length_take,List.length_append,lr0,lr1,List.length_nil] at this
     omega
   have qs:∀ x ∈ (r0++r1).take m,SmQ x:=λx hx=>(List.mem_append.mp (List.mem_of_mem_take hx)).elim (s0 x) (s1' x)
   refine aT (PW.pt (bO (aO (aN (x_call b c_l_line (aa (aU (x:=rwQ ((r0++r1).take m)) (pE (aU (pP (aL (ab 7) ae (a4 (aA (i:=0) rfl))) (aL (ab 7) ae (a4 (aA (i:=1) rfl))) (by simp [lr0,lr1]))) iJ (iK (av ae (av (ab 6) ae (bb (by decide))) aZ))) (congrArg (λl=>some (D.lst l)) cut)) af) ⟨_,rfl,q0,ql,qs,rfl⟩))) λh=>(bo (aO (aN (a8 b (aa (aU (cA (cmp 0 (g:=λj=>frD (r0.getD j 0)) (f:=λ_=>.bl true) b (a6 (aL (ab 7) ae (a4 (aA (i:=0) rfl)))) (b5 (f:=frD) (xs:=r0) 0) (by rw [List.length_map]; omega) λj hj s0' H0 fp=>x_call (b.comp s0' H0 _ fp) c_l_one (aa (ab 0) af) ⟨r0.getD j 0,rfl,s0 _ (bZ (by simpa using hj)),rfl⟩))) af) (fN b.calm (List.replicate r0.length true) ?_))))))) ?_ ?_
   · rw [List.length_map,List.map_replicate]
     exact List.eq_replicate_iff.mpr ⟨by simp,λb hb=>by obtain ⟨_,_,rfl⟩:=List.mem_map.mp hb; rfl⟩
   · simp
   refine aT (PW.pt (lx (aJ (ab 1) ae oB) λh=>(iq (aO (aN (x_call b c_l_read_again (aa (x_call b c_l_great (aa (ab 2) af) ⟨c,rfl,rfl⟩) af) ⟨grQ c,rfl,(lh c).1,rfl⟩)))))) ?_ (bw ⟨_,_,_,_,_,_,_,rfl⟩)
   simp
 · obtain ⟨s1,s2,s3,s4,s5,s6,s7,rfl⟩:=h
   exact aB (s:=.d (.bl (true && (true && (true && true))))) (cw (x_call b c_l_one (aa (cy (aa ae (aa ae af))) af) ⟨q2 0 1 (by decide) (by decide),rfl,cM (by decide) (by decide),rfl⟩) λh=>(cw (x_call b c_l_one (aa (cy (aa (lr ae) (aa ae af))) af) ⟨q2 (-1) 2 (by decide) (by decide),rfl,cM (by decide) (by decide),rfl⟩) λh=>(cw (x_call b c_l_one (aa (cy (aa ae (aa ae af))) af) ⟨q2 10 3 (by decide) (by decide),rfl,cM (by decide) (by decide),rfl⟩) λh=>(dB (x_call b c_l_one (aa (cy (aa (lr ae) (aa ae af))) af) ⟨q2 (-100) 1 (by decide) (by decide),rfl,cM (by decide) (by decide),rfl⟩))))) rfl
end
end K72
namespace K72
open PySem PySem.Spec PyProof.Rows L2 Hy
set_option maxHeartbeats 0 in
theorem all_mk {l:PySem.W.OpenLaw} {w:World} {K:PySem.W.Frag} {h:Heap} {mg:Str->Option Value} {fa f0 f1 f2 f3 f4 f5 f6 f7 f8 f9 f10 f11 f12 f13 f14 f15 f16 f17 f18 f19 f20 f21 f22 f23 f24 f25 f26 f27 f28 f29 f30 f31 f32 f33 f34 f35 f36:Addr} {t0:Tok} {tb4:Tok} (X:K.In h) (G:h.Ns mainGlobals mg) (hfa:mg "law" = some (.ref fa))
   (h0:Dfn K "_law_cell" (top 29) f0) (h1:Dfn K "_law_numbers" (top 30) f1) (h2:Dfn K "_law_size" (top 36) f2) (h3:Dfn K "_law_divisor" (top 32) f3) (h4:Dfn K "_law_made" (top 33) f4) (h5:Dfn K "_law_number" (top 34) f5) (h6:Dfn K "_law_table" (top 35) f6) (h7:Dfn K "_law_shown" (top 40) f7) (h8:Dfn K "show_number" (top 17) f8) (h9:Dfn K "_law_whole" (top 37) f9) (h10:Dfn K "_law_is_number" (top 38) f10) (h11:Dfn K "look_text" (top 20) f11) (h12:Dfn K "whole_in" (top 25) f12) (h13:Dfn K "is_whole" (top 6) f13) (h14:Dfn K "common_divisor" (top 8) f14) (h15:Dfn K "is_fraction" (top 7) f15) (h16:Dfn K "number_in" (top 24) f16) (h17:Dfn K "read_number" (top 21) f17) (h18:Dfn K "_law_one" (top 42) f18) (h19:Dfn K "_law_written" (top 41) f19) (h20:Dfn K "is_short_list" (top 11) f20) (h21:Dfn K "is_row" (top 12) f21) (h22:Dfn K "is_table" (top 13) f22) (h23:Dfn K "look_table" (top 14) f23) (h24:Dfn K "show_row" (top 18) f24) (h25:Dfn K "show_table" (top 19) f25) (h26:Dfn K "row_in" (top 26) f26) (h27:Dfn K "rows_in" (top 27) f27) (h28:Dfn K "read_table" (top 23) f28) (h29:Dfn K "_law_is_like" (top 39) f29) (h30:Dfn K "_law_asked" (top 45) f30) (h31:Dfn K "read_row" (top 22) f31) (h32:Dfn K "_law_line" (top 44) f32) (h33:Dfn K "_law_read_again" (top 43) f33) (h34:Dfn K "_law_rest" (top 31) f34) (h35:Dfn K "_law_great" (top 46) f35) (h36:Dfn K "law" (top 47) f36) (hz:nsL K ai) (z0:PySem.W.nsIn K mainGlobals "MOST" = some (some (.int 7 t0))) (zf:PySem.W.nsIn K mainGlobals "FIGURES" = some (some (.str gI tb4))) :
   ∃ fd:FuncData,(∀ (s:Shared) (v:Value),BindsTo s fd ⟨[v],[]⟩ [("_law_script",v)])/\∀ base:Heap,K.In base->base.Ns mainGlobals mg->aI l.prog w K mg base CX0 8 fa fd ["_law_script"] (spD K jl):=by
 have hb:=hz.none X G
 have y_MOST:∃ t,mg "MOST" = some (.int 7 t):=⟨_,PySem.W.mg_of X G z0⟩
 have y_FIGURES:∃ t,mg "FIGURES" = some (.str gI t):=⟨_,PySem.W.mg_of X G zf⟩
 obtain ⟨a,⟨oc,od,kV,dc,pm,an,cd,ct,sl,l0,c⟩,r⟩:=h36
 cases hfa.symm.trans (PySem.W.mg_of X G a)
 refine ⟨PySem.W.fnOf "law" "law" (bR (top 47)) (bp (top 47)) (ah (top 47)) .none kV dc pm an cd ct,λs v=>.of_eq rfl,λbase _ _=>?_⟩
 have c_l_cell:Cal l.prog w K mg base 1 "_law_cell" eO:=h0.cal (ps:=["_law_script","_law_k"]) X G (λ_ _ _ _ _ _=>Hy.bd2 λ_ _=>rfl) λ_ F=>ka (k:=0) F hb
 have c_l_numbers:Cal l.prog w K mg base 1 "_law_numbers" a3:=h1.cal (ps:=["_law_cell_here","_law_bases"]) X G (λ_ _ _ _ _ _=>Hy.bd2 λ_ _=>rfl) λ_ F=>gr (k:=0) F hb
 have c_l_size:Cal l.prog w K mg base 2 "_law_size" ez:=h2.cal (ps:=["_law_cell_here"]) X G (λ_ _ _ _ _ _=>Hy.bd1 λ_=>rfl) λ_ F=>jU (k:=1) F hb c_l_numbers
 have c_l_divisor:Cal l.prog w K mg base 1 "_law_divisor" bG:=h3.cal (ps:=["_law_one_here","_law_other"]) X G (λ_ _ _ _ _ _=>Hy.bd2 λ_ _=>rfl) λ_ F=>fS (k:=0) F hb
 have c_l_made:Cal l.prog w K mg base 2 "_law_made" cL:=h4.cal (ps:=["_law_top","_law_bottom"]) X G (λ_ _ _ _ _ _=>Hy.bd2 λ_ _=>rfl) λ_ F=>jW (k:=1) F hb c_l_divisor
 have c_l_number:Cal l.prog w K mg base 3 "_law_number" cG:=h5.cal (ps:=["_law_kind","_law_part"]) X G (λ_ _ _ _ _ _=>Hy.bd2 λ_ _=>rfl) λ_ F=>gQ (k:=2) F hb c_l_made
 have c_l_table:Cal l.prog w K mg base 4 "_law_table" c3:=h6.cal (ps:=["_law_cell_here","_law_many","_law_wide","_law_kind"]) X G (λ_ _ _ _ _ _=>Hy.bd4 λ_ _ _ _=>rfl) λ_ F=>iD (k:=3) F hb (c_l_numbers.mono (by decide)) c_l_number
 have c_l_shown:Cal l.prog w K mg base 1 "_law_shown" bt:=h7.cal (ps:=["_law_number_here"]) X G (λ_ _ _ _ _ _=>Hy.bd1 λ_=>rfl) λ_ F=>iF (k:=0) F hb
 have c_show_number:Cal l.prog w K mg base 1 "show_number" aV:=h8.cal (ps:=["number"]) X G (λ_ _ _ _ _ _=>Hy.bd1 λ_=>rfl) λ_ F=>eA (k:=0) F hb
 have c_l_whole:Cal l.prog w K mg base 1 "_law_whole" dk:=h9.cal (ps:=["_law_thing"]) X G (λ_ _ _ _ _ _=>Hy.bd1 λ_=>rfl) λ_ F=>ig (k:=0) F hb
 have c_l_is_number:Cal l.prog w K mg base 2 "_law_is_number" aW:=h10.cal (ps:=["_law_found","_law_top","_law_bottom"]) X G (λ_ _ _ _ _ _=>Hy.bd3 λ_ _ _=>rfl) λ_ F=>eE (k:=1) F hb c_l_whole c_l_divisor
 have c_look_text:Cal l.prog w K mg base 1 "look_text" bg:=h11.cal (ps:=["thing"]) X G (λ_ _ _ _ _ _=>Hy.bd1 λ_=>rfl) λ_ F=>fR (k:=0) F hb
 have c_whole_in:Cal l.prog w K mg base 1 "whole_in" cH:=h12.cal (ps:=["text"]) X G (λ_ _ _ _ _ _=>Hy.bd1 λ_=>rfl) λ_ F=>gF (k:=0) F hb y_FIGURES
 have c_is_whole:Cal l.prog w K mg base 1 "is_whole" cD:=h13.cal (ps:=["thing"]) X G (λ_ _ _ _ _ _=>Hy.bd1 λ_=>rfl) λ_ F=>gS (k:=0) F hb
 have c_common_divisor:Cal l.prog w K mg base 1 "common_divisor" bc:=h14.cal (ps:=["one","other"]) X G (λ_ _ _ _ _ _=>Hy.bd2 λ_ _=>rfl) λ_ F=>cU (k:=0) F hb
 have c_is_fraction:Cal l.prog w K mg base 2 "is_fraction" aX:=h15.cal (ps:=["thing"]) X G (λ_ _ _ _ _ _=>Hy.bd1 λ_=>rfl) λ_ F=>eS (k:=1) F hb c_is_whole c_common_divisor
 have c_number_in:Cal l.prog w K mg base 3 "number_in" bJ:=h16.cal (ps:=["text"]) X G (λ_ _ _ _ _ _=>Hy.bd1 λ_=>rfl) λ_ F=>fT (k:=2) F hb (c_whole_in.mono (by decide)) c_is_fraction
 have c_read_number:Cal l.prog w K mg base 4 "read_number" bf:=h17.cal (ps:=["text"]) X G (λ_ _ _ _ _ _=>Hy.bd1 λ_=>rfl) λ_ F=>ed (k:=3) F hb (c_look_text.mono (by decide)) c_number_in
 have c_l_one:Cal l.prog w K mg base 5 "_law_one" fO:=h18.cal (ps:=["_law_number_here"]) X G (λ_ _ _ _ _ _=>Hy.bd1 λ_=>rfl) λ_ F=>lD (k:=4) F hb (c_l_shown.mono (by decide)) (c_show_number.mono (by decide)) (c_l_is_number.mono (by decide)) c_read_number
 have c_l_written:Cal l.prog w K mg base 2 "_law_written" cc:=h19.cal (ps:=["_law_table_here"]) X G (λ_ _ _ _ _ _=>Hy.bd1 λ_=>rfl) λ_ F=>gv (k:=1) F hb c_l_shown
 have c_is_short_list:Cal l.prog w K mg base 1 "is_short_list" a0:=h20.cal (ps:=["thing"]) X G (λ_ _ _ _ _ _=>Hy.bd1 λ_=>rfl) λ_ F=>c9 (k:=0) F hb y_MOST
 have c_is_row:Cal l.prog w K mg base 3 "is_row" eV:=h21.cal (ps:=["thing"]) X G (λ_ _ _ _ _ _=>Hy.bd1 λ_=>rfl) λ_ F=>j7 (k:=2) F hb (c_is_short_list.mono (by decide)) c_is_fraction
 have c_is_table:Cal l.prog w K mg base 4 "is_table" cB:=h22.cal (ps:=["thing"]) X G (λ_ _ _ _ _ _=>Hy.bd1 λ_=>rfl) λ_ F=>gJ (k:=3) F hb (c_is_short_list.mono (by decide)) c_is_row
 have c_look_table:Cal l.prog w K mg base 5 "look_table" bq:=h23.cal (ps:=["thing"]) X G (λ_ _ _ _ _ _=>Hy.bd1 λ_=>rfl) λ_ F=>fk (k:=4) F hb c_is_table
 have c_show_row:Cal l.prog w K mg base 3 "show_row" bP:=h24.cal (ps:=["row"]) X G (λ_ _ _ _ _ _=>Hy.bd1 λ_=>rfl) λ_ F=>gX (k:=2) F hb (c_show_number.mono (by decide)) c_is_fraction
 have c_show_table:Cal l.prog w K mg base 6 "show_table" bW:=h25.cal (ps:=["table"]) X G (λ_ _ _ _ _ _=>Hy.bd1 λ_=>rfl) λ_ F=>fm (k:=5) F hb c_look_table (c_show_row.mono (by decide))
 have c_row_in:Cal l.prog w K mg base 4 "row_in" cR:=h26.cal (ps:=["text"]) X G (λ_ _ _ _ _ _=>Hy.bd1 λ_=>rfl) λ_ F=>j4 (k:=3) F hb c_number_in
 have c_rows_in:Cal l.prog w K mg base 5 "rows_in" c8:=h27.cal (ps:=["text"]) X G (λ_ _ _ _ _ _=>Hy.bd1 λ_=>rfl) λ_ F=>iM (k:=4) F hb c_row_in
 have c_read_table:Cal l.prog w K mg base 6 "read_table" bQ:=h28.cal (ps:=["text"]) X G (λ_ _ _ _ _ _=>Hy.bd1 λ_=>rfl) λ_ F=>fj (k:=5) F hb (c_look_text.mono (by decide)) c_rows_in c_look_table
 have c_l_is_like:Cal l.prog w K mg base 3 "_law_is_like" bH:=h29.cal (ps:=["_law_found","_law_due"]) X G (λ_ _ _ _ _ _=>Hy.bd2 λ_ _=>rfl) λ_ F=>gj (k:=2) F hb c_l_is_number
 have c_l_asked:Cal l.prog w K mg base 7 "_law_asked" cZ:=h30.cal (ps:=["_law_table_here"]) X G (λ_ _ _ _ _ _=>Hy.bd1 λ_=>rfl) λ_ F=>ib (k:=6) F hb (c_l_written.mono (by decide)) c_show_table c_read_table (c_l_is_like.mono (by decide))
 have c_read_row:Cal l.prog w K mg base 5 "read_row" cC:=h31.cal (ps:=["text"]) X G (λ_ _ _ _ _ _=>Hy.bd1 λ_=>rfl) λ_ F=>gY (k:=4) F hb (c_look_text.mono (by decide)) c_row_in
 have c_l_line:Cal l.prog w K mg base 6 "_law_line" er:=h32.cal (ps:=["_law_row"]) X G (λ_ _ _ _ _ _=>Hy.bd1 λ_=>rfl) λ_ F=>jV (k:=5) F hb (c_show_row.mono (by decide)) c_read_row (c_l_shown.mono (by decide)) (c_l_is_like.mono (by decide))
 have c_l_read_again:Cal l.prog w K mg base 5 "_law_read_again" bD:=h33.cal (ps:=["_law_number_here"]) X G (λ_ _ _ _ _ _=>Hy.bd1 λ_=>rfl) λ_ F=>dC (k:=4) F hb (c_l_shown.mono (by decide)) c_read_number (c_l_is_number.mono (by decide)) (c_show_number.mono (by decide))
 have c_l_rest:Cal l.prog w K mg base 1 "_law_rest" eJ:=h34.cal (ps:=["_law_cell_here","_law_used"]) X G (λ_ _ _ _ _ _=>Hy.bd2 λ_ _=>rfl) λ_ F=>j0 (k:=0) F hb
 have c_l_great:Cal l.prog w K mg base 3 "_law_great" de:=h35.cal (ps:=["_law_cell_here"]) X G (λ_ _ _ _ _ _=>Hy.bd1 λ_=>rfl) λ_ F=>iu (k:=2) F hb (c_l_numbers.mono (by decide)) c_l_made
 exact oN (k:=7) (kR l0 c r) hb (c_l_cell.mono (by decide)) (c_l_size.mono (by decide)) (c_l_table.mono (by decide)) (c_l_one.mono (by decide)) (c_l_numbers.mono (by decide)) c_l_asked (c_l_line.mono (by decide)) (c_l_read_again.mono (by decide)) (c_l_rest.mono (by decide)) (c_l_great.mono (by decide))
theorem walk {l:PySem.W.OpenLaw} {q:Program} {loose:List Str} {XP:(Str->Option Value)->Heap->Prop} {YP:World->Heap->Prop} {d:DefRec} {K:Params->PySem.W.Frag} (hn:l.most=some 63) (hdf:d.params.defaults=[])
   (hY:∀ (w:World) (h:Heap),YP w h->(K w.params).In h)
   (F:∀ (w:World) (mg:Str->Option Value) (fa:Addr) (h:Heap),(K w.params).In h->h.Ns mainGlobals mg->mg d.name=some (.ref fa) ->
     ∃ fd:FuncData,(∀ (s:Shared) (u:Value),BindsTo s fd ⟨[u],[]⟩ [("_law_script",u)])/\∀ base:Heap,(K w.params).In base->base.Ns mainGlobals mg->aI l.prog w (K w.params) mg base CX0 8 fa fd ["_law_script"] (spD (K w.params) jl)) :
   PySem.W.WalkO q loose XP YP l.row.toRowW d [] (λf vs=>PySem.call f vs):=
 L2.lN (n:=63) (k:=8) (x:="_law_script") (CX:=λ_=>CX0) (sp:=λw=>spD (K w.params) jl) hn (by decide) hdf ⟨rfl,by decide,by decide⟩ hY F
   (λw H a ns hl _ hS=>lI (λns h=>⟨ns,h,rfl,rfl⟩) H a ns hl hS) λ_ _ _ _ _ z=>z
end K72
open PySem PySem.W PyProof.Rows
namespace PySem.W.Fast
theorem tw1286772998384404995:True:=⟨⟩
theorem tw13967295035681571127:True:=⟨⟩
theorem tw5505141657022605183:True:=⟨⟩
theorem tw24163854201423548:True:=⟨⟩
theorem tw6725769198959640681:True:=⟨⟩
theorem tw4628347309065875530:True:=⟨⟩
theorem tw2239347303908624082:True:=⟨⟩
theorem tw695777530608772353:True:=⟨⟩
theorem tw2933367213615980562:True:=⟨⟩
theorem tw7111583145697511765:True:=⟨⟩
theorem tw11565499023790502113:True:=⟨⟩
theorem tw2455877524972794998:True:=⟨⟩
theorem tw238505559169215193:True:=⟨⟩
theorem tw17696466479749149870:True:=⟨⟩
theorem tw13208790489646778435:True:=⟨⟩
theorem tw15085683333767277852:True:=⟨⟩
theorem tw483490213084140105:True:=⟨⟩
theorem tw8857518593570232501:True:=⟨⟩
theorem tw12470527363727709334:True:=⟨⟩
theorem tw8013094847788169908:True:=⟨⟩
theorem tw7141474435042171430:True:=⟨⟩
theorem tw6747989419203986802:True:=⟨⟩
theorem tw3634362320378447234:True:=⟨⟩
theorem tw14016633359167119423:True:=⟨⟩
theorem tw14970607987955973106:True:=⟨⟩
theorem tw2050264614823327071:True:=⟨⟩
theorem tw40667107132783504:True:=⟨⟩
theorem tw3772199728617184749:True:=⟨⟩
theorem tw1333557032195749569:True:=⟨⟩
theorem tw4499104760006674508:True:=⟨⟩
theorem tw9693115271474914542:True:=⟨⟩
theorem tw11322896685039853795:True:=⟨⟩
theorem tw17950619330493935190:True:=⟨⟩
theorem tw13247771055935821994:True:=⟨⟩
theorem tw15106780957136946951:True:=⟨⟩
theorem tw2427328837910993917:True:=⟨⟩
theorem tw17994255780898655612:True:=⟨⟩
theorem tw12446708322460381560:True:=⟨⟩
theorem tw10178400760987997342:True:=⟨⟩
theorem tw9015057582995569878:True:=⟨⟩
theorem tw1653422300758514712:True:=⟨⟩
theorem tw13719712717088084748:True:=⟨⟩
theorem tw13779509511971131545:True:=⟨⟩
theorem tw12195143822696605874:True:=⟨⟩
theorem tw7083245180524838140:True:=⟨⟩
end PySem.W.Fast
set_option maxRecDepth 100000 in
set_option maxHeartbeats 0 in
theorem PySem.Challenge.cw_signsmooth_k72_texts_of_tables_holds : PySem.Challenge.rw_signsmooth_k72_texts_of_tables.Holds := by
 w_on; o_law; k_head; (case hw=>w_witness2)
 k_fill
 refine K72.walk (l:=PySem.Challenge.rw_signsmooth_k72_texts_of_tables) rfl rfl (λw h Y=>PySem.W.kIn_of Y) ?F
 case F=>
   intro w mg fa h KX G hmg
   refine' K72.all_mk KX G hmg (.of ?_ ?_ ?_ ?_) (.of ?_ ?_ ?_ ?_) (.of ?_ ?_ ?_ ?_) (.of ?_ ?_ ?_ ?_) (.of ?_ ?_ ?_ ?_) (.of ?_ ?_ ?_ ?_) (.of ?_ ?_ ?_ ?_) (.of ?_ ?_ ?_ ?_) (.of ?_ ?_ ?_ ?_) (.of ?_ ?_ ?_ ?_) (.of ?_ ?_ ?_ ?_) (.of ?_ ?_ ?_ ?_) (.of ?_ ?_ ?_ ?_) (.of ?_ ?_ ?_ ?_) (.of ?_ ?_ ?_ ?_) (.of ?_ ?_ ?_ ?_) (.of ?_ ?_ ?_ ?_) (.of ?_ ?_ ?_ ?_) (.of ?_ ?_ ?_ ?_) (.of ?_ ?_ ?_ ?_) (.of ?_ ?_ ?_ ?_) (.of ?_ ?_ ?_ ?_) (.of ?_ ?_ ?_ ?_) (.of ?_ ?_ ?_ ?_) (.of ?_ ?_ ?_ ?_) (.of ?_ ?_ ?_ ?_) (.of ?_ ?_ ?_ ?_) (.of ?_ ?_ ?_ ?_) (.of ?_ ?_ ?_ ?_) (.of ?_ ?_ ?_ ?_) (.of ?_ ?_ ?_ ?_) (.of ?_ ?_ ?_ ?_) (.of ?_ ?_ ?_ ?_) (.of ?_ ?_ ?_ ?_) (.of ?_ ?_ ?_ ?_) (.of ?_ ?_ ?_ ?_) (.of ?_ ?_ ?_ ?_) ⟨?_,?_,?_,?_,?_,?_,?_,?_,?_,?_,?_,?_,?_,?_,?_,?_,?_,?_,trivial⟩ ?_ ?_
   all_goals try k_is
#print axioms PySem.Challenge.cw_signsmooth_k72_texts_of_tables_holds
