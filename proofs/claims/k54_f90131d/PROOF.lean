import PyProof.Rows.All
import Wide.All
import OpenK.AllK
import Wide.FinOn
import Lean
import PyProof.EqAt
import PyProof.EqKinds
import PyProof.TupleCall
import PyProof.DictKeyH
import PyProof.DictFindH
import PyProof.StrCalls2
import PyProof.StrCalls3
import PyProof.StrCalls
import PyProof.StrWalks
import PyProof.FString
import KE.KIntText
import PyProof.FitsReplace
import PyProof.StrLawsTight
import PyProof.StrLawsOcc
import PyProof.StrBlockI
import PyProof.SliceStr2
import PyProof.StrLawsChain
import PyProof.StrLaws
import PyProof.Rows.StrJoinMade
import PyProof.StrLawsIdx
import PyProof.StrLawsJoin
import KE.KDictList
import PyProof.DictWalks
import PyProof.AutoIntG2
import PyProof.StrBlock
import PySem.Challenge.RW_signsmooth_k54_whole_standing
set_option genSizeOf false
set_option bootstrap.genMatcherCode false
set_option Elab.async false
set_option linter.all false
set_option maxRecDepth 100000
set_option exponentiation.threshold 4000
namespace Hx
open PySem PySem.Spec PyProof.Rows
theorem kN:entryFor table "proto.unchain" = some Builtin.«proto.unchain»:=entryFor_of_tree (by kernel_rfl)
section
variable {prog:Program} {w:World} {A:Around} {E:Value->Shared->Prop} {s:Shared}
theorem nN {α:Type} {a h:Addr} {oa oh:Obj} {us vs:Array Value} {Q:α->Shared->Prop} (hh:A.handled=some (.ref h)) (hne:h ≠ a) (ha:s.heap.get? a=some oa) (hda:oa.data=.fields us) (hsz:2 < us.size)
   (ho:s.heap.get? h=some oh) (hd:oh.data=.fields vs) (h2:vs[2]?=some .none)
   (q:E (.ref a) { s with heap:=s.heap.update a (Obj.mapFields (·.setIfInBounds 2 (.ref h))) }):wpAny (model prog w) A (raiseNew (.ref a):Sem α) Q E s:=by
 unfold raiseNew; refine wpAny_bind (wpAny_handled ?_); rw [hh]
 dsimp only
 rw [if_pos (show (Value.ref h != Value.ref a)=true by simp [hne])]
 refine wpAny_bind (wpAny_holding (wpAny_runValue (codeAny_builtin kN ?_)))
 unfold Builtin.«proto.unchain»
 dsimp only
 refine wpAny_bind (wpAny_field ho hd h2 ?_)
 rw [if_pos (show (Value.none == Value.none)=true by decide)]
 refine wpAny_pure ?_
 show wpAny _ A (do let _ <- updateField a 2 (.ref h); throw (Value.ref a)) _ _ _
 unfold updateField
 refine wpAny_bind (wpAny_bind (wpAny_load ha ?_))
 rw [hda]
 dsimp only
 rw [if_pos hsz]
 exact wpAny_update ha (wpAny_throw q)
theorem pV {r h:Addr} {v left step:Int} {oh:Obj} {vs:Array Value} {Q:Option Value->Shared->Prop} (hh:A.handled=some (.ref h)) (ho:s.heap.get? h=some oh) (hd:oh.data=.fields vs) (h2:vs[2]?=some .none)
   (hr:IsRangeIter s.heap r v left step) (hl:left<=0) (k:∀ h',Heap.ExtBut r s.heap h'->Q none { s with heap:=h' }):wpAny (model prog w) A (pyNext (.ref r)) Q E s:=by
 have ty:s.TypeIs (.ref r) "range_iterator":=⟨_,hr,rfl⟩
 have hlt:=Heap.lt_size ho
 have fl:∀ {α:Type} {B:Around} {F:Value->Shared->Prop} {R:α->Shared->Prop} (i:Nat) (y:Int) {f:Value->Sem α},(#[rawInt v,rawInt left,rawInt step]:Array Value)[i]?=some (rawInt y)->wpAny (model prog w) B (f (rawInt y)) R F s->wpAny (model prog w) B (field (.ref r) i >>= f) R F s:=by
   intro α B F R i y f e q
   exact wpAny_bind (wpAny_field hr rfl e q)
 unfold pyNext
 refine wpAny_bind (wpAny_attempt (wpAny_callSpecial?_slot (name:=Str.ofString "__next__") ty F.slot_range_iterator_next (wpAny_call_entry F.slot_range_iterator_next ty F.entry_range_iterator_next (fl 0 v rfl (fl 1 left rfl (fl 2 step rfl ?_))) (F.args_range_iterator_next_1 _))))
 show wpAny (model prog w) A.in1 (if left<=0 then _ else _) _ _ s
 rw [if_pos hl]
 refine wpAny_bind (wpAny_rule (wpAny_bind ?_))
 show wpAny _ _ (do let e <- newExc (.type "StopIteration") []; _) _ _ _
 refine wpAny_bind ?_
 simp only [newExc,newTuple]
 refine wpAny_bind (wpAny_newObj_type (wpAny_bind (m:=firstArgMember _ _) (wpAny_of_eq (a:=.none) (by first | rfl | (simp only [firstArgMember]; rfl)) (wpAny_newObj_type ?_ (by size_fits)))) (by size_fits))
 have hg:((s.heap.push { cls:=.type "tuple",data:=.seq ([]:List Value).toArray }).push { cls:=.type "StopIteration",data:=.fields (#[Value.ref s.heap.objs.size,.none,.none,.none,.bool false,.none]++ownMembersOf (.type "StopIteration") []) }).get? (s.heap.push { cls:=.type "tuple",data:=.seq ([]:List Value).toArray }).objs.size
     = some { cls:=.type "StopIteration",data:=.fields (#[Value.ref s.heap.objs.size,.none,.none,.none,.bool false,.none]++ownMembersOf (.type "StopIteration") []) }:=Heap.get?_push_size _ rfl
 refine nN (h:=h) (A:=A.in1) hh ?_ hg rfl (by rw [Array.size_append]; exact Nat.lt_of_lt_of_le (by decide:2 < 6) (Nat.le_add_right _ _)) (Heap.get?_push_of_some _ (Heap.get?_push_of_some _ ho)) hd h2 ?_
 · intro z
   rw [Heap.size_push] at z
   exact absurd hlt (by rw [z]; exact Nat.not_lt.mpr (Nat.le_succ _))
 have hu:=Heap.get?_update_self (Obj.mapFields (·.setIfInBounds 2 (.ref h))) hg rfl
 refine wpAny_bind (wpAny_isInstance (T:="StopIteration") (b:=true) ⟨_,hu,rfl⟩ isSubtype_stop ?_)
 refine wpAny_pure (k _ λb o hb e=>?_)
 have bl:=Heap.lt_size e
 rw [Heap.get?_update_other _ _ (by intro z; rw [Heap.size_push] at z; exact absurd bl (by rw [<- z]; exact Nat.not_lt.mpr (Nat.le_succ _)))]
 exact Heap.get?_push_of_some _ (Heap.get?_push_of_some _ e)
end
end Hx
set_option linter.all false
set_option maxRecDepth 100000
namespace L2
open PySem PySem.Spec PyProof.Rows
noncomputable abbrev Key:=Sum Int Str
noncomputable def k4:Key->Value->Bool
 | .inl k,v=>Value.isInt k v
 | .inr x,v=>Value.isStrOf x v
noncomputable def CP (w:World):Key->Int
 | .inl k=>hashInt k
 | .inr x=>hashStr w x
theorem a8:∀ {k:Key} {v:Value},k4 k v=true->(∃ i t,k=Sum.inl i/\v=Value.int i t)\/(∃ x t,k=Sum.inr x/\v=Value.str x t)
 | .inl i,v,h=>by
   obtain ⟨t,e⟩:=Value.isInt_shape (k:=i) (v:=v) h
   exact .inl ⟨i,t,rfl,e⟩
 | .inr x,v,h=>by
   obtain ⟨t,e⟩:=Value.isStrOf_shape (x:=x) (v:=v) h
   exact .inr ⟨x,t,rfl,e⟩
theorem tL (i:Int) (t:Tok):k4 (.inl i) (.int i t)=true:=by simp [k4,Value.isInt]
theorem tH (x:Str) (t:Tok):k4 (.inr x) (.str x t)=true:=by simp [k4,Value.isStrOf]
theorem AJ (a b:Int):decide ((Sum.inl a:Key)=Sum.inl b)=(a == b):=by
 by_cases e:a=b
 · subst e; simp
 · have h:¬ (Sum.inl a:Key)=Sum.inl b:=λq=>e (Sum.inl.inj q)
   rw [decide_eq_false h]
   exact (beq_eq_false_iff_ne.mpr e).symm
theorem Am (a b:Str):decide ((Sum.inr a:Key)=Sum.inr b)=decide (a=b):=by
 by_cases e:a=b
 · subst e; simp
 · have h:¬ (Sum.inr a:Key)=Sum.inr b:=λq=>e (Sum.inr.inj q)
   rw [decide_eq_false h,decide_eq_false e]
theorem Af (a:Int) (b:Str):decide ((Sum.inl a:Key)=Sum.inr b)=false:=decide_eq_false (λq=>nomatch q)
theorem Ak (a:Str) (b:Int):decide ((Sum.inr a:Key)=Sum.inl b)=false:=decide_eq_false (λq=>nomatch q)
noncomputable def bw (prog:Program) (w:World):PySem.KeyKind prog w Key where
 is:=k4
 hash:=CP w
 inj:=λv a b ha hb=>by
   rcases a8 ha with ⟨i,t,rfl,rfl⟩ | ⟨x,t,rfl,rfl⟩
   · rcases a8 hb with ⟨j,u,rfl,e⟩ | ⟨y,u,rfl,e⟩
     · injection e with e1 _; rw [e1]
     · exact nomatch e
   · rcases a8 hb with ⟨j,u,rfl,e⟩ | ⟨y,u,rfl,e⟩
     · exact nomatch e
     · injection e with e1 _; rw [e1]
 byValue:=λk v h=>by
   rcases a8 h with ⟨i,t,rfl,rfl⟩ | ⟨x,t,rfl,rfl⟩ <;> rfl
 pyHash:=λhv h=>by
   rcases a8 hv with ⟨i,t,rfl,rfl⟩ | ⟨x,t,rfl,rfl⟩
   · exact wpAny_pyHash_int h
   · exact wpAny_pyHash_str h
 eqBool:=λhu hv h=>by
   rcases a8 hu with ⟨i,t,rfl,rfl⟩ | ⟨x,t,rfl,rfl⟩
   · rcases a8 hv with ⟨j,u,rfl,rfl⟩ | ⟨y,u,rfl,rfl⟩
     · rw [AJ] at h; exact wpAny_eqBool_int h
     · rw [Af] at h; exact SeqAt.EqAt.int_str i t y u _ _ _ _ h
   · rcases a8 hv with ⟨j,u,rfl,rfl⟩ | ⟨y,u,rfl,rfl⟩
     · rw [Ak] at h; exact SeqAt.EqAt.str_int x t j u _ _ _ _ h
     · rw [Am] at h; exact wpAny_eqBool_str h
 «strs»:=λk x t v h=>by
   rcases a8 h with ⟨i,u,rfl,e⟩ | ⟨y,u,rfl,e⟩
   · exact nomatch e
   · injection e with e1 _
     subst e1
     cases v <;> rfl
theorem oz (prog:Program) (w:World) (i:Int) (t:Tok):(bw prog w).is (.inl i) (.int i t)=true:=tL i t
theorem oA (prog:Program) (w:World) (x:Str) (t:Tok):(bw prog w).is (.inr x) (.str x t)=true:=tH x t
inductive V where
 | non | bl (b:Bool) | int (i:Int) | str (x:Str) | byt (b:Array UInt8) | flt (b:UInt64) | ref (a:Addr) | ty (n:String)
 deriving DecidableEq
noncomputable def RelV:V->Value->Prop
 | .non,u=>u=Value.none
 | .bl b,u=>u=Value.bool b
 | .int i,u=>∃ t,u=Value.int i t
 | .str x,u=>∃ t,u=Value.str x t
 | .byt b,u=>∃ t,u=Value.bytes b t
 | .flt b,u=>∃ t,u=Value.float b t
 | .ref a,u=>u=Value.ref a
 | .ty n,u=>u=Value.type n
noncomputable abbrev Vals:List V->List Value->Prop:=Paired RelV
theorem Vals.length {xs:List V} {us:List Value} (r:Vals xs us):xs.length=us.length:=Paired.length r
theorem Vals.get:∀ {xs:List V} {us:List Value} {i:Nat} {x:V},Vals xs us->xs[i]?=some x->∃ u,us[i]?=some u/\RelV x u
 | _,_,_,_,.nil,e=>by simp at e
 | _,_,0,_,.cons r _,e=>by simp at e; subst e; exact ⟨_,rfl,r⟩
 | _,_,i + 1,x,.cons _ t,e=>by
   obtain ⟨u,h1,h2⟩:=Vals.get (i:=i) (x:=x) t (by simpa using e)
   exact ⟨u,by simpa using h1,h2⟩
theorem Vals.set {x:V} {u:Value} (r:RelV x u):∀ {xs:List V} {us:List Value} (i:Nat),Vals xs us->Vals (xs.set i x) (us.set i u)
 | _,_,_,.nil=>.nil
 | _,_,0,.cons _ t=>.cons r t
 | _,_,i + 1,.cons q t=>.cons q (Vals.set r i t)
theorem Vals.append:∀ {xs ys:List V} {us ws:List Value},Vals xs us->Vals ys ws->Vals (xs++ys) (us++ws)
 | _,_,_,_,.nil,s=>s
 | _,_,_,_,.cons r t,s=>.cons r (Vals.append t s)
theorem Vals.take:∀ {xs:List V} {us:List Value} (n:Nat),Vals xs us->Vals (xs.take n) (us.take n)
 | _,_,0,_=>.nil
 | _,_,_ + 1,.nil=>.nil
 | _,_,n + 1,.cons r t=>.cons r (Vals.take n t)
theorem Vals.drop:∀ {xs:List V} {us:List Value} (n:Nat),Vals xs us->Vals (xs.drop n) (us.drop n)
 | _,_,0,r=>r
 | _,_,_ + 1,.nil=>.nil
 | _,_,n + 1,.cons _ t=>Vals.drop n t
noncomputable def nO:Option V->Option Value->Prop
 | some v,some u=>RelV v u
 | none,none=>True
 | _,_=>False
noncomputable def KV {κ:Type}:List (κ × V)->List (κ × Value)->Prop:=Paired λ(p:κ × V) (q:κ × Value)=>p.1=q.1/\RelV p.2 q.2
noncomputable def kV:Key->V
 | .inl i=>.int i
 | .inr x=>.str x
inductive HO where
 | lst (xs:List V)
 | tup (xs:List V)
 | dK (kvs:List (Key × V)) | dT (kvs:List (List Key × V))
 | set (S:Int->Bool) (n:Nat)
 | ins (C dx:Addr) (fs:List (Str × V))
 | own (x:Addr)
 | xd (fs:List (Str × V))
 | met (f x:Addr)
 | rng (lo hi:Int)
 | frz (o:Obj) (u:HO)
 | tbl (ps:Array Value)
 | ext (φ:Heap->Prop)
noncomputable abbrev Hp:=Addr->Option HO
noncomputable def upd (H:Hp) (a:Addr) (o:HO):Hp:=λb=>if b=a then some o else H b
theorem aF {H:Hp} {a:Addr} {o:HO}:upd H a o a=some o:=by unfold upd; rw [if_pos rfl]
theorem ax {H:Hp} {a b:Addr} {o:HO} (h:b ≠ a):upd H a o b=H b:=by unfold upd; rw [if_neg h]
theorem aQ {H:Hp} {a b:Addr} {o:HO} (h:H a=some o) (h':H b=none):a ≠ b:=by
 intro e; subst e; rw [h] at h'; cases h'
section
variable (P:Program) (w:World)
noncomputable def bh (H:Hp) (h:Heap) (a:Addr):HO->Prop
 | .lst xs=>xs.length<=sizeLine/\∃ (its:List Value) (n:Nat),Vals xs its/\h.get? a=some { cls:=.type "list",data:=.seq its.toArray n }
 | .tup xs=>xs.length<=sizeLine/\∃ its:List Value,Vals xs its/\IsTup h a its.toArray
 | .dK kvs=>kvs.length<=sizeLine/\(a == sysModules)=false/\∃ vs,KV kvs vs/\h.DictOf (bw P w) a vs
 | .dT kvs=>kvs.length<=sizeLine/\(a == sysModules)=false/\∃ xs:List (List Key × Addr × Value),
     Paired (λ(p:List Key × V) (q:List Key × Addr × Value)=>p.1=q.1/\H q.2.1=some (.tup (p.1.map kV))/\RelV p.2 q.2.2) kvs xs /\
     ∃ o es ep,h.get? a=some o/\o.ExactDict/\o.data=.dict es ep/\es.toList=xs.map (entryOfKey (tupleKind (bw P w)))/\(xs.map (·.1)).Nodup
 | .set S n=>h.SetOf (intKind P w) a S n
 | .ins C dx fs=>H dx=some (.own a)/\fs.length<=1000/\dx ≠ a/\h.get? a=some (PySem.W.instObj C dx) /\
     ∃ mA,h.Ns1 dx mA/\(∀ f,nO (fs.lookup f) (mA f))/\PySem.Within mA (fs.map (·.1))
 | .own _=>∃ o,h.get? a=some o
 | .xd fs=>∃ mA,h.Ns1 a mA/\∀ f,nO (fs.lookup f) (mA f)
 | .rng lo hi=>∃ t u v,h.get? a=some { cls:=.type "range",data:=.fields #[.int lo t,.int hi u,.int 1 v] }
 | .frz o u=>h.get? a=some o/\bh H h a u
 | .tbl ps=>h.get? a=some { cls:=.none,data:=.fields ps }
 | .met f x=>h.get? a=some (PySem.W.methodObj (.ref f) (.ref x))
 | .ext φ=>φ h/\(∃ o,h.get? a=some o)/\∀ h1 h2:Heap,φ h1->(∀ o,h1.get? a=some o->h2.get? a=some o)->φ h2
noncomputable def HOk (H:Hp) (h:Heap):Prop:=∀ a o,H a=some o->bh P w H h a o
end
section
variable {P:Program} {w:World} {H H':Hp} {h h':Heap} {a:Addr} {o:HO}
theorem bh.lt (x:bh P w H h a o):a < h.objs.size:=by
 cases o with
 | lst xs=>obtain ⟨_,_,_,_,e⟩:=x; exact Heap.lt_size e
 | tup xs=>obtain ⟨_,_,_,p⟩:=x; exact p.lt
 | dK kvs=>obtain ⟨_,_,_,_,o,_,_,e,_⟩:=x; exact Heap.lt_size e
 | dT kvs=>obtain ⟨_,_,_,_,o,_,_,e,_⟩:=x; exact Heap.lt_size e
 | set S n=>obtain ⟨o,_,_,_,e,_⟩:=x; exact Heap.lt_size e
 | ins C dx fs=>obtain ⟨_,_,_,e,_⟩:=x; exact Heap.lt_size e
 | own y=>obtain ⟨_,e⟩:=x; exact Heap.lt_size e
 | xd fs=>obtain ⟨_,⟨_,_,_,e,_⟩,_⟩:=x; exact Heap.lt_size e
 | rng lo hi=>obtain ⟨_,_,_,e⟩:=x; exact Heap.lt_size e
 | frz ob u=>obtain ⟨e,_⟩:=x; exact Heap.lt_size e
 | tbl ps=>exact Heap.lt_size (show h.get? a=some _ from x)
 | met f y=>exact Heap.lt_size (show h.get? a=some _ from x)
 | ext φ=>obtain ⟨_,⟨_,e⟩,_⟩:=x; exact Heap.lt_size e
theorem Paired.BD {α β:Type} {F G:α->β->Prop}:∀ {l₁:List α} {l₂:List β},Paired F l₁ l₂->(∀ a b,F a b->G a b)->Paired G l₁ l₂
 | _,_,.nil,_=>.nil
 | _,_,.cons r t,f=>.cons (f _ _ r) (Paired.BD t f)
theorem bh.jS (x:bh P w H h a o) (k:∀ b u,(b=a\/H b=some (.own a))->h.get? b=some u->h'.get? b=some u)
   (ho:∀ b,H b=some (.own a)->H' b=some (.own a)) (ht:∀ b xs,H b=some (.tup xs)->H' b=some (.tup xs)):bh P w H' h' a o:=by
 induction o with
 | lst xs=>obtain ⟨z,its,n,r,e⟩:=x; exact ⟨z,its,n,r,k _ _ (.inl rfl) e⟩
 | tup xs=>obtain ⟨z,its,r,ob,e,c⟩:=x; exact ⟨z,its,r,ob,k _ _ (.inl rfl) e,c⟩
 | dK kvs=>obtain ⟨z,y,vs,r,ob,es,ep,e,c⟩:=x; exact ⟨z,y,vs,r,ob,es,ep,k _ _ (.inl rfl) e,c⟩
 | dT kvs=>
   obtain ⟨z,y,xs,r,ob,es,ep,e,c⟩:=x
   exact ⟨z,y,xs,Paired.BD r λp q z=>⟨z.1,ht _ _ z.2.1,z.2.2⟩,ob,es,ep,k _ _ (.inl rfl) e,c⟩
 | set S n=>obtain ⟨ob,es,ep,t,e,c⟩:=x; exact ⟨ob,es,ep,t,k _ _ (.inl rfl) e,c⟩
 | ins C dx fs=>
   obtain ⟨d,z,ne,e,mA,⟨od,es,ep,e2,c⟩,r⟩:=x
   exact ⟨ho _ d,z,ne,k _ _ (.inl rfl) e,mA,⟨od,es,ep,k _ _ (.inr d) e2,c⟩,r⟩
 | own y=>obtain ⟨ob,e⟩:=x; exact ⟨ob,k _ _ (.inl rfl) e⟩
 | xd fs=>obtain ⟨mA,⟨od,es,ep,e,c⟩,r⟩:=x; exact ⟨mA,⟨od,es,ep,k _ _ (.inl rfl) e,c⟩,r⟩
 | rng lo hi=>obtain ⟨t,u,v,e⟩:=x; exact ⟨t,u,v,k _ _ (.inl rfl) e⟩
 | frz ob u ih=>obtain ⟨e,q⟩:=x; exact ⟨k _ _ (.inl rfl) e,ih q⟩
 | tbl ps=>
   have e:h.get? a=some { cls:=.none,data:=.fields ps }:=x
   show h'.get? a=some { cls:=.none,data:=.fields ps }
   exact k a _ (.inl rfl) e
 | met f y=>
   have e:h.get? a=some (PySem.W.methodObj (.ref f) (.ref y)):=x
   show h'.get? a=some (PySem.W.methodObj (.ref f) (.ref y))
   exact k a _ (.inl rfl) e
 | ext φ=>obtain ⟨p,⟨o,e⟩,st⟩:=x; exact ⟨st _ _ p λo q=>k _ _ (.inl rfl) q,⟨o,k _ _ (.inl rfl) e⟩,st⟩
theorem HOk.lt (x:HOk P w H h) (e:H a=some o):a < h.objs.size:=(x a o e).lt
theorem HOk.fresh (x:HOk P w H h) (e:h.objs.size<=a):H a=none:=by
 cases q:H a with
 | none=>rfl
 | some u=>exact absurd (Nat.lt_of_lt_of_le (x.lt q) e) (Nat.lt_irrefl _)
theorem HOk.kept (x:HOk P w H h) (k:∀ b u,h.get? b=some u->h'.get? b=some u):HOk P w H h':=λa o e=>
 (x a o e).jS (λb u _ q=>k b u q) (λ_ q=>q) λ_ _ q=>q
theorem HOk.laid (x:HOk P w H h) (k:∀ b u,h.get? b=some u->h'.get? b=some u) (hp:h.objs.size<=a) (new:bh P w (upd H a o) h' a o):HOk P w (upd H a o) h':=λb u e=>by
 have hn:=x.fresh hp
 by_cases hb:b=a
 · subst hb; rw [aF] at e; cases e; exact new
 · rw [ax hb] at e
   exact (x b u e).jS (λc v _ q=>k c v q) (λc q=>by rw [ax (aQ q hn)]; exact q) λc xs q=>by rw [ax (aQ q hn)]; exact q
end
noncomputable def Rd (H:Hp) (a:Addr) (u:HO):Prop:=H a=some u\/∃ o,H a=some (.frz o u)
theorem Rd.ok {P:Program} {w:World} {H:Hp} {h:Heap} {a:Addr} {u:HO} (r:Rd H a u) (x:HOk P w H h):bh P w H h a u:=by
 rcases r with r | ⟨o,r⟩
 · exact x a u r
 · obtain ⟨_,q⟩:=x a _ r
   exact q
noncomputable def Mut:Option HO->Prop
 | some (.lst _)=>True
 | some (.dK _)=>True
 | some (.dT _)=>True
 | some (.set _ _)=>True
 | some (.ins _ _ _)=>True
 | some (.ext _)=>True
 | _=>False
section
variable {P:Program} {w:World} {H:Hp} {h h':Heap} {x e:Addr} {o':HO}
theorem HOk.write (ok:HOk P w H h) (mu:Mut (H x)) (he:e=x\/H e=some (.own x)) (k:∀ b u,b ≠ e->h.get? b=some u->h'.get? b=some u) (heo:∃ u,h'.get? e=some u)
   (new:bh P w (upd H x o') h' x o'):HOk P w (upd H x o') h':=λb u q=>by
 have nown:∀ c y,H c=some (.own y)->c ≠ x:=λc y r z=>by subst z; rw [r] at mu; exact mu
 have ntup:∀ c xs,H c=some (.tup xs)->c ≠ x:=λc xs r z=>by subst z; rw [r] at mu; exact mu
 by_cases hb:b=x
 · subst hb; rw [aF] at q; cases q; exact new
 · rw [ax hb] at q
   by_cases hbe:b=e
   · have q':H b=some (.own x):=by
       rcases he with z | z
       · exact absurd (hbe.trans z) hb
       · rw [hbe]; exact z
     rw [q] at q'; cases q'
     obtain ⟨v,hv⟩:=heo
     exact ⟨v,by rw [hbe]; exact hv⟩
   · refine (ok b u q).jS (λc v hc r=>k c v ?_ r) (λc r=>by rw [ax (nown c b r)]; exact r) λc xs r=>by rw [ax (ntup c xs r)]; exact r
     rcases hc with rfl | hc
     · exact hbe
     · rintro rfl
       rcases he with z | z
       · exact nown c b hc z
       · rw [hc] at z; cases z; exact hb rfl
end
structure Un (fs ex:List Addr) (H H':Hp) (h h':Heap):Prop where
 keep:∀ b o,h.get? b=some o->H b=none->b ∉ fs->b ∉ ex->h'.get? b=some o
 slot:∀ b o,h.get? b=some o->H b=none->b ∈ fs->b ∉ ex->∃ sl,h'.get? b=some { o with slots:=sl }
 free:∀ b o,h.get? b=some o->H b=none->b ∉ ex->H' b=none
 there:∀ b o,h.get? b=some o->b ∉ ex->∃ o',h'.get? b=some o'
 tups:∀ b xs,H b=some (.tup xs)->H' b=some (.tup xs)
 frzs:∀ b o u,H b=some (.frz o u)->H' b=some (.frz o u)
 tbls:∀ b ps,H b=some (.tbl ps)->∃ more,H' b=some (.tbl (ps++more))
section
variable {fs fs' ex ex':List Addr} {H H1 H2:Hp} {h h1 h2 h':Heap} {a x e:Addr} {o:HO}
theorem Un.any (u:Un fs ex H H1 h h1) {b:Addr} {ob:Obj} (q:h.get? b=some ob) (n:H b=none) (hx:b ∉ ex):∃ sl,h1.get? b=some { ob with slots:=sl }:=by
 by_cases hb:b ∈ fs
 · exact u.slot b ob q n hb hx
 · exact ⟨ob.slots,u.keep b ob q n hb hx⟩
theorem Un.kept (k:∀ b u,h.get? b=some u->h'.get? b=some u):Un fs ex H H h h':=
 ⟨λb ob q _ _ _=>k b ob q,λb ob q _ _ _=>⟨ob.slots,k b ob q⟩,λ_ _ _ n _=>n,λb ob q _=>⟨ob,k b ob q⟩,λ_ _ q=>q,λ_ _ _ q=>q,λ_ ps q=>⟨#[],by rw [q]; simp⟩⟩
theorem Un.refl:Un fs ex H H h h:=Un.kept λ_ _ q=>q
theorem Un.laid (k:∀ b u,h.get? b=some u->h'.get? b=some u) (hp:h.objs.size<=a) (hn:H a=none):Un fs ex H (upd H a o) h h' where
 keep:=λb u q _ _ _=>k b u q
 slot:=λb u q _ _ _=>⟨u.slots,k b u q⟩
 free:=λb u q n _=>by rw [ax (Nat.ne_of_lt (Nat.lt_of_lt_of_le (Heap.lt_size q) hp))]; exact n
 there:=λb u q _=>⟨u,k b u q⟩
 tups:=λb xs q=>by rw [ax (aQ q hn)]; exact q
 frzs:=λb u xs q=>by rw [ax (aQ q hn)]; exact q
 tbls:=λb ps q=>⟨#[],by rw [ax (aQ q hn),q]; simp⟩
theorem Un.write (mu:Mut (H x)) (he:e=x\/H e=some (.own x)) (k:∀ b u,b ≠ e->h.get? b=some u->h'.get? b=some u) (heo:∃ u,h'.get? e=some u):Un fs ex H (upd H x o) h h':=by
 have hx:∀ b,H b=none->b ≠ x:=λb n z=>by subst z; rw [n] at mu; exact mu
 have hb:∀ b,H b=none->b ≠ e:=λb n z=>by
   subst z
   rcases he with r | r
   · exact hx b n r
   · rw [n] at r; cases r
 have hm:∀ b u,H b=some u->¬ Mut (some u)->b ≠ x:=λb u q nm z=>by subst z; rw [q] at mu; exact nm mu
 refine ⟨λb u q n _ _=>k b u (hb b n) q,λb u q n _ _=>⟨u.slots,k b u (hb b n) q⟩,λb u q n _=>by rw [ax (hx b n)]; exact n,λb u q _=>?_,
   λb xs q=>by rw [ax (hm b _ q λz=>z)]; exact q,λb u xs q=>by rw [ax (hm b _ q λz=>z)]; exact q,λb ps q=>⟨#[],by rw [ax (hm b _ q λz=>z),q]; simp⟩⟩
 by_cases hbe:b=e
 · subst hbe; exact heo
 · exact ⟨u,k b u hbe q⟩
end
noncomputable def trk (h:Heap) (H:Hp):List Addr:=(List.range h.objs.size).filter λa=>(H a).isSome
noncomputable def mz (h:Heap) (H:Hp):Heap:=PySem.W.hideAll h (trk h H)
theorem tJ (h:Heap) (H:Hp):(mz h H).objs.size=h.objs.size:=PySem.W.hideAll_size _ _
theorem um {h:Heap} {H:Hp} {b:Addr} {o:Obj} (e:h.get? b=some o) (n:H b=none):(mz h H).get? b=some o:=
 PySem.W.hideAll_get _ e λhm=>by
   have q:(H b).isSome=true:=(List.mem_filter.mp hm).2
   rw [n] at q; simp at q
theorem wV {h:Heap} {H:Hp} {b:Addr} {o:Obj} (e:(mz h H).get? b=some o):h.get? b=some o/\H b=none:=by
 have e':h.get? b=some o:=PySem.W.of_hideAll (trk h H) e
 refine ⟨e',?_⟩
 cases q:H b with
 | none=>rfl
 | some x=>
   have hm:b ∈ trk h H:=List.mem_filter.mpr ⟨List.mem_range.mpr (Heap.lt_size e'),by simp [q]⟩
   have z:(mz h H).get? b=none:=PySem.W.hideAll_none (trk h H) hm
   rw [z] at e; cases e
noncomputable def wH (g h:Heap) (L:Addr):List (Addr × Obj):=(List.range h.objs.size).filterMap λa=>if a=L\/(g.get? a).isSome=true then none else (h.get? a).map λo=>(a,o)
noncomputable def rest (g h:Heap) (L d:Addr):List (Addr × Obj):=(wH g h L).filter λp=>decide (p.1 ≠ d)
structure Mod (K:PySem.W.Frag) (mg:Str->Option Value) (base:Heap):Prop where
 kin:K.In base
 glob:base.Ns mainGlobals mg
 blt:∃ mb,base.Ns builtinsNs mb/\∀ x:Str,x ≠ "__name__" -> mb x=bootBuiltins x
 nolimit:base.NoLimit
structure Cx where
 prog:Program
 w:World
 K:PySem.W.Frag
 mg:Str->Option Value
 base:Heap
 A:Around
 N:List Str
 s₀:Shared
 H₀:Hp
 env:Env
 outer:List Env
 stack:List Env
 ex:List Addr
 fn:Str->Bool
 calm:Bool
 pn:List (Addr × Obj)
 xe:Value->Shared->Prop
noncomputable def frs (l:List Env):List Addr:=l.filterMap (·.frame)
noncomputable abbrev Cx.fs (X:Cx):List Addr:=frs X.outer
noncomputable def Vis (sc:Scope) (x:Str):Prop:=sc.names.lookup x=some .local\/sc.names.lookup x=some .cell\/sc.names.lookup x=some .free
noncomputable def Loc (sc:Scope) (x:Str):Prop:=sc.names.lookup x=some .local\/sc.names.lookup x=some .cell
noncomputable def Look (env:Env) (h:Heap) (m:Str->Option Value) (x:Str) (u:Value):Prop:=
 (env.kindOf x=some .local/\m x=some u)\/((env.kindOf x=some .cell\/env.kindOf x=some .free)/\∃ c,env.cells.lookup x=some c/\h.IsCell c (some u))
structure Cx.Ok (X:Cx):Prop where
 mod:Mod X.K X.mg X.base
 kind:X.env.scope.kind=.function
 glob:X.env.globals=mainGlobals
 blt:X.env.builtins=builtinsNs
 above:X.s₀.heap.objs.size<=X.env.locals
 inj:∀ x y c,X.env.cells.lookup x=some c->X.env.cells.lookup y=some c->x=y
 has:∀ x,(X.env.kindOf x=some .cell\/X.env.kindOf x=some .free)->∃ c,X.env.cells.lookup x=some c
 cab:∀ x c,X.fn x=true->X.env.cells.lookup x=some c->X.s₀.heap.objs.size<=c
 hd:X.calm=true->X.A.handled=none
 frames:X.A.frames=some X.stack
 stk:X.stack=X.outer\/(X.stack=X.env :: X.outer/\X.env.frame=some X.env.locals)
 exf:∀ b ∈ X.ex,b ≠ X.env.locals/\∀ x c,X.env.cells.lookup x=some c->c ≠ b
 bs:∀ b o,X.base.get? b=some o->X.s₀.heap.get? b=some o/\X.H₀ b=none
 bsz:X.base.objs.size<=X.s₀.heap.objs.size
 noex:∀ b o,X.base.get? b=some o->b ∉ X.ex
 exfs:∀ b ∈ X.ex,b ∉ X.fs
 jR:X.s₀.heap.FunFrames X.base X.outer
 frf:∀ b ∈ X.fs,X.H₀ b=none
structure Inv (X:Cx) (pins:List (Addr × Obj)) (σ:List (Option V)) (H:Hp) (s:Shared):Prop where
 ok:X.Ok
 os:s.os=X.s₀.os
 bare:AllBare s.gens
 base:Un X.fs X.ex X.H₀ H X.s₀.heap s.heap
 loc:∃ m,s.heap.Ns X.env.locals m/\∀ (i:Nat) (x:Str) (v:V),X.N[i]?=some x->σ[i]?=some (some v)->Vis X.env.scope x->∃ u,RelV v u/\Look X.env s.heap m x u
 cell:∀ x c,X.env.cells.lookup x=some c->∃ v,s.heap.IsCell c v
 free:H X.env.locals=none
 freeC:∀ x c,X.env.cells.lookup x=some c->H c=none
 pin:∀ p ∈ X.pn++pins,s.heap.get? p.1=some p.2/\H p.1=none/\p.1 ≠ X.env.locals/\p.1 ∉ X.fs/\∀ v,p.2.data ≠ .cell v
 hok:HOk X.prog X.w H s.heap
 len:σ.length=X.N.length
section
variable {X:Cx} {pins:List (Addr × Obj)} {σ:List (Option V)} {H H':Hp} {s:Shared} {h':Heap}
theorem Cx.Ok.Dd (ok:X.Ok) {b:Addr} {o:Obj} (e:X.base.get? b=some o):b ∉ X.fs:=λhb=>by
 have:=(ok.jR.mem hb).1
 rw [e] at this; cases this
theorem Inv.bs (I:Inv X pins σ H s):∀ b o,X.base.get? b=some o->s.heap.get? b=some o/\H b=none:=λb o e=>
 ⟨I.base.keep b o (I.ok.bs b o e).1 (I.ok.bs b o e).2 (I.ok.Dd e) (I.ok.noex b o e),I.base.free b o (I.ok.bs b o e).1 (I.ok.bs b o e).2 (I.ok.noex b o e)⟩
theorem Inv.bk (I:Inv X pins σ H s):∀ b o,X.base.get? b=some o->s.heap.get? b=some o:=λb o e=>(I.bs b o e).1
theorem Inv.mod (I:Inv X pins σ H s):Mod X.K X.mg X.base:=I.ok.mod
theorem Inv.kIn (I:Inv X pins σ H s):X.K.In s.heap:=I.ok.mod.kin.keeps I.bk
theorem Inv.lt (I:Inv X pins σ H s):X.env.locals < s.heap.objs.size:=let ⟨_,hn,_⟩:=I.loc; hn.lt
theorem Inv.sz (I:Inv X pins σ H s):X.s₀.heap.objs.size<=s.heap.objs.size:=Nat.le_trans I.ok.above (Nat.le_of_lt I.lt)
theorem Inv.CU (I:Inv X pins σ H s) {a:Addr} (h:s.heap.objs.size<=a):a ∉ X.fs:=λhb=>by
 obtain ⟨_,o,ho,_⟩:=I.ok.jR.mem hb
 exact absurd (Nat.lt_of_lt_of_le (Heap.lt_size ho) (Nat.le_trans I.sz h)) (Nat.lt_irrefl _)
theorem Inv.cne (I:Inv X pins σ H s):∀ x c,X.env.cells.lookup x=some c->c ≠ X.env.locals:=λx c e z=>by
 obtain ⟨v,o,ho,hd⟩:=I.cell x c e
 obtain ⟨m,⟨o',es,ep,ho',hd',_⟩,_⟩:=I.loc
 rw [z,ho'] at ho; cases ho; rw [hd'] at hd; cases hd
theorem Inv.jR (I:Inv X pins σ H s):s.heap.FunFrames X.base X.outer:=by
 have all:∀ (l:List Env),(∀ b ∈ frs l,b ∈ X.fs)->X.s₀.heap.FunFrames X.base l->s.heap.FunFrames X.base l:=by
   intro l
   induction l with
   | nil=>intro _ _; trivial
   | cons env r ih=>
     intro hs hl
     obtain ⟨hk,⟨L,o,hf,hn,ho,hd⟩,hr⟩:=hl
     have hL:L ∈ X.fs:=hs L (by unfold frs; rw [List.filterMap_cons,hf]; exact List.mem_cons_self)
     obtain ⟨sl,e⟩:=I.base.slot L o ho (I.ok.frf L hL) hL λz=>I.ok.exfs L z hL
     exact ⟨hk,⟨L,_,hf,hn,e,hd⟩,ih (λb hb=>hs b (by unfold frs; rw [List.filterMap_cons,hf]; exact List.mem_cons_of_mem _ hb)) hr⟩
 exact all X.outer (λ_ hb=>hb) I.ok.jR
theorem Inv.stack (I:Inv X pins σ H s):s.heap.FunFrames X.base X.stack:=by
 rcases I.ok.stk with e | ⟨e,hf⟩
 · rw [e]; exact I.jR
 · rw [e]
   obtain ⟨m,hn,_⟩:=I.loc
   refine .cons (by rw [I.ok.kind]; decide) hf hn ?_ I.jR
   exact Heap.get?_none_of_le (Nat.le_trans I.ok.bsz I.ok.above)
theorem Inv.pz (I:Inv X pins σ H s):∀ b ∈ frs X.stack,b ∈ X.env.locals :: X.fs:=λb hb=>by
 rcases I.ok.stk with e | ⟨e,hf⟩
 · rw [e] at hb; exact List.mem_cons_of_mem _ hb
 · rw [e] at hb
   unfold frs at hb
   rw [List.filterMap_cons,hf] at hb
   exact hb
theorem Inv.qP (I:Inv X pins σ H s):∀ b ∈ frs X.stack,H b=none:=λb hb=>by
 rcases List.mem_cons.mp (I.pz b hb) with e | hb
 · rw [e]; exact I.free
 · obtain ⟨_,o,ho,_⟩:=I.ok.jR.mem hb
   exact I.base.free b o ho (I.ok.frf b hb) λz=>I.ok.exfs b z hb
theorem Inv.step {g':Array GenState} {t':Nat} {d':Drawn} {ch:List Addr} (I:Inv X pins σ H s)
   (hch:∀ b ∈ ch,(b ∈ X.ex\/X.s₀.heap.objs.size<=b)/\b ≠ X.env.locals/\(∀ x c,X.env.cells.lookup x=some c->c ≠ b)/\∀ p ∈ X.pn++pins,p.1 ≠ b)
   (keep:∀ b o,b ≠ X.env.locals->b ∉ X.fs->b ∉ ch->s.heap.get? b=some o->H b=none->h'.get? b=some o)
   (slot:∀ b o,b ≠ X.env.locals->b ∈ X.fs->b ∉ ch->s.heap.get? b=some o->H b=none->∃ sl,h'.get? b=some { o with slots:=sl }) (free:∀ b o,b ∉ ch->s.heap.get? b=some o->H b=none->H' b=none)
   (there:∀ b o,b ∉ ch->s.heap.get? b=some o->∃ o',h'.get? b=some o')
   (tups:∀ b xs,H b=some (.tup xs)->H' b=some (.tup xs)) (frzs:∀ b o u,H b=some (.frz o u)->H' b=some (.frz o u)) (tbls:∀ b ps,H b=some (.tbl ps)->∃ more,H' b=some (.tbl (ps++more)))
   (ns:∀ m,s.heap.Ns X.env.locals m->h'.Ns X.env.locals m) (hok:HOk X.prog X.w H' h') (hg:AllBare g') :
   Inv X pins σ H' { s with heap:=h',gens:=g',drawn:=d',toks:=t' }:=by
 have neL:∀ b o,X.s₀.heap.get? b=some o->b ≠ X.env.locals:=λb o e=>Nat.ne_of_lt (Nat.lt_of_lt_of_le (Heap.lt_size e) I.ok.above)
 have neC:∀ b o,X.s₀.heap.get? b=some o->b ∉ X.ex->b ∉ ch:=λb o e hx hb=>by
   rcases (hch b hb).1 with z | z
   · exact hx z
   · exact absurd (Nat.lt_of_lt_of_le (Heap.lt_size e) z) (Nat.lt_irrefl _)
 have cellK:∀ x c,X.env.cells.lookup x=some c->∀ v,s.heap.IsCell c v->h'.IsCell c v:=λx c e v ⟨o,ho,hd⟩=>by
   have nch:c ∉ ch:=λz=>(hch c z).2.2.1 x c e rfl
   by_cases hc:c ∈ X.fs
   · obtain ⟨sl,q⟩:=slot c o (I.cne x c e) hc nch ho (I.freeC x c e)
     exact ⟨_,q,hd⟩
   · exact ⟨o,keep c o (I.cne x c e) hc nch ho (I.freeC x c e),hd⟩
 refine ⟨I.ok,I.os,hg,⟨λb o e n hb hx=>?_,λb o e n hb hx=>?_,λb o e n hx=>?_,λb o e hx=>?_,λb xs e=>tups b xs (I.base.tups b xs e),λb o xs e=>frzs b o xs (I.base.frzs b o xs e),λb ps e=>?_⟩,?_,λx c e=>?_,?_,λx c e=>?_,λp hp=>?_,hok,I.len⟩
 · exact keep b o (neL b o e) hb (neC b o e hx) (I.base.keep b o e n hb hx) (I.base.free b o e n hx)
 · obtain ⟨sl,e1⟩:=I.base.slot b o e n hb hx
   obtain ⟨sl',e2⟩:=slot b _ (neL b o e) hb (neC b o e hx) e1 (I.base.free b o e n hx)
   exact ⟨sl',e2⟩
 · obtain ⟨o',e1⟩:=I.base.there b o e hx
   exact free b o' (neC b o e hx) e1 (I.base.free b o e n hx)
 · obtain ⟨o',e1⟩:=I.base.there b o e hx
   exact there b o' (neC b o e hx) e1
 · obtain ⟨m1,e1⟩:=I.base.tbls b ps e
   obtain ⟨m2,e2⟩:=tbls b _ e1
   exact ⟨m1++m2,by rw [e2,Array.append_assoc]⟩
 · obtain ⟨m,hn,hl⟩:=I.loc
   refine ⟨m,ns m hn,λi x v e1 e2 e3=>?_⟩
   obtain ⟨u,r,l⟩:=hl i x v e1 e2 e3
   refine ⟨u,r,?_⟩
   rcases l with l | ⟨k,c,e,z⟩
   · exact .inl l
   · exact .inr ⟨k,c,e,cellK x c e _ z⟩
 · obtain ⟨v,z⟩:=I.cell x c e
   exact ⟨v,cellK x c e v z⟩
 · obtain ⟨m,⟨o,_,_,ho,_⟩,_⟩:=I.loc
   exact free _ o (λz=>(hch _ z).2.1 rfl) ho I.free
 · obtain ⟨v,o,ho,hd⟩:=I.cell x c e
   exact free c o (λz=>(hch c z).2.2.1 x c e rfl) ho (I.freeC x c e)
 · obtain ⟨e,n,ne,nf,d⟩:=I.pin p hp
   have nch:p.1 ∉ ch:=λz=>(hch p.1 z).2.2.2 p hp rfl
   exact ⟨keep p.1 p.2 ne nf nch e n,free p.1 p.2 nch e n,ne,nf,d⟩
theorem Inv.un {t':Nat} (I:Inv X pins σ H s) (u:Un X.fs [] H H' s.heap h') (hok:HOk X.prog X.w H' h'):Inv X pins σ H' { s with heap:=h',toks:=t' }:=by
 obtain ⟨m,⟨o,es,ep,ho,r⟩,_⟩:=id I.loc
 obtain ⟨sl,hL⟩:=u.any ho I.free (by simp)
 exact I.step (g':=s.gens) (d':=s.drawn) (ch:=[]) (λ_ z=>nomatch z) (λb o _ hb _ e n=>u.keep b o e n hb (by simp)) (λb o _ hb _ e n=>u.slot b o e n hb (by simp)) (λb o _ e n=>u.free b o e n (by simp)) (λb o _ e=>u.there b o e (by simp)) u.tups u.frzs u.tbls (λm' hm=>by
   obtain ⟨o',es',ep',ho',r'⟩:=hm
   rw [ho] at ho'; cases ho'
   exact ⟨_,es',ep',hL,r'⟩) hok I.bare
theorem Inv.call {g':Array GenState} {t':Nat} {d':Drawn} {ch:List Addr} (I:Inv X pins σ H s) (u:Un (frs X.stack) ch H H' s.heap h') (hok:HOk X.prog X.w H' h') (hg:AllBare g')
   (hch:∀ b ∈ ch,(b ∈ X.ex\/X.s₀.heap.objs.size<=b)/\b ≠ X.env.locals/\(∀ x c,X.env.cells.lookup x=some c->c ≠ b)/\∀ p ∈ X.pn++pins,p.1 ≠ b) :
   Inv X pins σ H' { s with heap:=h',gens:=g',drawn:=d',toks:=t' }:=by
 obtain ⟨m,⟨o,es,ep,ho,r⟩,_⟩:=id I.loc
 obtain ⟨sl,hL⟩:=u.any ho I.free λz=>(hch _ z).2.1 rfl
 exact I.step (ch:=ch) hch (λb o hL hb hc e n=>u.keep b o e n (λz=>(List.mem_cons.mp (I.pz b z)).elim hL hb) hc) (λb o _ _ hc e n=>u.any e n hc) (λb o hc e n=>u.free b o e n hc) (λb o hc e=>u.there b o e hc) u.tups u.frzs u.tbls (λm' hm=>by
   obtain ⟨o',es',ep',ho',r'⟩:=hm
   rw [ho] at ho'; cases ho'
   exact ⟨_,es',ep',hL,r'⟩) hok hg
theorem Inv.turned {t':Nat} {it:Addr} (I:Inv X pins σ H s) (k:∀ b o,b ≠ it->s.heap.get? b=some o->h'.get? b=some o) (hn:H it=none) (hL:it ≠ X.env.locals)
   (h1:it ∈ X.ex\/X.s₀.heap.objs.size<=it) (h2:∀ x c,X.env.cells.lookup x=some c->c ≠ it) (h3:∀ p ∈ X.pn++pins,p.1 ≠ it):Inv X pins σ H { s with heap:=h',toks:=t' }:=by
 have nit:∀ b u,H b=some u->b ≠ it:=λb u e z=>by rw [z,hn] at e; cases e
 refine I.step (g':=s.gens) (d':=s.drawn) (ch:=[it]) (λb hb=>?_) (λb o _ _ hc e _=>k b o (λz=>hc (by simp [z])) e) (λb o _ _ hc e _=>⟨o.slots,k b o (λz=>hc (by simp [z])) e⟩) (λ_ _ _ _ n=>n)
   (λb o hc e=>⟨o,k b o (λz=>hc (by simp [z])) e⟩) (λ_ _ e=>e) (λ_ _ _ e=>e) (λb ps e=>⟨#[],by rw [e]; simp⟩) (λm hm=>?_) (λb u e=>?_) I.bare
 · have e:b=it:=by simpa using hb
   subst e
   exact ⟨h1,hL,h2,h3⟩
 · obtain ⟨o,es,ep,ho,r⟩:=hm
   exact ⟨o,es,ep,k _ o (Ne.symm hL) ho,r⟩
 · refine (I.hok b u e).jS (λc v hc q=>k c v ?_ q) (λ_ q=>q) λ_ _ q=>q
   rcases hc with z | z
   · rw [z]; exact nit b u e
   · exact nit c _ z
theorem Inv.tok (I:Inv X pins σ H s) (t:Nat):Inv X pins σ H { s with toks:=t }:=I.un (h':=s.heap) (t':=t) Un.refl I.hok
theorem Inv.kept {t':Nat} (I:Inv X pins σ H s) (k:∀ b u,s.heap.get? b=some u->h'.get? b=some u):Inv X pins σ H { s with heap:=h',toks:=t' }:=I.un (Un.kept k) (I.hok.kept k)
theorem Inv.laid {a:Addr} {o:HO} {t':Nat} (I:Inv X pins σ H s) (k:∀ b u,s.heap.get? b=some u->h'.get? b=some u) (hp:s.heap.objs.size<=a) (new:bh X.prog X.w (upd H a o) h' a o) :
   Inv X pins σ (upd H a o) { s with heap:=h',toks:=t' }:=I.un (Un.laid k hp (I.hok.fresh hp)) (I.hok.laid k hp new)
theorem Inv.write {x e:Addr} {o:HO} {t':Nat} (I:Inv X pins σ H s) (mu:Mut (H x)) (he:e=x\/H e=some (.own x)) (k:∀ b u,b ≠ e->s.heap.get? b=some u->h'.get? b=some u) (heo:∃ u,h'.get? e=some u)
   (new:bh X.prog X.w (upd H x o) h' x o):Inv X pins σ (upd H x o) { s with heap:=h',toks:=t' }:=I.un (Un.write mu he k heo) (I.hok.write mu he k heo new)
theorem Inv.rX {pins':List (Addr × Obj)} (I:Inv X pins σ H s) (h:∀ p ∈ pins',s.heap.get? p.1=some p.2/\H p.1=none/\p.1 ≠ X.env.locals/\p.1 ∉ X.fs/\∀ v,p.2.data ≠ .cell v):Inv X pins' σ H s:=
 ⟨I.ok,I.os,I.bare,I.base,I.loc,I.cell,I.free,I.freeC,λp hp=>(List.mem_append.mp hp).elim (λz=>I.pin p (List.mem_append_left _ z)) (h p),I.hok,I.len⟩
theorem nV {N:List Str} (hN:N.Nodup) {i j:Nat} {x:Str} (a:N[i]?=some x) (b:N[j]?=some x):i=j:=by
 obtain ⟨h1,e1⟩:=List.getElem?_eq_some_iff.mp a
 obtain ⟨h2,e2⟩:=List.getElem?_eq_some_iff.mp b
 exact (List.getElem_inj hN).mp (e1.trans e2.symm)
theorem sD {M:Model} {A:Around} {E:Value->Shared->Prop} {i:Nat} {x:Str} {v:V} {u:Value} {Q:Unit->Shared->Prop} (I:Inv X pins σ H s) (hN:X.N.Nodup) (hi:X.N[i]?=some x) (hx:Loc X.env.scope x) (r:RelV v u)
   (h:∀ s',Inv X pins (σ.set i (some v)) H s'->(∃ a,Heap.SameBut a s.heap s'.heap/\(a=X.env.locals\/X.env.cells.lookup x=some a))->Q () s') (hf:X.fn x=true\/X.env.scope.names.lookup x=some .local:=by first | exact .inl rfl | exact .inr rfl | assumption):wpAny M A (storeName X.env x u) Q E s:=by
 obtain ⟨m,hn,hl⟩:=id I.loc
 have hcls:(X.env.scope.kind == .class || (X.env.scope.kind == .module && X.env.locals != X.env.globals))=false:=by rw [I.ok.kind]; rfl
 have hiσ:i < σ.length:=by rw [I.len]; exact (List.getElem?_eq_some_iff.mp hi).1
 have cne:=I.cne
 have tracked:∀ {a:Addr} {h':Heap},(∃ o,s.heap.get? a=some o/\H a=none)->Heap.SameBut a s.heap h'->HOk X.prog X.w H h':=λ{a h'} ha hs b ob e=>by
   obtain ⟨_,_,hfree⟩:=ha
   refine (I.hok b ob e).jS (λc w' hc q=>(hs.2 c ?_).trans q) (λ_ q=>q) λ_ _ q=>q
   rintro rfl
   rcases hc with rfl | hc
   · rw [hfree] at e; cases e
   · rw [hfree] at hc; cases hc
 rcases hx with hk | hk
 · refine wpAny_storeName_local hk hn (λh' hn' hs=>?_) hcls
   obtain ⟨oL,_,_,hoL,_⟩:=id hn
   refine h _ ⟨I.ok,I.os,I.bare,⟨λb o e n hb hx=>?_,λb o e n hb hx=>?_,I.base.free,λb o e hx=>?_,I.base.tups,I.base.frzs,I.base.tbls⟩,⟨_,hn',λj y v' e1 e2 e3=>?_⟩,λy c e=>?_,I.free,I.freeC,λp hp=>?_,tracked ⟨oL,hoL,I.free⟩ hs,by simpa using I.len⟩ ⟨_,hs,.inl rfl⟩
   · exact (hs.2 b (Nat.ne_of_lt (Nat.lt_of_lt_of_le (Heap.lt_size e) I.ok.above))).trans (I.base.keep b o e n hb hx)
   · obtain ⟨sl,e1⟩:=I.base.slot b o e n hb hx
     exact ⟨sl,(hs.2 b (Nat.ne_of_lt (Nat.lt_of_lt_of_le (Heap.lt_size e) I.ok.above))).trans e1⟩
   · obtain ⟨o',e1⟩:=I.base.there b o e hx
     exact ⟨o',(hs.2 b (Nat.ne_of_lt (Nat.lt_of_lt_of_le (Heap.lt_size e) I.ok.above))).trans e1⟩
   · by_cases hj:j=i
     · subst hj
       rw [hi] at e1; cases e1
       rw [List.getElem?_set_self hiσ] at e2
       cases e2
       exact ⟨u,r,.inl ⟨hk,by simp⟩⟩
     · rw [List.getElem?_set_ne (Ne.symm hj)] at e2
       obtain ⟨u',r',q⟩:=hl j y v' e1 e2 e3
       refine ⟨u',r',?_⟩
       rcases q with ⟨k,e⟩ | ⟨k,c,e,z⟩
       · refine .inl ⟨k,?_⟩
         have:y ≠ x:=λe=>hj (nV hN e1 (e ▸ hi))
         simp [this,e]
       · exact .inr ⟨k,c,e,z.sameBut hs (cne y c e)⟩
   · obtain ⟨w',z⟩:=I.cell y c e
     exact ⟨w',z.sameBut hs (cne y c e)⟩
   · obtain ⟨e,n,ne,nf,d⟩:=I.pin p hp
     exact ⟨(hs.2 p.1 ne).trans e,n,ne,nf,d⟩
 · have hfn:X.fn x=true:=by
     rcases hf with z | z
     · exact z
     · rw [z] at hk; cases hk
   obtain ⟨c,hc⟩:=I.ok.has x (.inl hk)
   obtain ⟨w',z⟩:=I.cell x c hc
   refine wpAny_storeName_cell I.ok.kind hk hc z (λh' hc' hs=>?_)
   obtain ⟨oc,hoc,hocd⟩:=id z
   refine h { s with heap:=h' } ⟨I.ok,I.os,I.bare,⟨λb o e n hb hx=>?_,λb o e n hb hx=>?_,I.base.free,λb o e hx=>?_,I.base.tups,I.base.frzs,I.base.tbls⟩,⟨m,hn.sameBut hs (Ne.symm (cne x c hc)),λj y v' e1 e2 e3=>?_⟩,λy c' e=>?_,I.free,I.freeC,λp hp=>?_,tracked ⟨oc,hoc,I.freeC x c hc⟩ hs,by simpa using I.len⟩ ⟨c,hs,.inr hc⟩
   · exact (hs.2 b (Nat.ne_of_lt (Nat.lt_of_lt_of_le (Heap.lt_size e) (I.ok.cab x c hfn hc)))).trans (I.base.keep b o e n hb hx)
   · obtain ⟨sl,e1⟩:=I.base.slot b o e n hb hx
     exact ⟨sl,(hs.2 b (Nat.ne_of_lt (Nat.lt_of_lt_of_le (Heap.lt_size e) (I.ok.cab x c hfn hc)))).trans e1⟩
   · obtain ⟨o',e1⟩:=I.base.there b o e hx
     exact ⟨o',(hs.2 b (Nat.ne_of_lt (Nat.lt_of_lt_of_le (Heap.lt_size e) (I.ok.cab x c hfn hc)))).trans e1⟩
   · by_cases hj:j=i
     · subst hj
       rw [hi] at e1; cases e1
       rw [List.getElem?_set_self hiσ] at e2
       cases e2
       exact ⟨u,r,.inr ⟨.inl hk,c,hc,hc'⟩⟩
     · rw [List.getElem?_set_ne (Ne.symm hj)] at e2
       obtain ⟨u',r',q⟩:=hl j y v' e1 e2 e3
       refine ⟨u',r',?_⟩
       rcases q with q | ⟨k,c',e,z'⟩
       · exact .inl q
       · refine .inr ⟨k,c',e,z'.sameBut hs ?_⟩
         rintro rfl
         exact hj (nV hN e1 (I.ok.inj _ _ _ e hc ▸ hi))
   · by_cases hcc:c'=c
     · subst hcc; exact ⟨_,hc'⟩
     · obtain ⟨w2,z2⟩:=I.cell y c' e
       exact ⟨w2,z2.sameBut hs hcc⟩
   · obtain ⟨e,n,ne,nf,d⟩:=I.pin p hp
     refine ⟨(hs.2 p.1 ?_).trans e,n,ne,nf,d⟩
     intro q
     rw [q,hoc] at e
     have q':oc=p.2:=Option.some.inj e
     exact d w' (by rw [<- q']; exact hocd)
theorem oo {M:Model} {A:Around} {E:Value->Shared->Prop} {i:Nat} {x:Str} {v:V} {u:Value} {Q:Unit->Shared->Prop} (I:Inv X pins σ H s) (hN:X.N.Nodup) (hi:X.N[i]?=some x) (hx:Loc X.env.scope x) (r:RelV v u)
   (h:∀ s',Inv X pins (σ.set i (some v)) H s'->Q () s') (hf:X.fn x=true\/X.env.scope.names.lookup x=some .local:=by first | exact .inl rfl | exact .inr rfl | assumption):wpAny M A (storeName X.env x u) Q E s:=
 sD I hN hi hx r (λs' I' _=>h s' I') hf
theorem Inv.yn {s':Shared} {ch:List Addr} (I:Inv X pins σ H s) (ho:s'.os=s.os) (u:Un (frs X.stack) ch H H' s.heap s'.heap) (hok:HOk X.prog X.w H' s'.heap) (hg:AllBare s'.gens)
   (hch:∀ b ∈ ch,(b ∈ X.ex\/X.s₀.heap.objs.size<=b)/\b ≠ X.env.locals/\(∀ x c,X.env.cells.lookup x=some c->c ≠ b)/\∀ p ∈ X.pn++pins,p.1 ≠ b):Inv X pins σ H' s':=by
 obtain ⟨h',g',d',t',o'⟩:=s'
 have e:o'=s.os:=ho
 subst e
 exact I.call (g':=g') (t':=t') (d':=d') u hok hg hch
end
noncomputable abbrev XK:=Value->Option Addr->Hp->Prop
noncomputable abbrev St:=List (Option V)
noncomputable abbrev VK:=V->Hp->Prop
noncomputable abbrev TE:=St->Hp->VK->Prop
noncomputable abbrev TT:=St->Hp->(Bool->Hp->Prop)->Prop
noncomputable abbrev TA:=St->Hp->(List V->Hp->Prop)->Prop
structure Ends where
 nx:St->Hp->Prop
 rt:VK
 bk:St->Hp->Prop:=λ_ _=>False
 ct:St->Hp->Prop:=λ_ _=>False
noncomputable abbrev TS:=Ends->St->Hp->Prop
noncomputable def EP (X:Cx) (pins:List (Addr × Obj)) (σ:St) (Q:VK) (u:Value) (s':Shared):Prop:=∃ v H',Inv X pins σ H' s'/\RelV v u/\Q v H'
noncomputable def TP (X:Cx) (pins:List (Addr × Obj)) (σ:St) (Q:Bool->Hp->Prop) (b:Bool) (s':Shared):Prop:=∃ H',Inv X pins σ H' s'/\Q b H'
noncomputable def AP (X:Cx) (pins:List (Addr × Obj)) (σ:St) (Q:List V->Hp->Prop) (us:List Value) (s':Shared):Prop:=∃ vs H',Inv X pins σ H' s'/\Vals vs us/\Q vs H'
noncomputable def SP (X:Cx) (pins:List (Addr × Obj)) (D:Ends) (f:Flow) (s':Shared):Prop:=
 match f with
 | .next=>∃ σ' H',Inv X pins σ' H' s'/\D.nx σ' H'
 | .brk=>∃ σ' H',Inv X pins σ' H' s'/\D.bk σ' H'
 | .cont=>∃ σ' H',Inv X pins σ' H' s'/\D.ct σ' H'
 | .ret u=>∃ v σ' H',Inv X pins σ' H' s'/\RelV v u/\D.rt v H'
noncomputable def PE (X:Cx) (e:Expr) (t:TE):Prop:=
 ∀ (pins:List (Addr × Obj)) (s:Shared) (σ:St) (H:Hp) (Q:VK),Inv X pins σ H s->t σ H Q->wpAny (model X.prog X.w) X.A (eval e X.env) (EP X pins σ Q) X.xe s
noncomputable def PT (X:Cx) (e:Expr) (t:TT):Prop:=
 ∀ (pins:List (Addr × Obj)) (s:Shared) (σ:St) (H:Hp) (Q:Bool->Hp->Prop),Inv X pins σ H s->t σ H Q->wpAny (model X.prog X.w) X.A (isTrue e X.env (eval e X.env)) (TP X pins σ Q) X.xe s
noncomputable def PW (X:Cx) (e:Expr) (t:TT):Prop:=
 ∀ (whole:Sem Value) (pins:List (Addr × Obj)) (s:Shared) (σ:St) (H:Hp) (Q:Bool->Hp->Prop),Inv X pins σ H s->t σ H Q->wpAny (model X.prog X.w) X.A (isTrue e X.env whole) (TP X pins σ Q) X.xe s
theorem PW.pt {X:Cx} {e:Expr} {t:TT} (h:PW X e t):PT X e t:=h _
noncomputable def PA (X:Cx) (es:List Expr) (t:TA):Prop:=
 ∀ (pos:Pos) (pins:List (Addr × Obj)) (s:Shared) (σ:St) (H:Hp) (Q:List V->Hp->Prop),Inv X pins σ H s->t σ H Q->wpAny (model X.prog X.w) X.A (spliced (backTo pos (starEach es X.env))) (AP X pins σ Q) X.xe s
noncomputable def PS (X:Cx) (st:Stmt) (t:TS):Prop:=
 ∀ (pins:List (Addr × Obj)) (s:Shared) (σ:St) (H:Hp) (D:Ends),Inv X pins σ H s->t D σ H->wpAny (model X.prog X.w) X.A (exec st X.env) (SP X pins D) X.xe s
noncomputable def PSs (X:Cx) (st:List Stmt) (t:TS):Prop:=
 ∀ (pins:List (Addr × Obj)) (s:Shared) (σ:St) (H:Hp) (D:Ends),Inv X pins σ H s->t D σ H->wpAny (model X.prog X.w) X.A (execs st X.env) (SP X pins D) X.xe s
theorem thn {α:Type} {t:Sem α} {Q Q':α->Shared->Prop} {M:Model} {A:Around} {E:Value->Shared->Prop} {s:Shared} (h:wpAny M A t Q E s) (hQ:∀ a s,Q a s->Q' a s):wpAny M A t Q' E s:=wpAny_mono h hQ λ_ _ x=>x
section
variable {X:Cx}
theorem bin {a b:Expr} {ta tb:TE} (ha:PE X a ta) (hb:PE X b tb) {pins:List (Addr × Obj)} {s:Shared} {σ:St} {H:Hp} {R:V->V->Hp->Prop} (I:Inv X pins σ H s) (h:ta σ H λx H1=>tb σ H1 λy H2=>R x y H2)
   {α:Type} {Q:α->Shared->Prop} {f:Value->Value->Sem α}
   (hf:∀ v u s2 x y H2,Inv X pins σ H2 s2->RelV x v->RelV y u->R x y H2->wpAny (model X.prog X.w) X.A (f v u) Q X.xe s2) :
   wpAny (model X.prog X.w) X.A (eval a X.env) (λv s₁=>wpAny (model X.prog X.w) X.A (eval b X.env) (λu s₂=>wpAny (model X.prog X.w) X.A (f v u) Q X.xe s₂) X.xe s₁) X.xe s:=by
 refine thn (ha pins s σ H _ I h) λv s1 ⟨x,H1,I1,r1,q1⟩=>?_
 refine thn (hb pins s1 σ H1 _ I1 q1) λu s2 ⟨y,H2,I2,r2,q2⟩=>?_
 exact hf v u s2 x y H2 I2 r1 r2 q2
noncomputable def BC (i:Nat):TE:=λσ H Q=>∃ v,σ[i]?=some (some v)/\Q v H
noncomputable def tC (v:V):TE:=λ_ H Q=>Q v H
theorem bN {i:Nat} {x:Str} {pos:Pos} (hN:X.N[i]?=some x) (hv:Vis X.env.scope x) (hd:(x == ("__debug__" : Str))=false:=by decide) (hcd:(x == ("__classdict__" : Str))=false:=by decide):PE X (.Name x pos) (BC i):=by
 intro pins s σ H Q I h
 obtain ⟨v,e,h⟩:=h
 obtain ⟨m,hn,hl⟩:=I.loc
 obtain ⟨u,r,l⟩:=hl i x v hN e hv
 have fin:EP X pins σ Q u s:=⟨v,H,I,r,h⟩
 rcases l with ⟨hk,hm⟩ | ⟨hk,c,hc,hcell⟩
 · exact wpAny_Name (wpAny_loadName_local I.ok.kind hk hn hm fin) hd
 · rcases hk with hk | hk
   · exact wpAny_Name (wpAny_loadName_cell I.ok.kind hk hc hcell fin) hd
   · exact wpAny_Name (wpAny_loadName_free I.ok.kind hk hc hcell fin hcd) hd
theorem p9 {i j pos}:PE X (.Constant (.int i) j pos) (tC (.int i)):=λ_ _ _ H _ I h=>wpAny_Constant_int ⟨.int i,H,I.tok _,⟨_,rfl⟩,h⟩
theorem Be {b j pos}:PE X (.Constant (.bool b) j pos) (tC (.bl b)):=λ_ _ _ H _ I h=>Constant_bool ⟨.bl b,H,I,rfl,h⟩
theorem y0 {j pos}:PE X (.Constant .none j pos) (tC .non):=λ_ _ _ H _ I h=>Constant_none ⟨.non,H,I,rfl,h⟩
noncomputable def Gl (X:Cx) (x:Str):Prop:=X.env.kindOf x=some .globalImplicit
theorem rZ {E:Value->Shared->Prop} {pins:List (Addr × Obj)} {s:Shared} {σ:St} {H:Hp} {x:Str} {u:Value} {pos:Pos} {Q:Value->Shared->Prop} (I:Inv X pins σ H s) (hg:Gl X x) (hm:X.mg x=some u) (h:Q u s)
   (hd:(x == ("__debug__" : Str))=false:=by decide):wpAny (model X.prog X.w) X.A (eval (.Name x pos) X.env) Q E s:=
 Calls.Name_function_global I.ok.kind hg (Calls.loadGlobal_global (by rw [I.ok.glob]; exact I.mod.glob.keeps I.bk) hm h) hd
theorem d9 {E:Value->Shared->Prop} {pins:List (Addr × Obj)} {s:Shared} {σ:St} {H:Hp} {x:Str} {u:Value} {pos:Pos} {Q:Value->Shared->Prop} (I:Inv X pins σ H s) (hg:Gl X x) (hm:X.mg x=none) (hv:bootBuiltins x=some u) (h:Q u s)
   (hn:x ≠ "__name__":=by decide) (hd:(x == ("__debug__" : Str))=false:=by decide):wpAny (model X.prog X.w) X.A (eval (.Name x pos) X.env) Q E s:=by
 obtain ⟨mb,h1,h2⟩:=I.mod.blt
 exact Calls.Name_function_global I.ok.kind hg (Calls.loadGlobal_builtin (by rw [I.ok.glob]; exact I.mod.glob.keeps I.bk) hm (by rw [I.ok.blt]; exact h1.keeps I.bk) ((h2 x hn).trans hv) h) hd
theorem wY {x:Str} {v:V} {u:Value} {pos:Pos} (hg:Gl X x) (hm:X.mg x=some u) (r:RelV v u) (hd:(x == ("__debug__" : Str))=false:=by decide):PE X (.Name x pos) (tC v):=
 λ_ _ _ H _ I h=>rZ I hg hm ⟨v,H,I,r,h⟩ hd
theorem we {x:Str} {v:V} {u:Value} {pos:Pos} (hg:Gl X x) (hm:X.mg x=none) (hv:bootBuiltins x=some u) (r:RelV v u) (hn:x ≠ "__name__":=by decide) (hd:(x == ("__debug__" : Str))=false:=by decide):PE X (.Name x pos) (tC v):=
 λ_ _ _ H _ I h=>d9 I hg hm hv ⟨v,H,I,r,h⟩ hn hd
variable {a b:Expr} {ta tb:TE} {pos:Pos}
noncomputable def PC (X:Cx) (op:CmpOp) (a b:Expr) (t:TE):Prop:=
 ∀ (pins:List (Addr × Obj)) (s:Shared) (σ:St) (H:Hp) (Q:VK),Inv X pins σ H s->t σ H Q ->
   wpAny (model X.prog X.w) X.A (eval a X.env) (λv s₁=>wpAny (model X.prog X.w) X.A (eval b X.env) (λu s₂=>wpAny (model X.prog X.w) X.A (compareOp op v u) (EP X pins σ Q) X.xe s₂) X.xe s₁) X.xe s
theorem vQ (b:Expr) {op:CmpOp} (h:op ≠ .In) (h2:op ≠ .NotIn):behindInMarks op b=false:=by
 have e1:(op == CmpOp.In)=false:=by cases op <;> first | rfl | exact absurd rfl h
 have e2:(op == CmpOp.NotIn)=false:=by cases op <;> first | rfl | exact absurd rfl h2
 cases b <;> simp [behindInMarks,e1,e2]
noncomputable def tB (t:TE):TT:=λσ H Q=>t σ H λx H1=>∃ c,x=.bl c/\Q c H1
theorem Dq {op:CmpOp} {t:TE} (h:PC X op a b t) (h1:behindInMarks op b=false:=by first | exact vQ _ (by decide) (by decide) | rfl):PT X (.Compare a [op] [b] pos) (tB t):=by
 intro pins s σ H Q I hw
 refine wpAny_isTrue_Compare1 (thn (h pins s σ H _ I hw) λv s1 h1=>thn h1 λu s2 h2=>thn h2 λc s3 ⟨x,H1,I1,r1,q1⟩=>?_) h1
 obtain ⟨d,rfl,q⟩:=q1
 cases r1
 exact wpAny_truthy_bool ⟨H1,I1,q⟩
theorem zu {e:Expr} {t:TE} (h:PE X e t) (he:∀ whole,isTrue e X.env whole=(do let v <- whole; standAt e.pos; holding [v] (truthy v)):=by intro _; rfl):PT X e (tB t):=by
 intro pins s σ H Q I hw
 refine isTrue_plain (thn (h pins s σ H _ I hw) λv s1 ⟨x,H1,I1,r1,q1⟩=>?_) (he _)
 obtain ⟨d,rfl,q⟩:=q1
 cases r1
 exact wpAny_truthy_bool ⟨H1,I1,q⟩
variable {tA tB':TT} {rest:List Expr}
noncomputable def C9 (t u:TT):TT:=λσ H Q=>t σ H λc H1=>if c=true then u σ H1 Q else Q false H1
noncomputable def tOr (t u:TT):TT:=λσ H Q=>t σ H λc H1=>if c=true then Q true H1 else u σ H1 Q
noncomputable def Dc (t:TT):TT:=λσ H Q=>t σ H λc H1=>Q (!c) H1
theorem pw_and1 (ha:PT X a tA):PW X (.BoolOp .And [a] pos) tA:=by
 intro wh pins s σ H Q I h
 refine isTrue_and (thn (ha pins s σ H Q I h) λc s1 e=>?_)
 cases c with
 | true=>exact isTrue_and_nil e
 | false=>exact e
theorem pw_or1 (ha:PT X a tA):PW X (.BoolOp .Or [a] pos) tA:=by
 intro wh pins s σ H Q I h
 refine isTrue_or (thn (ha pins s σ H Q I h) λc s1 e=>?_)
 cases c with
 | false=>exact isTrue_or_nil e
 | true=>exact e
theorem pw_and (ha:PT X a tA) (hb:PW X (.BoolOp .And (b :: rest) pos) tB'):PW X (.BoolOp .And (a :: b :: rest) pos) (C9 tA tB'):=by
 intro wh pins s σ H Q I h
 refine isTrue_and (thn (ha pins s σ H _ I h) λc s1 ⟨H1,I1,q1⟩=>?_)
 cases c with
 | true=>exact hb wh pins s1 σ H1 Q I1 q1
 | false=>exact ⟨H1,I1,q1⟩
theorem pw_or (ha:PT X a tA) (hb:PW X (.BoolOp .Or (b :: rest) pos) tB'):PW X (.BoolOp .Or (a :: b :: rest) pos) (tOr tA tB'):=by
 intro wh pins s σ H Q I h
 refine isTrue_or (thn (ha pins s σ H _ I h) λc s1 ⟨H1,I1,q1⟩=>?_)
 cases c with
 | true=>exact ⟨H1,I1,q1⟩
 | false=>exact hb wh pins s1 σ H1 Q I1 q1
theorem AR (ha:PT X a tA):PT X (.UnaryOp .Not a pos) (Dc tA):=by
 intro pins s σ H Q I h
 exact isTrue_not (ha pins s σ H (λc H1=>Q (!c) H1) I h)
noncomputable def Ct (ta tb:TE):TE:=λσ H Q=>ta σ H λx H1=>∃ c,x=.bl c/\if c=true then tb σ H1 Q else Q (.bl false) H1
noncomputable def Dj (ta tb:TE):TE:=λσ H Q=>ta σ H λx H1=>∃ c,x=.bl c/\if c=true then Q (.bl true) H1 else tb σ H1 Q
noncomputable def BS (ta:TE):TE:=λσ H Q=>ta σ H λx H1=>∃ c,x=.bl c/\Q (.bl (!c)) H1
theorem zU {op} {t:TE} (h:PE X a t):PE X (.BoolOp op [a] pos) t:=λpins s σ H Q I hw=>BoolOp_one (h pins s σ H Q I hw)
theorem uP (ha:PE X a ta) (hb:PE X (.BoolOp .And (b :: rest) pos) tb):PE X (.BoolOp .And (a :: b :: rest) pos) (Ct ta tb):=by
 intro pins s σ H Q I h
 refine BoolOp_and (thn (ha pins s σ H _ I h) λv s1 ⟨x,H1,I1,r1,q1⟩=>?_)
 obtain ⟨c,rfl,q1⟩:=q1
 cases r1
 refine wpAny_truthy_bool ?_
 cases c with
 | true=>exact hb pins s1 σ H1 Q I1 q1
 | false=>exact ⟨.bl false,H1,I1,rfl,q1⟩
theorem yG (ha:PE X a ta) (hb:PE X (.BoolOp .Or (b :: rest) pos) tb):PE X (.BoolOp .Or (a :: b :: rest) pos) (Dj ta tb):=by
 intro pins s σ H Q I h
 refine BoolOp_or (thn (ha pins s σ H _ I h) λv s1 ⟨x,H1,I1,r1,q1⟩=>?_)
 obtain ⟨c,rfl,q1⟩:=q1
 cases r1
 refine wpAny_truthy_bool ?_
 cases c with
 | false=>exact hb pins s1 σ H1 Q I1 q1
 | true=>exact ⟨.bl true,H1,I1,rfl,q1⟩
theorem ze (ha:PE X a ta):PE X (.UnaryOp .Not a pos) (BS ta):=by
 intro pins s σ H Q I h
 refine UnaryOp_ (thn (ha pins s σ H _ I h) λv s1 ⟨x,H1,I1,r1,q1⟩=>?_)
 obtain ⟨c,rfl,q1⟩:=q1
 cases r1
 exact not_of (wpAny_truthy_bool ⟨.bl (!c),H1,I1,rfl,q1⟩)
end
noncomputable def SqL (K:PySem.W.Frag) (H:Hp) (a:Addr) (xs:List V):Prop:=
 Rd H a (.lst xs) \/
   ∃ (o:Obj) (its:Array Value) (n:Nat),K.lookup a=some o/\o.cls=.type "list" /\ o.dict=none/\o.data=.seq its n/\its.size<=sizeLine/\Vals xs its.toList
noncomputable def SqT (K:PySem.W.Frag) (H:Hp) (a:Addr) (xs:List V):Prop:=
 Rd H a (.tup xs) \/
   ∃ (o:Obj) (its:Array Value) (n:Nat),K.lookup a=some o/\o.cls=.type "tuple" /\ o.data=.seq its n/\its.size<=sizeLine/\Vals xs its.toList
noncomputable def C8:Value->Option V
 | .none=>some .non
 | .bool b=>some (.bl b)
 | .int i _=>some (.int i)
 | .str x _=>some (.str x)
 | .bytes b _=>some (.byt b)
 | .float b _=>some (.flt b)
 | .ref a=>some (.ref a)
 | .type n=>some (.ty n)
 | _=>none
theorem RelV.abs {x:V} {u:Value} (r:RelV x u):C8 u=some x:=by
 cases x with
 | non=>cases r; rfl
 | bl _=>cases r; rfl
 | int _=>obtain ⟨t,rfl⟩:=r; rfl
 | str _=>obtain ⟨t,rfl⟩:=r; rfl
 | byt _=>obtain ⟨t,rfl⟩:=r; rfl
 | flt _=>obtain ⟨t,rfl⟩:=r; rfl
 | ref _=>cases r; rfl
 | ty _=>cases r; rfl
theorem RelV.inj {x y:V} {u:Value} (r:RelV x u) (q:RelV y u):x=y:=Option.some.inj (r.abs.symm.trans q.abs)
theorem Vals.inj:∀ {xs ys:List V} {us:List Value},Vals xs us->Vals ys us->xs=ys
 | _,_,_,.nil,.nil=>rfl
 | _,_,_,.cons r t,.cons r' t'=>by rw [r.inj r',Vals.inj t t']
section
variable {X:Cx} {pins:List (Addr × Obj)} {σ:St} {H:Hp} {s:Shared} {a:Addr} {xs ys:List V}
theorem SqL.of {K:PySem.W.Frag} (h:H a=some (.lst xs)):SqL K H a xs:=.inl (.inl h)
theorem SqT.of {K:PySem.W.Frag} (h:H a=some (.tup xs)):SqT K H a xs:=.inl (.inl h)
theorem Inv.list (I:Inv X pins σ H s) (h:SqL X.K H a xs):∃ its:List Value,Vals xs its/\PlainL s.heap a its.toArray/\xs.length<=sizeLine:=by
 rcases h with h | ⟨o,its,n,hk,hc,hd,hs,hz,r⟩
 · obtain ⟨z,its,n,r,e⟩:=h.ok I.hok
   exact ⟨its,r,⟨_,n,e,rfl,rfl,rfl⟩,z⟩
 · refine ⟨its.toList,r,⟨o,n,I.kIn a o hk,hc,hd,by simpa using hs⟩,?_⟩
   have e:=r.length
   simp only [Array.length_toList] at e
   omega
theorem Inv.tuple (I:Inv X pins σ H s) (h:SqT X.K H a xs):∃ its:List Value,Vals xs its/\IsTup s.heap a its.toArray/\xs.length<=sizeLine:=by
 rcases h with h | ⟨o,its,n,hk,hc,hs,hz,r⟩
 · obtain ⟨z,its,r,p⟩:=h.ok I.hok
   exact ⟨its,r,p,z⟩
 · refine ⟨its.toList,r,⟨o,I.kIn a o hk,hc,n,by simpa using hs⟩,?_⟩
   have e:=r.length
   simp only [Array.length_toList] at e
   omega
theorem Inv.gZ (I:Inv X pins σ H s) (h:SqL X.K H a xs) (h':SqL X.K H a ys):xs=ys:=by
 obtain ⟨its,r,⟨o,n,e,_,_,d⟩,_⟩:=I.list h
 obtain ⟨its',r',⟨o',n',e',_,_,d'⟩,_⟩:=I.list h'
 rw [e] at e'; cases e'
 rw [d] at d'
 injection d' with d1 _
 have:its=its':=by simpa using congrArg Array.toList d1
 subst this
 exact r.inj r'
end
noncomputable abbrev Cx.kK (X:Cx) (E:Value->Shared->Prop):Cx:={ X with xe:=E }
noncomputable abbrev Cx.nox (X:Cx):Cx:=X.kK λ_ _=>False
theorem Cx.Ok.kK {X:Cx} (ok:X.Ok) (E:Value->Shared->Prop):(X.kK E).Ok:=
 ⟨ok.mod,ok.kind,ok.glob,ok.blt,ok.above,ok.inj,ok.has,ok.cab,ok.hd,ok.frames,ok.stk,ok.exf,ok.bs,ok.bsz,ok.noex,ok.exfs,ok.jR,ok.frf⟩
theorem Cx.Ok.eU {X:Cx} {E:Value->Shared->Prop} (ok:(X.kK E).Ok):X.Ok:=
 ⟨ok.mod,ok.kind,ok.glob,ok.blt,ok.above,ok.inj,ok.has,ok.cab,ok.hd,ok.frames,ok.stk,ok.exf,ok.bs,ok.bsz,ok.noex,ok.exfs,ok.jR,ok.frf⟩
section
variable {X:Cx} {pins:List (Addr × Obj)} {σ:St} {H:Hp} {s:Shared} {E:Value->Shared->Prop}
theorem Inv.kK (I:Inv X pins σ H s) (E:Value->Shared->Prop):Inv (X.kK E) pins σ H s:=⟨I.ok.kK E,I.os,I.bare,I.base,I.loc,I.cell,I.free,I.freeC,I.pin,I.hok,I.len⟩
theorem Inv.eU (I:Inv (X.kK E) pins σ H s):Inv X pins σ H s:=⟨I.ok.eU,I.os,I.bare,I.base,I.loc,I.cell,I.free,I.freeC,I.pin,I.hok,I.len⟩
theorem SP.eU {D:Ends} {f:Flow} {s':Shared} (h:SP (X.kK E) pins D f s'):SP X pins D f s':=by
 cases f with
 | next=>obtain ⟨σ',H',I,q⟩:=h; exact ⟨σ',H',I.eU,q⟩
 | brk=>obtain ⟨σ',H',I,q⟩:=h; exact ⟨σ',H',I.eU,q⟩
 | cont=>obtain ⟨σ',H',I,q⟩:=h; exact ⟨σ',H',I.eU,q⟩
 | ret u=>obtain ⟨v,σ',H',I,r,q⟩:=h; exact ⟨v,σ',H',I.eU,r,q⟩
theorem PSs.nox {st:List Stmt} {t:TS} (h:PSs X.nox st t):PSs X st t:=λpins s σ H D I hw=>
 wpAny_mono (h pins s σ H D (I.kK _) hw) (λ_ _ q=>q.eU) λ_ _ z=>False.elim z
end
section
variable {X:Cx} {st:Stmt} {rest:List Stmt} {t u:TS} {e:Expr} {te:TE} {pos:Pos}
noncomputable def BF:TS:=λD σ H=>D.nx σ H
noncomputable def Di (t u:TS):TS:=λD σ H=>t { D with nx:=u D } σ H
theorem jb:PSs X [] BF:=λ_ _ σ H _ I h=>wpAny_execs_nil ⟨σ,H,I,h⟩
theorem ft (h1:PS X st t) (h2:PSs X rest u):PSs X (st :: rest) (Di t u):=by
 intro pins s σ H D I h
 refine wpAny_execs_cons (thn (h1 pins s σ H { D with nx:=u D } I h) λf s1 q=>?_)
 cases f with
 | next=>
   obtain ⟨σ',H',I',q⟩:=q
   exact h2 pins s1 σ' H' D I' q
 | ret v=>exact q
 | brk=>exact q
 | cont=>exact q
theorem wj (h1:PS X st t):PSs X [st] t:=by
 intro pins s σ H D I h
 refine wpAny_execs_cons (thn (h1 pins s σ H D I h) λf s1 q=>?_)
 cases f with
 | next=>exact wpAny_execs_nil q
 | ret v=>exact q
 | brk=>exact q
 | cont=>exact q
theorem Inv.quiet {pins:List (Addr × Obj)} {σ:St} {H:Hp} {s:Shared} (I:Inv X pins σ H s):interactive X.env=false:=by simp [interactive,I.ok.kind]
noncomputable def Cb (te:TE):TS:=λD σ H=>te σ H λ_ H1=>D.nx σ H1
theorem fL (he:PE X e te) (hs:swapsWith e none pos.line X.env=pure false:=by rfl):PS X (.Expr e pos) (Cb te):=by
 intro pins s σ H D I h
 exact wpAny_Expr_any (thn (he pins s σ H _ I h) λv s1 ⟨x,H1,I1,r1,q1⟩=>⟨σ,H1,I1,q1⟩) I.quiet hs
noncomputable def C3 (te:TE):TS:=λD σ H=>te σ H D.rt
theorem pD (he:PE X e te):PS X (.Return (some e) pos) (C3 te):=by
 intro pins s σ H D I h
 exact wpAny_Return_some (thn (he pins s σ H _ I h) λv s1 ⟨x,H1,I1,r1,q1⟩=>⟨x,σ,H1,I1,r1,q1⟩)
noncomputable def BZ:TS:=λD _ H=>D.rt .non H
theorem xX:PS X (.Return none pos) BZ:=λ_ _ σ H _ I h=>wpAny_Return_none ⟨.non,σ,H,I,rfl,h⟩
noncomputable def CT (c:TT) (t u:TS):TS:=λD σ H=>c σ H λb H1=>if b=true then t D σ H1 else u D σ H1
theorem r6 {c:Expr} {a b:List Stmt} {tc:TT} (hc:PT X c tc) (ha:PSs X a t) (hb:PSs X b u):PS X (.If c a b pos) (CT tc t u):=by
 intro pins s σ H D I h
 refine wpAny_If (thn (hc pins s σ H _ I h) λd s1 ⟨H1,I1,q1⟩=>?_)
 cases d with
 | true=>exact ha pins s1 σ H1 D I1 q1
 | false=>exact hb pins s1 σ H1 D I1 q1
noncomputable def zC:TS:=λ_ _ _=>False
theorem dQ {sts:List Stmt}:PSs X sts zC:=λ_ _ _ _ _ _ h=>h.elim
end
noncomputable abbrev TG:=V->St->Hp->(St->Hp->Prop)->Prop
noncomputable abbrev TGs:=List V->St->Hp->(St->Hp->Prop)->Prop
noncomputable def PG (X:Cx) (target:Expr) (t:TG):Prop:=
 ∀ (pins:List (Addr × Obj)) (s:Shared) (σ:St) (H:Hp) (v:V) (u:Value) (Q:St->Hp->Prop),Inv X pins σ H s->RelV v u->t v σ H Q ->
   wpAny (model X.prog X.w) X.A (assign target X.env u) (λ_ s'=>∃ σ' H',Inv X pins σ' H' s'/\Q σ' H') X.xe s
noncomputable def PGs (X:Cx) (ts:List Expr) (t:TGs):Prop:=
 ∀ (pins:List (Addr × Obj)) (s:Shared) (σ:St) (H:Hp) (vs:List V) (us:List Value) (Q:St->Hp->Prop),Inv X pins σ H s->Vals vs us->t vs σ H Q ->
   wpAny (model X.prog X.w) X.A (assignInOrder ((assignEach ts X.env).map (·.2)) us) (λ_ s'=>∃ σ' H',Inv X pins σ' H' s'/\Q σ' H') X.xe s
noncomputable abbrev As:=V->V->V->Hp->(Hp->Prop)->Prop
noncomputable def BE (X:Cx) (t:As):Prop:=
 ∀ (pins:List (Addr × Obj)) (s:Shared) (σ:St) (H:Hp) (o i v:V) (ov iv u:Value) (Q:Hp->Prop),Inv X pins σ H s->RelV o ov->RelV i iv->RelV v u->t o i v H Q ->
   wpAny (model X.prog X.w) X.A (setItem ov iv u) (λ_ s'=>∃ H',Inv X pins σ H' s'/\Q H') X.xe s
section
variable {X:Cx} {pos:Pos}
noncomputable def yt (i:Nat):TG:=λv σ H Q=>Q (σ.set i (some v)) H
theorem da {i:Nat} {x:Str} (hN:X.N.Nodup) (hi:X.N[i]?=some x) (hx:Loc X.env.scope x) (hf:X.fn x=true\/X.env.scope.names.lookup x=some .local:=by first | exact .inl rfl | exact .inr rfl | assumption):PG X (.Name x pos) (yt i):=by
 intro pins s σ H v u Q I r h
 exact wpAny_assign_Name (oo I hN hi hx r (λs' I'=>⟨_,H,I',h⟩) hf)
noncomputable def CQ:TGs:=λvs σ H Q=>vs=[]/\Q σ H
noncomputable def Cy (t:TG) (u:TGs):TGs:=λvs σ H Q=>∃ v r,vs=v :: r/\t v σ H λσ' H'=>u r σ' H' Q
theorem rW:PGs X [] CQ:=by
 intro pins s σ H vs us Q I r h
 obtain ⟨e,h⟩:=h
 subst e
 cases r
 exact assignInOrder_nil ⟨σ,H,I,h⟩
theorem j8 {e:Expr} {es:List Expr} {t:TG} {u:TGs} (h1:PG X e t) (h2:PGs X es u)
   (hs:(assignEach (e :: es) X.env).map (·.2)=assign e X.env :: (assignEach es X.env).map (·.2):=by rfl):PGs X (e :: es) (Cy t u):=by
 intro pins s σ H vs us Q I r h
 obtain ⟨v,vr,e1,h⟩:=h
 subst e1
 cases r with
 | cons r rr=>
   rw [hs]
   refine assignInOrder_cons (thn (h1 pins s σ H _ _ _ I r h) λ_ s1 ⟨σ1,H1,I1,q1⟩=>?_)
   exact h2 pins s1 σ1 H1 _ _ Q I1 rr q1
noncomputable def C4 (K:PySem.W.Frag) (n:Nat) (t:TGs):TG:=λv σ H Q=>∃ a xs,v=.ref a/\SqT K H a xs/\xs.length=n/\t xs σ H Q
theorem vL {es:List Expr} {k:Nat} {t:TGs} {n:Nat} (hc:X.calm=true) (h:PGs X es t)
   (hn:(assignEach es X.env).length=n:=by rfl) (hst:(assignEach es X.env).findIdx? (·.1)=none:=by rfl):PG X (.Tuple es k pos) (C4 X.K n t):=by
 intro pins s σ H v u Q I r hw
 obtain ⟨a,xs,e1,hq,hl,hw⟩:=hw
 subst e1
 cases r
 obtain ⟨its,rv,ht,hz⟩:=I.tuple hq
 refine assign_Tuple_tuple (I.ok.hd hc) ht (by simp [hn,<- hl,rv.length]) hst λh' hx=>?_
 have I1:Inv X pins σ H { s with heap:=h' }:=I.kept (t':=s.toks) λb o e=>hx b o (Nat.ne_of_lt (Heap.lt_size e)) e
 exact h pins _ σ H xs _ Q I1 (by simpa using rv) hw
noncomputable def De (to ti:TE) (t:As):TG:=λv σ H Q=>to σ H λo H1=>ti σ H1 λi H2=>t o i v H2 λH3=>Q σ H3
theorem pX {o i:Expr} {to ti:TE} {t:As} (ho:PE X o to) (hi:PE X i ti) (hs:BE X t)
   (ha:∀ v,assign (.Subscript o i pos) X.env v=(do
     let ov <- holding [v] (eval o X.env)
     let iv <- holding [v,ov] (eval i X.env)
     standAt pos
     holding [v,ov,iv] (setItem ov iv v)
     release [v,ov,iv] []):=by intro _; rfl):PG X (.Subscript o i pos) (De to ti t):=by
 intro pins s σ H v u Q I r h
 rw [ha]
 refine wpAny_bind (wpAny_holding (thn (ho pins s σ H _ I h) λov s1 ⟨x,H1,I1,r1,q1⟩=>?_))
 refine wpAny_bind (wpAny_holding (thn (hi pins s1 σ H1 _ I1 q1) λiv s2 ⟨y,H2,I2,r2,q2⟩=>?_))
 refine wpAny_bind (wpAny_standAt (wpAny_bind (wpAny_holding (thn (hs pins s2 σ H2 x y v ov iv u _ I2 r1 r2 r q2) λ_ s3 ⟨H3,I3,q3⟩=>?_))))
 exact wpAny_release ⟨σ,H3,I3,q3⟩
noncomputable def AM (te:TE) (g:TG):TS:=λD σ H=>te σ H λx H1=>g x σ H1 D.nx
theorem mU {tg e:Expr} {te:TE} {g:TG} (he:PE X e te) (hg:PG X tg g) (hs:swapsWithSole [tg] e pos.line X.env=pure false:=by rfl) (hw:swappedStores [tg] e X.env=pure none:=by rfl)
   (h1:(assignEach [tg] X.env).map (·.2)=[assign tg X.env]:=by rfl):PS X (.Assign [tg] e pos) (AM te g):=by
 intro pins s σ H D I h
 refine wpAny_Assign_stores (thn (he pins s σ H _ I h) λv s1 ⟨x,H1,I1,r1,q1⟩=>?_) hs hw
 rw [h1]
 exact thn (hg pins s1 σ H1 x v _ I1 r1 q1) λ_ s2 q=>q
theorem tY {i:Nat} {x:Str} {e:Expr} {te:TE} {pos':Pos} (hN:X.N.Nodup) (hi:X.N[i]?=some x) (hx:Loc X.env.scope x) (he:PE X e te) (hs:swapsWith e (some (.Name x pos')) pos.line X.env=pure false:=by rfl) (hf:X.fn x=true\/X.env.scope.names.lookup x=some .local:=by first | exact .inl rfl | exact .inr rfl | assumption) :
   PS X (.Assign [.Name x pos'] e pos) (AM te (yt i)):=by
 intro pins s σ H D I h
 refine wpAny_Assign_Name (thn (he pins s σ H _ I h) λv s1 ⟨y,H1,I1,r1,q1⟩=>?_) hs
 exact oo I1 hN hi hx r1 (λs2 I2=>⟨_,H1,I2,q1⟩) hf
end
section
variable {X:Cx} {pos:Pos}
noncomputable def zW (c:TT) (tb:TS):TS:=λD σ H=>∃ W:Nat->St->Hp->Prop,(∃ m,W m σ H)/\∀ m σ H,W m σ H ->
 c σ H λb H1=>if b=true then ∃ N:St->Hp->Prop,(∀ σ' H',N σ' H'->∃ m',m' < m/\W m' σ' H')/\tb { D with nx:=N,ct:=N,bk:=D.nx } σ H1 else D.nx σ H1
theorem tZ {c:Expr} {body:List Stmt} {tc:TT} {tb:TS} (hp:PassesOwn (model X.prog X.w) X.A X.env X.xe) (hc:PT X c tc) (hb:PSs X body tb):PS X (.While c body [] pos) (zW tc tb):=by
 intro pins s σ H D I h
 obtain ⟨W,⟨m0,w0⟩,turn⟩:=h
 refine wpAny_While (codeAny_whileLoop (λn s'=>∃ σ' H',Inv X pins σ' H' s'/\W n σ' H') ?_ m0 ⟨σ,H,I,w0⟩)
 rintro n s1 ⟨σ1,H1,I1,w1⟩
 refine wpAny_passesOwn hp (thn (hc pins s1 σ1 H1 _ I1 (turn n σ1 H1 w1)) λb s2 ⟨H2,I2,q2⟩=>?_)
 cases b with
 | true=>
   obtain ⟨N,hN,q2⟩:=q2
   rw [if_pos rfl]
   refine wpAny_passesOwn hp (thn (hb pins s2 σ1 H2 _ I2 q2) λf s3 q3=>?_)
   cases f with
   | next=>
     obtain ⟨σ3,H3,I3,n3⟩:=q3
     obtain ⟨m',hm,w3⟩:=hN σ3 H3 n3
     exact ⟨m',hm,σ3,H3,I3,w3⟩
   | cont=>
     obtain ⟨σ3,H3,I3,n3⟩:=q3
     obtain ⟨m',hm,w3⟩:=hN σ3 H3 n3
     exact ⟨m',hm,σ3,H3,I3,w3⟩
   | brk=>exact q3
   | ret v=>exact q3
 | false=>
   rw [if_neg Bool.false_ne_true]
   exact wpAny_execs_nil ⟨σ1,H2,I2,q2⟩
end
structure It where
 go:Nat->Hp->Prop
 yld:Nat->Hp->V->Hp->Prop
 stop:Nat->Hp->Prop
noncomputable def kB (X:Cx) (pins:List (Addr × Obj)) (H:Hp) (b:Addr):Prop:=
 H b=none/\b ≠ X.env.locals/\b ∉ X.fs/\(b ∈ X.ex\/X.s₀.heap.objs.size<=b)/\(∀ x c,X.env.cells.lookup x=some c->c ≠ b)/\∀ p ∈ X.pn++pins,p.1 ≠ b
theorem Inv.oJ {X:Cx} {pins:List (Addr × Obj)} {σ:St} {H H':Hp} {s:Shared} {b:Addr} (I:Inv X pins σ H s) (hb:s.heap.objs.size<=b) (hn:H' b=none):kB X pins H' b:=by
 refine ⟨hn,Nat.ne_of_gt (Nat.lt_of_lt_of_le I.lt hb),I.CU hb,.inr (Nat.le_trans I.sz hb),λx c e z=>?_,λp hp z=>?_⟩
 · obtain ⟨v,q⟩:=I.cell x c e
   exact absurd (Nat.lt_of_lt_of_le q.lt (by rw [z]; exact hb)) (Nat.lt_irrefl _)
 · exact absurd (Nat.lt_of_lt_of_le (Heap.lt_size (I.pin p hp).1) (by rw [z]; exact hb)) (Nat.lt_irrefl _)
noncomputable def Dm (X:Cx):Prop:=∃ h o u vs,X.A.handled=some (.ref h)/\X.H₀ h=some (.frz o u)/\o.data=.fields vs/\vs[2]?=some .none
noncomputable def Ck (kd:Bool) (X:Cx):Prop:=X.calm=true\/(kd=true/\Dm X)
theorem Ck.calm {X:Cx} (h:Ck false X):X.calm=true:=h.resolve_right λz=>nomatch z.1
structure Turn (P:Program) (w:World) (K:PySem.W.Frag) (kd:Bool) (tg:Expr) (J:It) (fp:List Addr) (it:Addr) (tn:Nat->Heap->Prop):Prop where
 mem:it ∈ fp
 obj:∀ i h,tn i h->∀ b ∈ fp,∃ o,h.get? b=some o/\∀ v,o.data ≠ .cell v
 keep:∀ i h h',tn i h->(∀ b ∈ fp,∀ o,h.get? b=some o->h'.get? b=some o)->tn i h'
 item:∀ (X:Cx),X.prog=P->X.w=w->X.K=K->Ck kd X->∀ (i:Nat) (pins:List (Addr × Obj)) (s:Shared) (σ:St) (H:Hp) (E:Value->Shared->Prop),Inv X pins σ H s->(∀ b ∈ fp,kB X pins H b)->tn i s.heap->J.go i H ->
   wpAny (model P w) X.A (pyNext (.ref it)) (λr s1=>∃ u,r=some u /\
     wpAny (model P w) X.A (letOwnedTupleGo tg (.ref it) u) (λ_ s2=>∃ x H',Inv X pins σ H' s2/\RelV x u/\J.yld i H x H'/\tn (i + 1) s2.heap/\∀ b ∈ fp,H' b=none) E s1) E s
 done:∀ (X:Cx),X.prog=P->X.w=w->X.K=K->Ck kd X->∀ (i:Nat) (pins:List (Addr × Obj)) (s:Shared) (σ:St) (H:Hp) (E:Value->Shared->Prop),Inv X pins σ H s->(∀ b ∈ fp,kB X pins H b)->tn i s.heap->J.stop i H ->
   wpAny (model P w) X.A (pyNext (.ref it)) (λr s1=>r=none/\Inv X pins σ H s1) E s
 self:∀ (A:Around) (i:Nat) (s:Shared) (Q:Value->Shared->Prop) (E:Value->Shared->Prop),tn i s.heap->Q (.ref it) s->wpAny (model P w) A (pyIter (.ref it)) Q E s
noncomputable abbrev TI:=St->Hp->(It->Hp->Prop)->Prop
noncomputable def PIE (X:Cx) (pins:List (Addr × Obj)) (σ:St) (tg:Expr) (R:It->Hp->Prop) (itv:Value) (s2:Shared):Prop:=
 ∃ (kd:Bool) (it:Addr) (fp:List Addr) (tn:Nat->Heap->Prop) (J:It) (H':Hp),itv=.ref it/\Inv X pins σ H' s2/\Ck kd X/\Turn X.prog X.w X.K kd tg J fp it tn/\tn 0 s2.heap/\(∀ b ∈ fp,kB X pins H' b)/\R J H'
noncomputable def PI (X:Cx) (tg iter:Expr) (wi:TI):Prop:=
 ∀ (pins:List (Addr × Obj)) (s:Shared) (σ:St) (H:Hp) (R:It->Hp->Prop),Inv X pins σ H s->wi σ H R ->
   wpAny (model X.prog X.w) X.A (eval iter X.env) (λv s1=>wpAny (model X.prog X.w) X.A (pyIter v) (PIE X pins σ tg R) X.xe s1) X.xe s
theorem qC {M:Model} {A:Around} {E:Value->Shared->Prop} {s:Shared} {tg:Expr} {it:Addr} {u:Value} {o:Obj} {n:String} {vs:Array Value} {Q:Unit->Shared->Prop} (ho:s.heap.get? it=some o) (hc:o.cls=.type n) (hd:o.data=.fields vs)
   (hn:["enumerate","zip","dict_itemiterator","dict_reverseitemiterator","odict_iterator","itertools.zip_longest","itertools.pairwise"].contains n=false) (hQ:Q () s):wpAny M A (letOwnedTupleGo tg (.ref it) u) Q E s:=by
 unfold letOwnedTupleGo
 cases tg <;> first
   | exact wpAny_pure hQ
   | (cases u <;> first
       | exact wpAny_pure hQ
       | (refine wpAny_bind (wpAny_load ho ?_)
          rw [hc,hd]
          show wpAny M A (if (["enumerate","zip","dict_itemiterator","dict_reverseitemiterator","odict_iterator","itertools.zip_longest","itertools.pairwise"].contains n && vs[0]? == some (rawInt _))=true then _ else _) Q E s
          rw [if_neg (by intro h; rw [hn,Bool.false_and] at h; cases h)]
          exact wpAny_pure hQ))
noncomputable def Itl (K:PySem.W.Frag) (a:Addr):It:=
 ⟨λi H=>∃ xs x,SqL K H a xs/\xs[i]?=some x,λi H x H'=>H'=H/\∀ xs,SqL K H a xs->xs[i]?=some x,λi H=>∃ xs,SqL K H a xs/\xs.length<=i⟩
noncomputable def Itr (lo:Int) (n:Nat):It:=⟨λi _=>i < n,λi H x H'=>H'=H/\x=.int (lo + i),λi _=>n<=i⟩
theorem sU {P:Program} {w:World} {K:PySem.W.Frag} {tg:Expr} (a it:Addr):Turn P w K false tg (Itl K a) [it] it (λi h=>h.IsListIter it a i) where
 mem:=by simp
 obj:=λi h st b hb=>by
   have e:b=it:=by simpa using hb
   subst e
   obtain ⟨o,e,c,d⟩:=st
   exact ⟨o,e,λv z=>by rw [d] at z; cases z⟩
 keep:=λi h h' st k=>st.at λo e=>k it (by simp) o e
 item:=by
   intro X hP hw hK hc i pins s σ H E I hf st hg
   subst hP hw hK
   obtain ⟨xs,x,hq,hx⟩:=hg
   obtain ⟨its,rv,p,hz⟩:=I.list hq
   obtain ⟨u,hu,ru⟩:=rv.get hx
   obtain ⟨f0,f1,f2,f3,f4,f5⟩:=hf it (by simp)
   refine wpAny_pyNext_list_item st p.isList (x:=u) (by simpa using hu) λh' st' sb=>?_
   have I1:Inv X pins σ H { s with heap:=h' }:=I.turned (t':=s.toks) (λb o hb e=>(sb.2 b hb).trans e) f0 f1 f3 f4 f5
   obtain ⟨o,e,c,d⟩:=id st'
   exact ⟨u,rfl,qC (s:={ s with heap:=h' }) e c d (by decide) ⟨x,H,I1,ru,⟨rfl,λys hy=>by rw [I.gZ hy hq]; exact hx⟩,st',λb hb=>(hf b hb).1⟩⟩
 done:=by
   intro X hP hw hK hc i pins s σ H E I hf st hg
   subst hP hw hK
   obtain ⟨xs,hq,hx⟩:=hg
   obtain ⟨its,rv,p,hz⟩:=I.list hq
   obtain ⟨f0,f1,f2,f3,f4,f5⟩:=hf it (by simp)
   have hl:=rv.length
   exact wpAny_pyNext_list_end (I.ok.hd hc.calm) st p.isList (by simp; omega) λh' eb=>⟨rfl,I.turned (t':=s.toks) (λb o hb e=>eb b o hb e) f0 f1 f3 f4 f5⟩
 self:=λ_ _ _ _ _ st h=>wpAny_pyIter_listiter st h
theorem pZ {P:Program} {w:World} {K:PySem.W.Frag} {tg:Expr} (it:Addr) (lo:Int) (n:Nat):Turn P w K true tg (Itr lo n) [it] it (λi h=>IsRangeIter h it (lo + (i:Nat) * 1) ((n:Int) - (i:Nat)) 1) where
 mem:=by simp
 obj:=λi h st b hb=>by
   have e:b=it:=by simpa using hb
   subst e
   exact ⟨_,st,λv z=>by
     have z':Data.fields _=Data.cell v:=z
     cases z'⟩
 keep:=λi h h' st k=>k it (by simp) _ st
 item:=by
   intro X hP hw hK hc i pins s σ H E I hf st hg
   subst hP hw hK
   obtain ⟨f0,f1,f2,f3,f4,f5⟩:=hf it (by simp)
   refine wpAny_pyNext_range_item st (by have:i < n:=hg; omega) λh' st0 sb=>?_
   have st':IsRangeIter h' it (lo + ((i + 1:Nat):Int) * 1) ((n:Int) - ((i + 1:Nat):Int)) 1:=by
     have e1:lo + ((i + 1:Nat):Int) * 1=lo + (i:Nat) * 1 + 1:=by omega
     have e2:(n:Int) - ((i + 1:Nat):Int)=(n:Int) - (i:Nat) - 1:=by omega
     rw [e1,e2]; exact st0
   have I1:Inv X pins σ H { s with heap:=h',toks:=s.toks + 1 }:=I.turned (λb o hb e=>(sb.2 b hb).trans e) f0 f1 f3 f4 f5
   refine ⟨_,rfl,qC (s:={ s with heap:=h',toks:=s.toks + 1 }) (n:="range_iterator") st' rfl rfl (by decide) ⟨.int (lo + i),H,I1,⟨s.toks,?_⟩,⟨rfl,rfl⟩,st',λb hb=>(hf b hb).1⟩⟩
   rw [Int.mul_one]
 done:=by
   intro X hP hw hK hc i pins s σ H E I hf st hg
   subst hP hw hK
   obtain ⟨f0,f1,f2,f3,f4,f5⟩:=hf it (by simp)
   rcases hc with hc | ⟨_,q,o,u,vs,e1,e2,e3,e4⟩
   · exact wpAny_pyNext_range_end (I.ok.hd hc) st (by have:n<=i:=hg; omega) λh' eb=>⟨rfl,I.turned (t':=s.toks) (λb o hb e=>eb b o hb e) f0 f1 f3 f4 f5⟩
   · have e5:=I.hok q _ (I.base.frzs q o u e2)
     exact Hx.pV e1 e5.1 e3 e4 st (by have:n<=i:=hg; omega) λh' eb=>⟨rfl,I.turned (t':=s.toks) (λb o hb e=>eb b o hb e) f0 f1 f3 f4 f5⟩
 self:=λ_ _ _ _ _ st h=>wpAny_pyIter_rangeiter st h
section
variable {X:Cx} {tg:Expr}
noncomputable def Cn (K:PySem.W.Frag) (tl:TE):TI:=λσ H R=>tl σ H λx H1=>∃ a,x=.ref a/\(∃ xs,SqL K H1 a xs)/\R (Itl K a) H1
theorem yc {l:Expr} {tl:TE} (hc:X.calm=true) (hl:PE X l tl):PI X tg l (Cn X.K tl):=by
 intro pins s σ H R I h
 refine thn (hl pins s σ H _ I h) λv s1 ⟨x,H1,I1,r1,q1⟩=>?_
 obtain ⟨a,e,⟨xs,hq⟩,q⟩:=q1
 subst e
 cases r1
 obtain ⟨its,rv,p,hz⟩:=I1.list hq
 refine wpAny_pyIter_list p.isList ?_
 refine ⟨false,s1.heap.objs.size,[s1.heap.objs.size],_,_,H1,rfl,I1.kept (t':=s1.toks) λb o e=>Heap.get?_push_of_some _ e,.inl hc,sU a _,⟨_,Heap.get?_push_size _ rfl,rfl,rfl⟩,λb hb=>?_,q⟩
 have e:b=s1.heap.objs.size:=by simpa using hb
 subst e
 exact I1.oJ (Nat.le_refl _) (I1.hok.fresh (Nat.le_refl _))
theorem oV {pins:List (Addr × Obj)} {σ:St} {H:Hp} {s:Shared} {R:It->Hp->Prop} {E:Value->Shared->Prop} {lo hi:Int} {t u v:Tok} {tk:Nat} (hc:Ck true X) (I:Inv X pins σ H s) (h1:-(2 ^ 62)<=lo) (h2:lo < 2 ^ 62) (h3:-(2 ^ 62)<=hi) (h4:hi < 2 ^ 62)
   (q:R (Itr lo (hi - lo).toNat) H):wpAny (model X.prog X.w) X.A (pyIter (.ref s.heap.objs.size)) (PIE X pins σ tg R) E { s with heap:=s.heap.push { cls:=.type "range",data:=.fields #[.int lo t,.int hi u,.int 1 v] },toks:=tk }:=by
 refine wpAny_pyIter_range (IsRange.new ..) (small_one h1 h2 h3 h4) ?_
 have I1:Inv X pins σ H { s with heap:=s.heap.push { cls:=.type "range",data:=.fields #[.int lo t,.int hi u,.int 1 v] },toks:=tk }:=I.kept λb o e=>Heap.get?_push_of_some _ e
 refine ⟨true,(s.heap.push { cls:=.type "range",data:=.fields #[.int lo t,.int hi u,.int 1 v] }).objs.size,[(s.heap.push { cls:=.type "range",data:=.fields #[.int lo t,.int hi u,.int 1 v] }).objs.size],_,_,H,rfl,
   I1.kept (t':=tk) λb o e=>Heap.get?_push_of_some _ e,hc,pZ _ lo (hi - lo).toNat,?_,λb hb=>?_,q⟩
 · have e1:lo + ((0:Nat):Int) * 1=lo:=by simp
   have e2:(((hi - lo).toNat:Nat):Int) - ((0:Nat):Int)=Builtin.Range.rangeSize lo hi 1:=by rw [rangeSize_one]; split <;> omega
   show IsRangeIter _ _ (lo + ((0:Nat):Int) * 1) ((((hi - lo).toNat:Nat):Int) - ((0:Nat):Int)) 1
   rw [e1,e2]
   exact Heap.get?_push_size _ rfl
 · have e:b=(s.heap.push { cls:=.type "range",data:=.fields #[.int lo t,.int hi u,.int 1 v] }).objs.size:=by simpa using hb
   subst e
   exact I1.oJ (Nat.le_refl _) (I1.hok.fresh (Nat.le_refl _))
noncomputable def BK (ta:TA):TI:=λσ H R=>ta σ H λvs H1=>∃ j:Int,vs=[.int j]/\-(2 ^ 62)<=j/\j < 2 ^ 62/\R (Itr 0 j.toNat) H1
noncomputable def Bw (ta:TA):TI:=λσ H R=>ta σ H λvs H1=>∃ i j:Int,vs=[.int i,.int j]/\(-(2 ^ 62)<=i/\i < 2 ^ 62/\-(2 ^ 62)<=j/\j < 2 ^ 62)/\R (Itr i (j - i).toNat) H1
theorem tM {a:Expr} {ta:TA} {p pos:Pos} (hc:Ck true X) (hg:Gl X "range") (hm:X.mg "range" = none) (ha:PA X [a] ta) (hs:starEach [a] X.env=[(false,eval a X.env)]:=by rfl):PI X tg (.Call (.Name "range" p) [a] [] pos) (BK ta):=by
 intro pins s σ H R I h
 refine Call_ (d9 I hg hm boot_range (PyProof.Rows.callWith_type1 (thn (ha pos pins s σ H _ I h) λus s1 ⟨vs,H1,I1,r1,q1⟩=>?_) hs rfl))
 obtain ⟨j,e,q1,q2,q⟩:=q1
 subst e
 cases r1 with
 | cons r rr=>
   cases rr
   obtain ⟨t,rfl⟩:=r
   exact call_range_1 (oV hc I1 (by omega) (by omega) q1 q2 (by simpa using q))
theorem sV {a b:Expr} {ta:TA} {p pos:Pos} (hc:Ck true X) (hg:Gl X "range") (hm:X.mg "range" = none) (ha:PA X [a,b] ta) (hs:starEach [a,b] X.env=[(false,eval a X.env),(false,eval b X.env)]:=by rfl) (hs2:starEach [b] X.env=[(false,eval b X.env)]:=by rfl) :
   PI X tg (.Call (.Name "range" p) [a,b] [] pos) (Bw ta):=by
 intro pins s σ H R I h
 refine Call_ (d9 I hg hm boot_range (PyProof.Rows.callWith_type1 (thn (ha pos pins s σ H _ I h) λus s1 ⟨vs,H1,I1,r1,q1⟩=>?_) (by rw [hs,hs2]) (by rw [hs2]; rfl)))
 obtain ⟨i,j,e,⟨q1,q2,q3,q4⟩,q⟩:=q1
 subst e
 cases r1 with
 | cons r rr=>
   cases rr with
   | cons r' rr=>
     cases rr
     obtain ⟨t,rfl⟩:=r
     obtain ⟨t',rfl⟩:=r'
     exact call_range_2 (oV hc I1 q1 q2 q3 q4 q)
noncomputable def CO (wi:TI) (g:TG) (tb:TS):TS:=λD σ H=>wi σ H λJ H1=>∃ W:Nat->Nat->St->Hp->Prop,(∃ m,W 0 m σ H1)/\∀ i m σ H,W i m σ H ->
 (J.stop i H/\D.nx σ H)\/(J.go i H/\∃ N:St->Hp->Prop,(∀ σ' H',N σ' H'->∃ m',m' < m/\W (i + 1) m' σ' H')/\∀ x H',J.yld i H x H'->g x σ H' λσ2 H2=>tb { D with nx:=N,ct:=N,bk:=D.nx } σ2 H2)
noncomputable def gy (fp:List Addr) (h:Heap):List (Addr × Obj):=fp.filterMap λb=>(h.get? b).map λo=>(b,o)
theorem bT {fp:List Addr} {h:Heap} {b:Addr} {o:Obj} (hb:b ∈ fp) (e:h.get? b=some o):(b,o) ∈ gy fp h:=List.mem_filterMap.mpr ⟨b,hb,by rw [e]; rfl⟩
theorem sZ {fp:List Addr} {h:Heap} {p:Addr × Obj} (hp:p ∈ gy fp h):p.1 ∈ fp/\h.get? p.1=some p.2:=by
 obtain ⟨b,hb,e⟩:=List.mem_filterMap.mp hp
 cases q:h.get? b with
 | none=>rw [q] at e; cases e
 | some o=>
   rw [q] at e
   have e':(b,o)=p:=Option.some.inj e
   subst e'
   exact ⟨hb,q⟩
theorem Inv.pinned {pins:List (Addr × Obj)} {σ:St} {H:Hp} {s:Shared} {fp:List Addr} (I:Inv X pins σ H s) (hf:∀ b ∈ fp,kB X pins H b) (ho:∀ b ∈ fp,∃ o,s.heap.get? b=some o/\∀ v,o.data ≠ .cell v):Inv X (pins++gy fp s.heap) σ H s:=
 I.rX λp hp=>(List.mem_append.mp hp).elim (λz=>I.pin p (List.mem_append_right _ z)) λz=>by
   obtain ⟨hb,e⟩:=sZ z
   obtain ⟨f0,f1,f2,_⟩:=hf p.1 hb
   obtain ⟨o,e',d⟩:=ho p.1 hb
   rw [e] at e'; cases e'
   exact ⟨e,f0,f1,f2,d⟩
theorem Inv.dN {pins pl:List (Addr × Obj)} {σ:St} {H:Hp} {s:Shared} (I:Inv X (pins++pl) σ H s):Inv X pins σ H s:=I.rX λp hp=>I.pin p (List.mem_append_right _ (List.mem_append_left _ hp))
theorem uK {iter:Expr} {body:List Stmt} {wi:TI} {g:TG} {tb:TS} {pos:Pos} (hp:PassesOwn (model X.prog X.w) X.A X.env X.xe) (hi:PI X tg iter wi) (hg:PG X tg g) (hb:PSs X body tb)
   (hs:∀ x,foldedSetIterable iter X.env x=pure x:=by intro _; rfl):PS X (.For tg iter body [] pos) (CO wi g tb):=by
 intro pins s σ H D I h
 refine wpAny_For (thn (hi pins s σ H _ I h) λv s1 h1=>thn h1 λitv s2 h2=>?_) hs
 obtain ⟨kd,it,fp,tn,J,H2,e,I2,hc,T,st2,f2,W,⟨m0,w0⟩,turn⟩:=h2
 subst e
 have stat:∀ {H':Hp},(∀ b ∈ fp,H' b=none)->∀ b ∈ fp,kB X pins H' b:=λhn b hb=>⟨hn b hb,(f2 b hb).2⟩
 refine codeAny_forLoop_any (λn s'=>∃ i σ' H',Inv X pins σ' H' s'/\tn i s'.heap/\(∀ b ∈ fp,H' b=none)/\W i n σ' H') ?_ m0 ⟨0,σ,H2,I2,st2,λb hb=>(f2 b hb).1,w0⟩
 rintro n s3 ⟨i,σ3,H3,I3,st3,fr3,w3⟩
 rcases turn i n σ3 H3 w3 with ⟨stop,qn⟩ | ⟨go,N,hN,step⟩
 · refine wpAny_passesOwn hp (thn (T.done X rfl rfl rfl hc i pins s3 σ3 H3 X.xe I3 (stat fr3) st3 stop) λr s4 ⟨hr,I4⟩=>?_)
   subst hr
   exact wpAny_execs_nil ⟨σ3,H3,I4,qn⟩
 · refine wpAny_passesOwn hp (thn (T.item X rfl rfl rfl hc i pins s3 σ3 H3 X.xe I3 (stat fr3) st3 go) λr s4 ⟨u,hr,h4⟩=>?_)
   subst hr
   refine wpAny_passesOwn hp (thn h4 λ_ s5 ⟨x,H5,I5,r5,y5,st5,fr5⟩=>?_)
   have I5':=I5.pinned (stat fr5) (T.obj _ _ st5)
   refine wpAny_passesOwn hp (thn (hg _ s5 σ3 H5 x u _ I5' r5 (step x H5 y5)) λ_ s6 ⟨σ6,H6,I6,q6⟩=>?_)
   refine wpAny_passesOwn hp (thn (hb _ s6 σ6 H6 _ I6 q6) λf s7 q7=>?_)
   have again:∀ {σ7:St} {H7:Hp},Inv X (pins++gy fp s5.heap) σ7 H7 s7->N σ7 H7->∃ m,m < n/\∃ i σ' H',Inv X pins σ' H' s7/\tn i s7.heap/\(∀ b ∈ fp,H' b=none)/\W i m σ' H':=λ{σ7 H7} I7 n7=>by
     obtain ⟨m',hm,w7⟩:=hN σ7 H7 n7
     refine ⟨m',hm,i + 1,σ7,H7,I7.dN,T.keep _ _ _ st5 λb hb o e=>(I7.pin (b,o) (List.mem_append_right _ (List.mem_append_right _ (bT hb e)))).1,λb hb=>?_,w7⟩
     obtain ⟨o,e,d⟩:=T.obj _ _ st5 b hb
     exact (I7.pin (b,o) (List.mem_append_right _ (List.mem_append_right _ (bT hb e)))).2.1
   cases f with
   | next=>obtain ⟨σ7,H7,I7,n7⟩:=q7; exact again I7 n7
   | cont=>obtain ⟨σ7,H7,I7,n7⟩:=q7; exact again I7 n7
   | brk=>obtain ⟨σ7,H7,I7,q7⟩:=q7; exact ⟨σ7,H7,I7.dN,q7⟩
   | ret v=>obtain ⟨x7,σ7,H7,I7,r7,q7⟩:=q7; exact ⟨x7,σ7,H7,I7.dN,r7,q7⟩
end
noncomputable abbrev R2:=V->V->Hp->VK->Prop
noncomputable def OpR (X:Cx) (f:Value->Value->Sem Value) (r:R2):Prop:=
 ∀ (pins:List (Addr × Obj)) (s:Shared) (σ:St) (H:Hp) (x y:V) (v u:Value) (Q:VK),Inv X pins σ H s->RelV x v->RelV y u->r x y H Q ->
   wpAny (model X.prog X.w) X.A (f v u) (EP X pins σ Q) X.xe s
noncomputable def UnR (X:Cx) (f:Value->Sem Value) (r:V->Hp->VK->Prop):Prop:=
 ∀ (pins:List (Addr × Obj)) (s:Shared) (σ:St) (H:Hp) (x:V) (v:Value) (Q:VK),Inv X pins σ H s->RelV x v->r x H Q ->
   wpAny (model X.prog X.w) X.A (f v) (EP X pins σ Q) X.xe s
noncomputable def eV (X:Cx) (f:Value) (r:List V->Hp->VK->Prop):Prop:=
 ∀ (pins:List (Addr × Obj)) (s:Shared) (σ:St) (H:Hp) (xs:List V) (us:List Value) (Q:VK),Inv X pins σ H s->Vals xs us->r xs H Q ->
   wpAny (model X.prog X.w) X.A (call f us) (EP X pins σ Q) X.xe s
noncomputable def tOp (r:R2) (ta tb:TE):TE:=λσ H Q=>ta σ H λx H1=>tb σ H1 λy H2=>r x y H2 Q
noncomputable def tUn (r:V->Hp->VK->Prop) (ta:TE):TE:=λσ H Q=>ta σ H λx H1=>r x H1 Q
noncomputable def rI (C:Int->Int->Prop) (g:Int->Int->V):R2:=λx y H Q=>∃ i j,x=.int i/\y=.int j/\C i j/\Q (g i j) H
noncomputable def rI0 (g:Int->Int->V):R2:=λx y H Q=>∃ i j,x=.int i/\y=.int j/\Q (g i j) H
noncomputable def rU (g:Int->V):V->Hp->VK->Prop:=λx H Q=>∃ i,x=.int i/\Q (g i) H
section
variable {X:Cx} {a b c:Expr} {ta tb tc:TE} {pos:Pos}
theorem y8 (ha:PE X a ta) (hb:PE X b tb) {pins:List (Addr × Obj)} {s:Shared} {σ:St} {H:Hp} {R:V->V->Hp->Prop} (I:Inv X pins σ H s)
   (h:ta σ H λx H1=>tb σ H1 λy H2=>R x y H2) {Q:Value->Shared->Prop} {f:Value->Value->Sem Value}
   (hf:∀ v u s2 x y H2,Inv X pins σ H2 s2->RelV x v->RelV y u->R x y H2->wpAny (model X.prog X.w) X.A (f v u) Q X.xe s2) :
   wpAny (model X.prog X.w) X.A (eval a X.env) (λv s₁=>wpAny (model X.prog X.w) X.A (eval b X.env) (λu s₂=>wpAny (model X.prog X.w) X.A (f v u) Q X.xe s₂) X.xe s₁) X.xe s:=by
 refine thn (ha pins s σ H _ I h) λv s1 ⟨x,H1,I1,r1,q1⟩=>?_
 refine thn (hb pins s1 σ H1 _ I1 q1) λu s2 ⟨y,H2,I2,r2,q2⟩=>?_
 exact hf v u s2 x y H2 I2 r1 r2 q2
theorem yj {op:Operator} {r:R2} (ho:OpR X (binaryOp op) r) (ha:PE X a ta) (hb:PE X b tb):PE X (.BinOp a op b pos) (tOp r ta tb):=by
 intro pins s σ H Q I h
 exact wpAny_BinOp (y8 ha hb I h λv u s2 x y H2 I2 rx ry q=>ho pins s2 σ H2 x y v u Q I2 rx ry q)
theorem Cm {op:UnaryOp} {r:V->Hp->VK->Prop} (ho:UnR X (unaryOp op) r) (ha:PE X a ta):PE X (.UnaryOp op a pos) (tUn r ta):=by
 intro pins s σ H Q I h
 exact UnaryOp_ (thn (ha pins s σ H _ I h) λv s1 ⟨x,H1,I1,r1,q1⟩=>ho pins s1 σ H1 x v Q I1 r1 q1)
theorem opI {f:Value->Value->Sem Value} {C:Int->Int->Prop} {g:Int->Int->Int}
   (rule:∀ (i j:Int) (t u:Tok) (s:Shared) (Q:Value->Shared->Prop) (E:Value->Shared->Prop),C i j->Q (.int (g i j) s.toks) { s with toks:=s.toks + 1 }->wpAny (model X.prog X.w) X.A (f (.int i t) (.int j u)) Q E s) :
   OpR X f (rI C λi j=>.int (g i j)):=by
 intro pins s σ H x y v u Q I rx ry h
 obtain ⟨i,j,rfl,rfl,hc,q⟩:=h
 obtain ⟨t,rfl⟩:=rx
 obtain ⟨t',rfl⟩:=ry
 exact rule i j t t' s _ _ hc ⟨.int (g i j),H,I.tok _,⟨_,rfl⟩,q⟩
theorem x9 {f:Value->Value->Sem Value} {g:Int->Int->Int}
   (rule:∀ (i j:Int) (t u:Tok) (s:Shared) (Q:Value->Shared->Prop) (E:Value->Shared->Prop),Q (.int (g i j) s.toks) { s with toks:=s.toks + 1 }->wpAny (model X.prog X.w) X.A (f (.int i t) (.int j u)) Q E s) :
   OpR X f (rI0 λi j=>.int (g i j)):=by
 intro pins s σ H x y v u Q I rx ry h
 obtain ⟨i,j,rfl,rfl,q⟩:=h
 obtain ⟨t,rfl⟩:=rx
 obtain ⟨t',rfl⟩:=ry
 exact rule i j t t' s _ _ ⟨.int (g i j),H,I.tok _,⟨_,rfl⟩,q⟩
theorem w9 {f:Value->Value->Sem Value} {g:Int->Int->Bool}
   (rule:∀ (i j:Int) (t u:Tok) (s:Shared) (Q:Value->Shared->Prop) (E:Value->Shared->Prop),Q (.bool (g i j)) s->wpAny (model X.prog X.w) X.A (f (.int i t) (.int j u)) Q E s) :
   OpR X f (rI0 λi j=>.bl (g i j)):=by
 intro pins s σ H x y v u Q I rx ry h
 obtain ⟨i,j,rfl,rfl,q⟩:=h
 obtain ⟨t,rfl⟩:=rx
 obtain ⟨t',rfl⟩:=ry
 exact rule i j t t' s _ _ ⟨.bl (g i j),H,I,rfl,q⟩
noncomputable def ye (i j:Int):Prop:=0<=j/\j<=1000000/\i.natAbs < 2 ^ 64
theorem qd (k:Nat):(0:Int)<=2 ^ k:=by
 rw [two_pow_cast]
 exact Int.natCast_nonneg _
theorem A2:OpR X (binaryOp .Add) (rI0 λi j=>.int (i + j)):=x9 λ_ _ _ _ _ _ _ q=>add_int q
theorem zM:OpR X (binaryOp .Sub) (rI0 λi j=>.int (i - j)):=x9 λ_ _ _ _ _ _ _ q=>sub_int q
theorem yh:OpR X (binaryOp .Mod) (rI (λ_ j=>j ≠ 0) λi j=>.int (i.fmod j)):=opI λ_ _ _ _ _ _ _ hc q=>mod_int' hc q
theorem Au:OpR X (binaryOp .Pow) (rI ye λi j=>.int (i ^ j.toNat)):=opI λ_ _ _ _ _ _ _ hc q=>pow_int_small hc.1 hc.2.1 hc.2.2 q
theorem Av:OpR X (binaryOp .LShift) (rI ye λi j=>.int (i * 2 ^ j.toNat)):=opI λ_ _ _ _ _ _ _ hc q=>lshift_int_small hc.1 hc.2.1 hc.2.2 q
theorem zc:OpR X (binaryOp .RShift) (rI (λ_ j=>0<=j) λi j=>.int (i / 2 ^ j.toNat)):=opI λi j _ _ _ _ _ hc q=>
 rshift_int hc (by rw [Int.fdiv_eq_ediv_of_nonneg i (qd _)]; exact q)
theorem zf:OpR X (binaryOp .BitAnd) (rI0 λi j=>.int (Builtin.bitAnd i j)):=x9 λ_ _ _ _ _ _ _ q=>and_int q
theorem BG:OpR X (binaryOp .BitOr) (rI0 λi j=>.int (Builtin.bitOr i j)):=x9 λ_ _ _ _ _ _ _ q=>or_int q
theorem unI {f:Value->Sem Value} {g:Int->Int}
   (rule:∀ (i:Int) (t:Tok) (s:Shared) (Q:Value->Shared->Prop) (E:Value->Shared->Prop),Q (.int (g i) s.toks) { s with toks:=s.toks + 1 }->wpAny (model X.prog X.w) X.A (f (.int i t)) Q E s) :
   UnR X f (rU λi=>.int (g i)):=by
 intro pins s σ H x v Q I rx h
 obtain ⟨i,rfl,q⟩:=h
 obtain ⟨t,rfl⟩:=rx
 exact rule i t s _ _ ⟨.int (g i),H,I.tok _,⟨_,rfl⟩,q⟩
theorem z9:UnR X (unaryOp .USub) (rU λi=>.int (-i)):=unI λ_ _ _ _ _ q=>neg_int q
end
noncomputable def Bi:V->V->Bool
 | .non,.non=>true | .non,.int _=>true | .int _,.non=>true | .non,.bl _=>true | .bl _,.non=>true | .non,.str _=>true | .str _,.non=>true
 | .int _,.int _=>true | .bl _,.bl _=>true | .str _,.str _=>true | .byt _,.byt _=>true
 | .int _,.str _=>true | .str _,.int _=>true | .bl _,.str _=>true | .str _,.bl _=>true
 | _,_=>false
noncomputable def rEq:R2:=λx y H Q=>Bi x y=true/\Q (.bl (decide (x=y))) H
noncomputable def rNe:R2:=λx y H Q=>Bi x y=true/\Q (.bl (!decide (x=y))) H
theorem q0 {i j:Int}:decide (V.int i=V.int j)=(i == j):=by
 rw [Bool.eq_iff_iff]
 simp
theorem wc {i j:Bool}:decide (V.bl i=V.bl j)=(i == j):=by
 rw [Bool.eq_iff_iff]
 simp
theorem rE {i j:Str}:decide (V.str i=V.str j)=(i == j):=by
 rw [Bool.eq_iff_iff]
 simp
theorem qF {i j:Array UInt8}:decide (V.byt i=V.byt j)=(i.toList == j.toList):=by
 rw [Bool.eq_iff_iff]
 cases i
 cases j
 simp
section
variable {X:Cx} {a b c:Expr} {ta tb tc:TE} {pos:Pos}
theorem aT {pins:List (Addr × Obj)} {σ:St} {H:Hp} {s:Shared} {Q:VK} {k k':Bool} (I:Inv X pins σ H s) (q:Q (.bl k) H) (e:k=k'):EP X pins σ Q (.bool k') s:=by
 subst e
 exact ⟨.bl k,H,I,rfl,q⟩
theorem CD:OpR X (compareOp .Eq) rEq:=by
 intro pins s σ H x y v u Q I rx ry h
 obtain ⟨hs,q⟩:=h
 cases x with
 | non=>
   cases rx
   cases y with
   | non=>cases ry; exact PySem.EqNone.eq_none_none (aT I q (by simp))
   | bl j=>cases ry; exact PySem.EqNone.eq_none_bool (aT I q (by simp))
   | int j=>obtain ⟨t',rfl⟩:=ry; exact PySem.EqNone.eq_none_int (aT I q (by simp))
   | str j=>obtain ⟨t',rfl⟩:=ry; exact PySem.EqNone.eq_none_str (aT I q (by simp))
   | _=>exact absurd (show false=true from hs) Bool.false_ne_true
 | bl i=>
   cases rx
   cases y with
   | non=>cases ry; exact PySem.EqNone.eq_bool_none (aT I q (by simp))
   | bl j=>cases ry; exact eq_bool (aT I q wc)
   | str j=>obtain ⟨t',rfl⟩:=ry; exact PySem.EqMixed.eq_bool_str (aT I q (by simp))
   | _=>exact absurd (show false=true from hs) Bool.false_ne_true
 | int i=>
   obtain ⟨t,rfl⟩:=rx
   cases y with
   | non=>cases ry; exact PySem.EqNone.eq_int_none (aT I q (by simp))
   | int j=>obtain ⟨t',rfl⟩:=ry; exact eq_int (aT I q q0)
   | str j=>obtain ⟨t',rfl⟩:=ry; exact PySem.EqMixed.eq_int_str (aT I q (by simp))
   | _=>exact absurd (show false=true from hs) Bool.false_ne_true
 | str i=>
   obtain ⟨t,rfl⟩:=rx
   cases y with
   | non=>cases ry; exact PySem.EqNone.eq_str_none (aT I q (by simp))
   | bl j=>cases ry; exact PySem.EqMixed.eq_str_bool (aT I q (by simp))
   | int j=>obtain ⟨t',rfl⟩:=ry; exact PySem.EqMixed.eq_str_int (aT I q (by simp))
   | str j=>obtain ⟨t',rfl⟩:=ry; exact eq_str (aT I q rE)
   | _=>exact absurd (show false=true from hs) Bool.false_ne_true
 | byt i=>
   obtain ⟨t,rfl⟩:=rx
   cases y with
   | byt j=>obtain ⟨t',rfl⟩:=ry; exact PySem.W.eq_bytes (aT I q qF)
   | _=>exact absurd (show false=true from hs) Bool.false_ne_true
 | _=>cases y <;> exact absurd (show false=true from hs) Bool.false_ne_true
theorem Ba:OpR X (compareOp .NotEq) rNe:=by
 intro pins s σ H x y v u Q I rx ry h
 obtain ⟨hs,q⟩:=h
 cases x with
 | non=>
   cases rx
   cases y with
   | non=>cases ry; exact PySem.EqNone.ne_none_none (aT I q (by simp))
   | bl j=>cases ry; exact PySem.EqNone.ne_none_bool (aT I q (by simp))
   | int j=>obtain ⟨t',rfl⟩:=ry; exact PySem.EqNone.ne_none_int (aT I q (by simp))
   | str j=>obtain ⟨t',rfl⟩:=ry; exact PySem.EqNone.ne_none_str (aT I q (by simp))
   | _=>exact absurd (show false=true from hs) Bool.false_ne_true
 | bl i=>
   cases rx
   cases y with
   | non=>cases ry; exact PySem.EqNone.ne_bool_none (aT I q (by simp))
   | bl j=>cases ry; exact ne_bool (aT I q (congrArg not wc))
   | str j=>obtain ⟨t',rfl⟩:=ry; exact PySem.EqMixed.ne_bool_str (aT I q (by simp))
   | _=>exact absurd (show false=true from hs) Bool.false_ne_true
 | int i=>
   obtain ⟨t,rfl⟩:=rx
   cases y with
   | non=>cases ry; exact PySem.EqNone.ne_int_none (aT I q (by simp))
   | int j=>obtain ⟨t',rfl⟩:=ry; exact ne_int (aT I q (congrArg not q0))
   | str j=>obtain ⟨t',rfl⟩:=ry; exact PySem.EqMixed.ne_int_str (aT I q (by simp))
   | _=>exact absurd (show false=true from hs) Bool.false_ne_true
 | str i=>
   obtain ⟨t,rfl⟩:=rx
   cases y with
   | non=>cases ry; exact PySem.EqNone.ne_str_none (aT I q (by simp))
   | bl j=>cases ry; exact PySem.EqMixed.ne_str_bool (aT I q (by simp))
   | int j=>obtain ⟨t',rfl⟩:=ry; exact PySem.EqMixed.ne_str_int (aT I q (by simp))
   | str j=>obtain ⟨t',rfl⟩:=ry; exact ne_str (aT I q (congrArg not rE))
   | _=>exact absurd (show false=true from hs) Bool.false_ne_true
 | byt i=>
   obtain ⟨t,rfl⟩:=rx
   cases y with
   | byt j=>obtain ⟨t',rfl⟩:=ry; exact PySem.W.ne_bytes (aT I q (congrArg not qF))
   | _=>exact absurd (show false=true from hs) Bool.false_ne_true
 | _=>cases y <;> exact absurd (show false=true from hs) Bool.false_ne_true
theorem Bl:OpR X (compareOp .Lt) (rI0 λi j=>.bl (decide (i < j))):=w9 λ_ _ _ _ _ _ _ q=>lt_int q
theorem BM:OpR X (compareOp .LtE) (rI0 λi j=>.bl (decide (i<=j))):=w9 λ_ _ _ _ _ _ _ q=>le_int q
theorem BJ:OpR X (compareOp .Gt) (rI0 λi j=>.bl (decide (j < i))):=w9 λ_ _ _ _ _ _ _ q=>gt_int q
theorem Cw:OpR X (compareOp .GtE) (rI0 λi j=>.bl (decide (j<=i))):=w9 λ_ _ _ _ _ _ _ q=>ge_int q
theorem zH:OpR X (compareOp .Is) (λx y H Q=>y=.non/\Q (.bl (decide (x=.non))) H):=by
 intro pins s σ H x y v u Q I rx ry h
 obtain ⟨rfl,q⟩:=h
 cases ry
 refine is_none_gen (aT I q ?_)
 cases x <;> first
   | (cases rx; rfl)
   | (obtain ⟨t,rfl⟩:=rx; rfl)
theorem ua (b:Expr) {op:CmpOp} (h:op ≠ .In:=by decide) (h2:op ≠ .NotIn:=by decide):behindInMarks op b=false:=by
 have e1:(op == CmpOp.In)=false:=by cases op <;> first | rfl | exact absurd rfl h
 have e2:(op == CmpOp.NotIn)=false:=by cases op <;> first | rfl | exact absurd rfl h2
 cases b <;> simp [behindInMarks,e1,e2]
theorem xr {op:CmpOp} {r:R2} (ho:OpR X (compareOp op) r) (ha:PE X a ta) (hb:PE X b tb) (hm:behindInMarks op b=false):PE X (.Compare a [op] [b] pos) (tOp r ta tb):=by
 intro pins s σ H Q I h
 exact wpAny_Compare1 (y8 ha hb I h λv u s2 x y H2 I2 rx ry q=>ho pins s2 σ H2 x y v u Q I2 rx ry q) hm
noncomputable def yS (t:TE):TT:=λσ H Q=>t σ H λx H'=>∃ k,x=.bl k/\Q k H'
theorem wA {op:CmpOp} {r:R2} (ho:OpR X (compareOp op) r) (ha:PE X a ta) (hb:PE X b tb) (hm:behindInMarks op b=false):PT X (.Compare a [op] [b] pos) (yS (tOp r ta tb)):=by
 intro pins s σ H Q I h
 refine wpAny_isTrue_Compare1 (thn (ha pins s σ H _ I h) λv s1 ⟨x,H1,I1,r1,q1⟩=>thn (hb pins s1 σ H1 _ I1 q1) λu s2 ⟨y,H2,I2,r2,q2⟩=>
   thn (ho pins s2 σ H2 x y v u _ I2 r1 r2 q2) λc s3 ⟨z,H3,I3,r3,k,e,q3⟩=>?_) hm
 subst e
 cases r3
 exact wpAny_truthy_bool ⟨H3,I3,q3⟩
noncomputable def qe (r r':R2) (ta tb tc:TE):TE:=λσ H Q=>ta σ H λx H1=>tb σ H1 λy H2=>r x y H2 λz H3=>∃ k,z=.bl k /\
 (if k=true then tc σ H3 λw' H4=>r' y w' H4 Q else Q (.bl false) H3)
theorem uf {op op':CmpOp} {r r':R2} (ho:OpR X (compareOp op) r) (ho':OpR X (compareOp op') r') (ha:PE X a ta) (hb:PE X b tb) (hc:PE X c tc)
   (hm:lastMarks [op,op'] [b,c]=false:=by with_unfolding_all rfl):PE X (.Compare a [op,op'] [b,c] pos) (qe r r' ta tb tc):=by
 intro pins s σ H Q I h
 refine Compare_chain (thn (ha pins s σ H _ I h) λv s1 ⟨x,H1,I1,r1,q1⟩=>chain_link (thn (hb pins s1 σ H1 _ I1 q1) λu s2 ⟨y,H2,I2,r2,q2⟩=>
   thn (ho pins s2 σ H2 x y v u _ I2 r1 r2 q2) λd s3 ⟨z,H3,I3,r3,k,e,q3⟩=>?_)) hm
 subst e
 cases r3
 refine wpAny_truthy_bool ?_
 cases k with
 | false=>exact ite_ff ⟨.bl false,H3,I3,rfl,q3⟩
 | true=>exact ite_tt (chain_last (thn (hc pins s3 σ H3 _ I3 q3) λw' s4 ⟨z',H4,I4,r4,q4⟩=>ho' pins s4 σ H4 y z' u w' Q I4 r2 r4 q4))
theorem vo {op op':CmpOp} {r r':R2} (ho:OpR X (compareOp op) r) (ho':OpR X (compareOp op') r') (ha:PE X a ta) (hb:PE X b tb) (hc:PE X c tc)
   (hm:lastMarks [op,op'] [b,c]=false:=by with_unfolding_all rfl):PT X (.Compare a [op,op'] [b,c] pos) (yS (qe r r' ta tb tc)):=by
 intro pins s σ H Q I h
 refine isTrue_chain (thn (ha pins s σ H _ I h) λv s1 ⟨x,H1,I1,r1,q1⟩=>test_link (thn (hb pins s1 σ H1 _ I1 q1) λu s2 ⟨y,H2,I2,r2,q2⟩=>
   thn (ho pins s2 σ H2 x y v u _ I2 r1 r2 q2) λd s3 ⟨z,H3,I3,r3,k,e,q3⟩=>?_)) hm
 subst e
 cases r3
 refine wpAny_truthy_bool ?_
 cases k with
 | false=>
   obtain ⟨k',e',q'⟩:=q3
   cases e'
   exact ite_ff ⟨H3,I3,q'⟩
 | true=>
   refine ite_tt (test_last (thn (hc pins s3 σ H3 _ I3 q3) λw' s4 ⟨z',H4,I4,r4,q4⟩=>thn (ho' pins s4 σ H4 y z' u w' _ I4 r2 r4 q4) λd' s5 ⟨z2,H5,I5,r5,k2,e2,q5⟩=>?_))
   subst e2
   cases r5
   exact wpAny_truthy_bool ⟨H5,I5,q5⟩
theorem nE:(sizeLine:Nat) < 2 ^ 63:=by rw [sizeLine_eq]; decide
theorem vals1 {x:V} {us:List Value} (r:Vals [x] us):∃ u,us=[u]/\RelV x u:=by
 cases r with
 | cons r1 r2=>cases r2; exact ⟨_,rfl,r1⟩
theorem vals2 {x y:V} {us:List Value} (r:Vals [x,y] us):∃ u w',us=[u,w']/\RelV x u/\RelV y w':=by
 cases r with
 | cons r1 r2=>
   cases r2 with
   | cons r3 r4=>cases r4; exact ⟨_,_,rfl,r1,r3⟩
theorem vz:eV X (.builtin "abs") (λxs H Q=>∃ i,xs=[.int i]/\Q (.int (if i < 0 then -i else i)) H):=by
 intro pins s σ H xs us Q I r h
 obtain ⟨i,rfl,q⟩:=h
 obtain ⟨u,rfl,t,rfl⟩:=vals1 r
 exact call_abs_int λu tk=>⟨.int (if i < 0 then -i else i),H,I.tok _,⟨_,rfl⟩,q⟩
end
section
variable {prog:Program} {w:World} {A:Around} {E:Value->Shared->Prop} {s:Shared} {K:PySem.W.Frag} {x dx C f:Addr} {mA:Str->Option Value} {name:Str} {v:Value}
end
theorem nO.some_of {v:V} {o:Option Value} (r:nO (some v) o):∃ u,o=some u/\RelV v u:=by
 cases o with
 | none=>exact (show False from r).elim
 | some u=>exact ⟨u,rfl,r⟩
section
variable {P:Program} {w:World} {H H':Hp} {h h':Heap} {a C dx:Addr} {fs fs':List (Str × V)}
end
section
variable {X:Cx} {pins:List (Addr × Obj)} {σ:St} {H:Hp} {s:Shared} {a C dx:Addr} {fs:List (Str × V)} {f:Str} {v:V} {A:Around} {E:Value->Shared->Prop}
end
section
variable {X:Cx} {o e value:Expr} {f:Str} {pos pos' tpos:Pos} {ta tv:TE}
end
section
variable {X:Cx} {pins:List (Addr × Obj)} {σ:St} {H:Hp} {s:Shared} {A:Around} {E:Value->Shared->Prop} {Q:Value->Shared->Prop} {c:Value} {b:Bool}
end
structure eN (k:Nat) (A:Around):Prop where
 hd:A.handled=none
 dp:A.depth + 3 * k + 5 < recursionLimit
 un:A.units + 16 * k + 200 < cLine
theorem eN.mono {j k:Nat} {A:Around} (r:eN k A) (h:j<=k):eN j A:=⟨r.hd,by have:=r.dp; omega,by have:=r.un; omega⟩
theorem eN.deeper {k:Nat} {A:Around} (r:eN (k + 1) A) (env:Env):eN k (A.deeper env):=
 ⟨r.hd,by have:=r.dp; show A.depth + 1 + 3 * k + 5 < _; omega,by have:=r.un; show A.units + 3 + 16 * k + 200 < _; omega⟩
theorem eN.depth {k:Nat} {A:Around} (r:eN k A):A.depth < recursionLimit:=by have:=r.dp; omega
theorem eN.units {k:Nat} {A:Around} (r:eN k A):A.units + 64 < cLine:=by have:=r.un; omega
noncomputable def Dg:TA:=λ_ H Q=>Q [] H
noncomputable def Bp (ta:TE) (tr:TA):TA:=λσ H Q=>ta σ H λx H1=>tr σ H1 λxs H2=>Q (x :: xs) H2
section
variable {X:Cx} {e:Expr} {es:List Expr} {te:TE} {t:TA} {pos:Pos}
theorem dX:PA X [] Dg:=λ_ _ _ _ H Q I h=>Calls.spliced_nil ⟨[],H,I,.nil,h⟩
theorem bL (ha:PE X e te) (hr:PA X es t) (hs:starEach (e :: es) X.env=(false,eval e X.env) :: starEach es X.env:=by rfl):PA X (e :: es) (Bp te t):=by
 intro pos pins s σ H Q I h
 rw [hs]
 show wpAny _ _ (spliced ((false,eval e X.env) :: backTo pos (starEach es X.env))) _ _ s
 refine Calls.spliced_cons (thn (ha pins s σ H _ I h) λu s1 ⟨x,H1,I1,r1,q1⟩=>?_)
 exact thn (hr pos pins s1 σ H1 _ I1 q1) λus s2 ⟨xs,H2,I2,r2,q2⟩=>⟨x :: xs,H2,I2,.cons r1 r2,q2⟩
noncomputable def CY (t:TA):TE:=λσ H Q=>t σ H λxs H1=>xs.length<=sizeLine/\∀ p,H1 p=none->Q (.ref p) (upd H1 p (.tup xs))
noncomputable def CM (t:TA):TE:=λσ H Q=>t σ H λxs H1=>xs.length<=sizeLine/\∀ p,H1 p=none->Q (.ref p) (upd H1 p (.lst xs))
theorem vZ {x1} (h:PA X es t):PE X (.Tuple es x1 pos) (CY t):=by
 intro pins s σ H Q I hq
 refine wpAny_Tuple_spliced (thn (h pos pins s σ H _ I hq) λus s1 ⟨xs,H1,I1,r,z,q⟩=>⟨by rw [<- r.length]; exact z,?_⟩)
 have hf:H1 s1.heap.objs.size=none:=I1.hok.fresh (Nat.le_refl _)
 refine ⟨.ref s1.heap.objs.size,upd H1 s1.heap.objs.size (.tup xs),I1.laid (t':=s1.toks) (λb u e=>Heap.get?_push_of_some _ e) (Nat.le_refl _) ?_,rfl,q _ hf⟩
 exact ⟨z,us,r,⟨_,Heap.get?_push_size _ rfl,rfl,_,rfl⟩⟩
theorem Ax (h:PA X es t):PE X (.List es pos) (CM t):=by
 intro pins s σ H Q I hq
 refine wpAny_List_spliced (thn (h pos pins s σ H _ I hq) λus s1 ⟨xs,H1,I1,r,z,q⟩=>⟨by rw [<- r.length]; exact z,?_⟩)
 have hf:H1 s1.heap.objs.size=none:=I1.hok.fresh (Nat.le_refl _)
 refine ⟨.ref s1.heap.objs.size,upd H1 s1.heap.objs.size (.lst xs),I1.laid (t':=s1.toks) (λb u e=>Heap.get?_push_of_some _ e) (Nat.le_refl _) ?_,rfl,q _ hf⟩
 exact ⟨z,us,0,r,Heap.get?_push_size _ rfl⟩
end
noncomputable abbrev Sp:=List V->Hp->VK->XK->Prop
noncomputable abbrev CXT:=List Env->Hp->Shared->XK->Value->Shared->Prop
structure wM (P:Program) (w:World) (K:PySem.W.Frag) (mg:Str->Option Value) (base:Heap) (A:Around) (outer:List Env) (s:Shared) (H:Hp):Prop where
 frames:A.frames=some outer
 mod:Mod K mg base
 bs:∀ b o,base.get? b=some o->s.heap.get? b=some o/\H b=none
 bsz:base.objs.size<=s.heap.objs.size
 jR:s.heap.FunFrames base outer
 frf:∀ b ∈ frs outer,H b=none
 hok:HOk P w H s.heap
 bare:AllBare s.gens
noncomputable def CE (outer:List Env) (P:Program) (w:World) (H:Hp) (s:Shared) (Q:VK) (u:Value) (s':Shared):Prop:=
 ∃ v H',s'.os=s.os/\AllBare s'.gens/\Un (frs outer) [] H H' s.heap s'.heap/\HOk P w H' s'.heap/\RelV v u/\Q v H'
noncomputable def CR (CX:CXT) (outer:List Env) (P:Program) (w:World) (H:Hp) (s:Shared) (Q:VK) (E:XK) (r:Result) (s':Shared):Prop:=
 match r with
 | .ok (.ret u)=>CE outer P w H s Q u s'
 | .ok _=>False
 | .error e=>CX outer H s E e s'
structure aN (P:Program) (w:World) (K:PySem.W.Frag) (mg:Str->Option Value) (base:Heap) (CX:CXT) (k:Nat) (f:Addr) (fd:FuncData) (ps:List Str) (sp:Sp):Prop where
 len:∀ vs H Q E,sp vs H Q E->vs.length=ps.length
 run:∀ (A:Around) (outer:List Env) (s:Shared) (H:Hp) (args:Args) (us:List Value) (vs:List V) (Q:VK) (E:XK),eN k A->wM P w K mg base A outer s H->BindsTo s fd args (ps.zip us)->Vals vs us->sp vs H Q E ->
   codeAny (model P w) A (.call (.ref f) args) (CR CX outer P w H s Q E) s
theorem aN.mono {P:Program} {w:World} {K:PySem.W.Frag} {mg:Str->Option Value} {base:Heap} {CX:CXT} {j k:Nat} {f:Addr} {fd:FuncData} {ps:List Str} {sp:Sp} (F:aN P w K mg base CX j f fd ps sp) (h:j<=k) :
   aN P w K mg base CX k f fd ps sp:=⟨F.len,λA outer s H args us vs Q E hr=>F.run A outer s H args us vs Q E (hr.mono h)⟩
section
variable {X:Cx} {pins:List (Addr × Obj)} {σ:St} {H:Hp} {s s':Shared}
theorem Inv.C0 (I:Inv X pins σ H s):wM X.prog X.w X.K X.mg X.base X.A X.stack s H:=
 ⟨I.ok.frames,I.ok.mod,I.bs,Nat.le_trans I.ok.bsz I.sz,I.stack,I.qP,I.hok,I.bare⟩
theorem Inv.after {Q:VK} {u:Value} (I:Inv X pins σ H s) (h:CE X.stack X.prog X.w H s Q u s'):EP X pins σ Q u s':=by
 obtain ⟨v,H',os,bare,un,hok,r,q⟩:=h
 obtain ⟨hh,g,d,t,os'⟩:=s'
 obtain rfl:os'=s.os:=os
 exact ⟨v,H',I.call (h':=hh) (g':=g) (d':=d) (t':=t) (ch:=[]) un hok bare (λb z=>absurd z (by simp)),r,q⟩
end
noncomputable def BI (sp:Sp) (dvs:List V) (E:XK) (t:TA):TE:=λσ H Q=>t σ H λvs H1=>sp (vs++dvs) H1 Q E
noncomputable def Binds (K:PySem.W.Frag) (fd:FuncData) (ps:List Str) (ds:List Value):Prop:=
 ∀ (s:Shared) (us:List Value),K.In s.heap->(us++ds).length=ps.length->BindsTo s fd ⟨us,[]⟩ (ps.zip (us++ds))
theorem Binds.all {K:PySem.W.Frag} {fd:FuncData} {ps:List Str} (h:∀ us:List Value,us.length=ps.length->bindArgs fd ⟨us,[]⟩=pure (ps.zip us)):Binds K fd ps []:=λs us _ hl=>by
 rw [List.append_nil] at hl ⊢
 exact .of_eq (h us hl)
noncomputable def Passes (CX:CXT) (X:Cx) (E:XK):Prop:=∀ (pins:List (Addr × Obj)) (σ:St) (H:Hp) (s:Shared) (e:Value) (s':Shared),Inv X pins σ H s->CX X.stack H s E e s'->X.xe e s'
section
variable {X:Cx} {CX:CXT} {k:Nat} {f C:Addr} {fd:FuncData} {ps:List Str} {sp:Sp} {dvs:List V} {ds:List Value} {E:XK} {x m:Str} {p pos apos:Pos} {e o:Expr} {es:List Expr} {ta:TE} {t:TA}
theorem zz {pins:List (Addr × Obj)} {σ:St} {H:Hp} {s:Shared} {Q:VK} {us:List Value} {vs:List V} (F:aN X.prog X.w X.K X.mg X.base CX k f fd ps sp) (hr:eN k X.A) (hb:Binds X.K fd ps ds) (hd:Vals dvs ds) (hx:Passes CX X E)
   (I:Inv X pins σ H s) (r:Vals vs us) (h:sp (vs++dvs) H Q E):wpAny (model X.prog X.w) X.A (call (.ref f) us) (EP X pins σ Q) X.xe s:=by
 have r2:Vals (vs++dvs) (us++ds):=r.append hd
 have hl:(us++ds).length=ps.length:=by rw [<- r2.length]; exact F.len _ _ _ _ h
 refine wpAny_call (codeAny_mono (F.run X.A X.stack s H ⟨us,[]⟩ (us++ds) (vs++dvs) Q E hr I.C0 (hb s us I.kIn hl) r2 h) λr s' hq=>?_)
 cases r with
 | error e=>exact hx pins σ H s e s' I hq
 | ok fl=>
   cases fl with
   | ret u=>exact I.after hq
   | next=>exact False.elim hq
   | brk=>exact False.elim hq
   | cont=>exact False.elim hq
theorem rV (F:aN X.prog X.w X.K X.mg X.base CX k f fd ps sp) (hr:eN k X.A) (hg:Gl X x) (hm:X.mg x=some (.ref f)) (hk:PySem.W.keepIn X.K (.ref f)=true) (hb:Binds X.K fd ps ds) (hd:Vals dvs ds) (hx:Passes CX X E)
   (ha:PA X (e :: es) t) (hdb:(x == ("__debug__" : Str))=false:=by decide) (he:starEach (e :: es) X.env=(false,eval e X.env) :: starEach es X.env:=by rfl) (hpl:(backTo pos (starEach es X.env)).any (·.1)=false:=by rfl) :
   PE X (.Call (.Name x p) (e :: es) [] pos) (BI sp dvs E t):=by
 intro pins s σ H Q I h
 refine wpAny_Call_Name_kw (rZ I hg hm ?_ hdb)
 refine PySem.W.callWith_K (h₀:=X.base) I.ok.mod.kin hk (thn (ha pos pins s σ H _ I h) λus s1 ⟨vs,H1,I1,r,q⟩=>⟨I1.kIn,?_⟩) he hpl
 exact zz F hr hb hd hx I1 r q
end
section
variable {X:Cx} {CX:CXT} {k:Nat} {f C:Addr} {fd:FuncData} {ps ks:List Str} {sp:Sp} {E:XK} {x m:Str} {p pos apos kpos:Pos} {e o:Expr} {es:List Expr} {kws:List Keyword} {te ta:TE} {t tk:TA} {nm:Option Str}
variable {g:List Value->List Value->List Value} {gV:List V->List V->List V}
end
structure ao (N P:List Str) (sc:Scope):Prop where
 kind:sc.kind=.function
 co:sc.isCoroutine=false
 gen:sc.isGenerator=false
 nd:N.Nodup
 pre:N.take P.length=P
 par:∀ x ∈ P,sc.names.lookup x=some .local\/sc.names.lookup x=some .cell
 nofree:∀ y ∈ sc.names,y.2 ≠ .free
theorem kQ {kindOf:Str->Option NameKind} {x:Str}:∀ {binds:List (Str × Value)} {m:Str->Option Value},(∀ v,(x,v) ∉ binds)->bindL kindOf binds m x=m x
 | [],_,_=>rfl
 | (n,v) :: r,m,h=>by
   unfold bindL
   rw [kQ λw hw=>h w (List.mem_cons_of_mem _ hw)]
   split
   · have:x ≠ n:=by rintro rfl; exact h v List.mem_cons_self
     simp [this]
   · rfl
theorem kR {kindOf:Str->Option NameKind} {x:Str}:∀ {binds:List (Str × Value)} {m:Str->Option Value},(∀ v,(x,v) ∉ binds)->bindC kindOf binds m x=m x
 | [],_,_=>rfl
 | (n,v) :: r,m,h=>by
   unfold bindC
   rw [kR λw hw=>h w (List.mem_cons_of_mem _ hw)]
   split
   · rfl
   · have:x ≠ n:=by rintro rfl; exact h v List.mem_cons_self
     simp [this]
theorem lB {kindOf:Str->Option NameKind} {x:Str} {v:Value}:∀ {P:List Str} {vs:List Value} {i:Nat} {m:Str->Option Value},P.Nodup->P[i]?=some x->vs[i]?=some v->kindOf x=some .local ->
   bindL kindOf (P.zip vs) m x=some v
 | [],_,_,_,_,h,_,_=>by simp at h
 | _ :: _,[],_,_,_,_,h,_=>by simp at h
 | p :: P,w :: vs,0,m,nd,h1,h2,hk=>by
   simp at h1 h2; subst h1; subst h2
   show bindL kindOf ((p,w) :: P.zip vs) m p=_
   unfold bindL
   rw [kQ λv hv=>(List.nodup_cons.mp nd).1 (List.of_mem_zip hv).1,if_pos hk]
   simp
 | p :: P,w :: vs,i + 1,m,nd,h1,h2,hk=>by
   show bindL kindOf ((p,w) :: P.zip vs) m x=_
   unfold bindL
   exact lB (i:=i) (List.nodup_cons.mp nd).2 (by simpa using h1) (by simpa using h2) hk
theorem lO {kindOf:Str->Option NameKind} {x:Str} {v:Value}:∀ {P:List Str} {vs:List Value} {i:Nat} {m:Str->Option Value},P.Nodup->P[i]?=some x->vs[i]?=some v->kindOf x ≠ some .local ->
   bindC kindOf (P.zip vs) m x=some v
 | [],_,_,_,_,h,_,_=>by simp at h
 | _ :: _,[],_,_,_,_,h,_=>by simp at h
 | p :: P,w :: vs,0,m,nd,h1,h2,hk=>by
   simp at h1 h2; subst h1; subst h2
   show bindC kindOf ((p,w) :: P.zip vs) m p=_
   unfold bindC
   rw [kR λv hv=>(List.nodup_cons.mp nd).1 (List.of_mem_zip hv).1,if_neg hk]
   simp
 | p :: P,w :: vs,i + 1,m,nd,h1,h2,hk=>by
   show bindC kindOf ((p,w) :: P.zip vs) m x=_
   unfold bindC
   exact lO (i:=i) (List.nodup_cons.mp nd).2 (by simpa using h1) (by simpa using h2) hk
noncomputable def start (N:List Str) (vs:List V):St:=vs.map some++List.replicate (N.length - vs.length) none
noncomputable def qh (CX:CXT) (P:Program) (w:World) (K:PySem.W.Frag) (mg:Str->Option Value) (base:Heap) (N:List Str) (qual:Str) (scope:Scope) (f:Addr) (cd:Value) (A:Around) (outer:List Env) (s:Shared) (H:Hp) (E:XK):Cx where
 prog:=P
 w:=w
 K:=K
 mg:=mg
 base:=base
 A:=A.deeper (envOfC qual scope s.heap.objs.size f cd)
 N:=N
 s₀:=s
 H₀:=H
 env:=envOfC qual scope s.heap.objs.size f cd
 outer:=outer
 stack:=envOfC qual scope s.heap.objs.size f cd :: outer
 ex:=[]
 calm:=true
 fn:=λ_=>true
 pn:=[]
 xe:=λe s'=>wpAny (model P w) (A.deeper (envOfC qual scope s.heap.objs.size f cd)) (leaving (envOfC qual scope s.heap.objs.size f cd) e) (λ_ s''=>CX outer H s E e s'') (λe' s''=>CX outer H s E e' s'') s'
theorem nL {sc:Scope} {n:Nat} {x:Str} (h:sc.names.lookup x=some .cell):∃ c,(cellsFrom n sc.names []).lookup x=some c:=by
 have q:=PySem.W.cellsFrom_some sc.names n [] (.inl h)
 exact Option.isSome_iff_exists.mp q
theorem sX {CX:CXT} {P:Program} {w:World} {K:PySem.W.Frag} {mg:Str->Option Value} {base:Heap} {N ps:List Str} {qual:Str} {scope:Scope} {f:Addr} {cd:Value} {A:Around} {outer:List Env} {s s1:Shared} {H:Hp} {E:XK} {us:List Value} {vs:List V}
   (S:ao N ps scope) {cm:Bool} (hd:cm=true->A.handled=none) (e0:wM P w K mg base A outer s H) (hl:vs.length=ps.length) (r:Vals vs us)
   (x:InCallC s s.heap.objs.size (bindL (envOfC qual scope s.heap.objs.size f cd).kindOf (ps.zip us) λ_=>none) (cellsFrom (s.heap.objs.size + 1) scope.names []) (bindC (envOfC qual scope s.heap.objs.size f cd).kindOf (ps.zip us) λ_=>none) s1) :
   Inv { qh CX P w K mg base N qual scope f cd A outer s H E with calm:=cm } [] (start N vs) H s1:=by
 have hpl:ps.length<=N.length:=by have:=congrArg List.length S.pre; rw [List.length_take] at this; omega
 obtain ⟨h1,tk,rfl,hk⟩:=x.done
 have noA:∀ b:Addr,b ∉ (qh CX P w K mg base N qual scope f cd A outer s H E).ex:=λb z=>absurd (show b ∈ ([]:List Addr) from z) (by simp)
 refine ⟨⟨e0.mod,S.kind,rfl,rfl,Nat.le_refl _,λy z c h1 h2=>?_,λy hy=>?_,λy c _ h=>?_,hd,Around.frames_deeper e0.frames,.inr ⟨rfl,rfl⟩,λb z=>absurd z (noA b),e0.bs,e0.bsz,λb _ _=>noA b,λb z=>absurd z (noA b),e0.jR,e0.frf⟩,
   rfl,e0.bare,Un.kept hk,⟨_,x.toInCall.ns,λi y v h1 h2 h3=>?_⟩,λy c h=>⟨_,x.cell y c h⟩,e0.hok.fresh (Nat.le_refl _),λy c h=>?_,λp hp=>absurd (show p ∈ ([]:List (Addr × Obj)) from hp) (by simp),e0.hok.kept hk,?_⟩
 · exact name_of_addr x.apart (PySem.mem_of_lookup h1) (PySem.mem_of_lookup h2)
 · have hy:scope.names.lookup y=some .cell\/scope.names.lookup y=some .free:=hy
   rcases hy with hy | hy
   · exact nL hy
   · exact absurd rfl (S.nofree _ (PySem.mem_of_lookup hy))
 · exact Nat.le_of_lt (x.above y c (PySem.mem_of_lookup h))
 · have hi:i < vs.length:=by
     unfold start at h2
     by_cases hi:i < vs.length
     · exact hi
     · rw [List.getElem?_append_right (by simpa using hi)] at h2
       rw [List.getElem?_replicate] at h2
       split at h2 <;> cases h2
   have ha:vs[i]?=some v:=by
     unfold start at h2
     rw [List.getElem?_append_left (by simpa using hi),List.getElem?_map] at h2
     cases e:vs[i]? with
     | none=>rw [e] at h2; cases h2
     | some a=>rw [e] at h2; cases h2; rfl
   obtain ⟨u,hu,rv⟩:=r.get ha
   have hp:ps[i]?=some y:=by
     rw [<- S.pre,List.getElem?_take_of_lt (by omega)]; exact h1
   have ndP:ps.Nodup:=by rw [<- S.pre]; exact S.nd.sublist (List.take_sublist _ _)
   refine ⟨u,rv,?_⟩
   rcases S.par y (List.mem_of_getElem? hp) with k | k
   · exact .inl ⟨k,lB ndP hp hu k⟩
   · obtain ⟨c,e⟩:=nL (n:=s.heap.objs.size + 1) k
     refine .inr ⟨.inl k,c,e,?_⟩
     have q:=x.cell y c e
     rw [lO ndP hp hu (by show scope.names.lookup y ≠ _; rw [k]; decide)] at q
     exact q
 · exact e0.hok.fresh (Nat.le_of_lt (x.above y c (PySem.mem_of_lookup h)))
 · unfold start
   show _=N.length
   rw [List.length_append,List.length_map,List.length_replicate]
   omega
theorem B5 {CX:CXT} {P:Program} {w:World} {K:PySem.W.Frag} {mg:Str->Option Value} {base:Heap} {k:Nat} {f:Addr} {name qual:Str} {params:Arguments} {body:List Stmt} {scope:Scope} {dV kV doc pm cdv ct oc:Value} {an od:Option Addr}
   {osl:Array (Option Value)} {N ps:List Str} {sp:Sp} (lk:K.lookup f=some ⟨oc,od,.func (PySem.W.fnOf name qual params body scope dV kV doc pm an cdv ct),osl⟩) (hcd:PySem.W.codeIn K cdv qual=true) (S:ao N ps scope)
   (len:∀ vs H Q E,sp vs H Q E->vs.length=ps.length)
   (hbody:∀ (A:Around) (outer:List Env) (s:Shared) (H:Hp) (vs:List V) (Q:VK) (E:XK),eN k (A.deeper (envOfC qual scope s.heap.objs.size f cdv))->sp vs H Q E ->
     ∃ t,PSs (qh CX P w K mg base N qual scope f cdv A outer s H E) body t/\t { nx:=λ_ H'=>Q .non H',rt:=Q } (start N vs) H) :
   aN P w K mg base CX (k + 1) f (PySem.W.fnOf name qual params body scope dV kV doc pm an cdv ct) ps sp:=by
 refine ⟨len,λA outer s H args us vs Q E hr e0 hb r hsp=>?_⟩
 have hl:=len _ _ _ _ hsp
 have KX:K.In s.heap:=e0.mod.kin.keeps λb o e=>(e0.bs b o e).1
 have lim:s.heap.NoLimit:=e0.mod.nolimit.keeps λb o e=>(e0.bs b o e).1
 have hkind:∀ y ∈ ps.zip us,scope.names.lookup y.1=some .local\/(scope.names.lookup y.1=some .cell/\((cellsFrom (s.heap.objs.size + 1) scope.names []).lookup y.1).isSome=true):=λ⟨n,v⟩ hy=>by
   rcases S.par n (List.of_mem_zip hy).1 with q | q
   · exact .inl q
   · exact .inr ⟨q,PySem.W.cellsFrom_some _ _ _ (.inl q)⟩
 refine codeAny_call_function hr.depth (KX _ _ lk) rfl S.co S.gen rfl (PySem.W.codeRec_of KX hcd) (hb _ _ _ _ ?_)
 refine wpAny_newFunctionEnv_cells S.kind hkind λenv he s1 x=>?_
 subst he
 refine ⟨lim.keeps x.toInCall.keep,codeAny_func ?_⟩
 obtain ⟨t,ht,hq⟩:=hbody A outer s H vs Q E (hr.deeper _) hsp
 have I:Inv (qh CX P w K mg base N qual scope f cdv A outer s H E) [] (start N vs) H s1:=sX (cm:=true) S (λ_=>hr.hd) e0 hl r x
 refine wpAny_mono (ht [] s1 (start N vs) H _ I hq) (λfl s' hs=>?_) λe s' hs=>hs
 have fin:∀ {σ':St} {H':Hp} {v:V} {u:Value},Inv (qh CX P w K mg base N qual scope f cdv A outer s H E) [] σ' H' s'->RelV v u->Q v H'->CE outer P w H s Q u s':=
   λ{σ' H' v u} J rv q=>⟨v,H',J.os,J.bare,J.base,J.hok,rv,q⟩
 cases fl with
 | ret u=>
   obtain ⟨v,σ',H',J,rv,q⟩:=hs
   exact fin J rv q
 | next=>
   obtain ⟨σ',H',J,q⟩:=hs
   exact fin (v:=V.non) (u:=Value.none) J rfl q
 | brk=>
   obtain ⟨_,_,_,q⟩:=hs
   exact False.elim q
 | cont=>
   obtain ⟨_,_,_,q⟩:=hs
   exact False.elim q
section
variable {X:Cx} {x:Str} {p pos:Pos} {e:Expr} {es:List Expr} {t:TA} {id T:String} {r:List V->Hp->VK->Prop}
noncomputable def tCB (r:List V->Hp->VK->Prop) (t:TA):TE:=λσ H Q=>t σ H λvs H1=>r vs H1 Q
theorem pw (hc:eV X (.builtin id) r) (hg:Gl X x) (hm:X.mg x=none) (hv:bootBuiltins x=some (.builtin id)) (ha:PA X (e :: es) t) (hn:x ≠ "__name__":=by decide) (hdb:(x == ("__debug__" : Str))=false:=by decide)
   (he:starEach (e :: es) X.env=(false,eval e X.env) :: starEach es X.env:=by rfl) (hpl:(backTo pos (starEach es X.env)).any (·.1)=false:=by rfl):PE X (.Call (.Name x p) (e :: es) [] pos) (tCB r t):=by
 intro pins s σ H Q I h
 refine wpAny_Call_Name_kw (d9 I hg hm hv ?_ hn hdb)
 exact PyProof.Rows.callWith_builtin1 (thn (ha pos pins s σ H _ I h) λus s1 ⟨vs,H1,I1,r1,q1⟩=>hc pins s1 σ H1 vs us Q I1 r1 q1) he hpl
theorem lF (hc:eV X (.type T) r) (hg:Gl X x) (hm:X.mg x=none) (hv:bootBuiltins x=some (.type T)) (ha:PA X (e :: es) t) (hn:x ≠ "__name__":=by decide) (hdb:(x == ("__debug__" : Str))=false:=by decide)
   (he:starEach (e :: es) X.env=(false,eval e X.env) :: starEach es X.env:=by rfl) (hpl:(backTo pos (starEach es X.env)).any (·.1)=false:=by rfl):PE X (.Call (.Name x p) (e :: es) [] pos) (tCB r t):=by
 intro pins s σ H Q I h
 refine wpAny_Call_Name_kw (d9 I hg hm hv ?_ hn hdb)
 exact PyProof.Rows.callWith_type1 (thn (ha pos pins s σ H _ I h) λus s1 ⟨vs,H1,I1,r1,q1⟩=>hc pins s1 σ H1 vs us Q I1 r1 q1) he hpl
end
end L2
namespace HT
open PySem PyProof.Rows
section
open PySem.SeqAt
open PySem.AutoSeq1 (wpAny_loadPart')
open PySem.MeetsSeq PySem.MeetsSeq2 PySem.MeetsSeq3
end
section
variable {prog:Program} {w:World} {A:Around} {E:Value->Shared->Prop} {s:Shared}
theorem xQ {t b:Addr} {vs ws:List Value} {Q:Value->Shared->Prop} (ht:IsTup s.heap t vs.toArray) (hb:IsTup s.heap b ws.toArray) (hv:vs ≠ [])
   (h1:ws=[]->Q (.ref t) s) (h2:ws ≠ []->Q (.ref s.heap.objs.size) { s with heap:=s.heap.push { cls:=.type "tuple",data:=.seq (vs++ws).toArray } })
   (hsz:vs.length + ws.length<=sizeLine):wpAny (model prog w) A (binaryOp .Add (.ref t) (.ref b)) Q E s:=by
 obtain ⟨⟨cls,dd,data,sl⟩,ho,hc,n,hd⟩:=id ht
 obtain ⟨⟨cls2,dd2,data2,sl2⟩,ho2,hc2,n2,hd2⟩:=id hb
 simp only at hc hd hc2 hd2
 subst hc hd hc2 hd2
 have e:vs.toArray++ws.toArray=(vs++ws).toArray:=by simp
 by_cases hw:ws=[]
 · exact concat_meets ⟨_,ho,rfl⟩ ⟨_,ho2,rfl⟩ noFill_tuple_add seq_tuple_add PySem.F.slot_tuple_add PySem.F.entry_tuple_add (PySem.F.args_tuple_add_2 _ _)
     (tuple_addW1 t b vs.toArray ws.toArray n n2 dd dd2 sl sl2 (by simpa using hv) (by simp [hw])) ⟨ho,ho2,h1 hw⟩
 · refine concat_meets ⟨_,ho,rfl⟩ ⟨_,ho2,rfl⟩ noFill_tuple_add seq_tuple_add PySem.F.slot_tuple_add PySem.F.entry_tuple_add (PySem.F.args_tuple_add_2 _ _)
     (tuple_addW2 t b vs.toArray ws.toArray n n2 dd dd2 sl sl2 (by simpa using hv) (by simpa using hw) (by rw [List.size_toArray,List.size_toArray]; exact hsz)) ⟨ho,ho2,?_⟩
   rw [e]
   exact h2 hw
noncomputable def sIx (n d:Nat):Option Int->Nat
 | none=>d
 | some v=>if v < 0 then (v + (n:Int)).toNat else min v.toNat n
theorem ot (n d:Nat):sIx n d none=d:=rfl
theorem ja (n d k:Nat):sIx n d (some (k:Int))=min k n:=by
 show (if (k:Int) < 0 then ((k:Int) + (n:Int)).toNat else min (k:Int).toNat n)=min k n
 rw [if_neg (by omega),Int.toNat_natCast]
end
end HT
namespace L2
open PySem PySem.Spec PyProof.Rows
noncomputable abbrev TO:=St->Hp->(Option Int->Hp->Prop)->Prop
noncomputable def PO (X:Cx) (e:Option Expr) (t:TO):Prop:=
 ∀ (pins:List (Addr × Obj)) (s:Shared) (σ:St) (H:Hp) (Q:Option Int->Hp->Prop),Inv X pins σ H s->t σ H Q ->
   wpAny (model X.prog X.w) X.A (evalPart e X.env) (λu s'=>∃ o H',Inv X pins σ H' s'/\IsPart u o/\Q o H') X.xe s
noncomputable def yg:TO:=λ_ H Q=>Q none H
noncomputable def CH (t:TE):TO:=λσ H Q=>t σ H λx H1=>∃ i,x=.int i/\Q (some i) H1
section
variable {X:Cx} {e:Expr} {te:TE} {lo hi:Option Expr} {tl th:TO} {pos p2:Pos}
theorem xK:PO X none yg:=by
 intro pins s σ H Q I h
 rw [evalPart_none]
 exact wpAny_pure ⟨none,H,I,.none,h⟩
theorem wk (h:PE X e te):PO X (some e) (CH te):=by
 intro pins s σ H Q I hw
 rw [evalPart_some]
 refine thn (h pins s σ H _ I hw) λu s1 ⟨x,H1,I1,r1,q1⟩=>?_
 obtain ⟨i,rfl,q⟩:=q1
 obtain ⟨t,rfl⟩:=r1
 exact ⟨some i,H1,I1,.int i t,q⟩
noncomputable def SlR (X:Cx) (r:V->Option Int->Option Int->Hp->VK->Prop):Prop:=
 ∀ (pins:List (Addr × Obj)) (s:Shared) (σ:St) (H:Hp) (x:V) (v vl vu:Value) (lo hi:Option Int) (sl:Addr) (Q:VK),Inv X pins σ H s->RelV x v->s.heap.IsSliceOf sl vl vu .none->IsPart vl lo->IsPart vu hi->r x lo hi H Q ->
   ∃ T id,typeLookup (.type T) "__getitem__" = pure (some (.builtin id))/\s.TypeIs v T/\wpAny (model X.prog X.w) X.A (getItem v (.ref sl)) (EP X pins σ Q) X.xe s
noncomputable def tSl (r:V->Option Int->Option Int->Hp->VK->Prop) (te:TE) (tl th:TO):TE:=λσ H Q=>te σ H λx H1=>tl σ H1 λl H2=>th σ H2 λu H3=>r x l u H3 Q
theorem uE {r:V->Option Int->Option Int->Hp->VK->Prop} (hr:SlR X r) (he:PE X e te) (hl:PO X lo tl) (hu:PO X hi th):PE X (.Subscript e (.Slice lo hi none p2) pos) (tSl r te tl th):=by
 intro pins s σ H Q I h
 refine Subscript_ (thn (he pins s σ H _ I h) λv s1 ⟨x,H1,I1,r1,q1⟩=>?_)
 refine wpAny_Slice (thn (hl pins s1 σ H1 _ I1 q1) λvl s2 ⟨l,H2,I2,pl,q2⟩=>thn (hu pins s2 σ H2 _ I2 q2) λvu s3 ⟨u,H3,I3,pu,q3⟩=>?_)
 rw [evalPart_none]
 refine wpAny_pure ?_
 have I4:Inv X pins σ H3 { s3 with heap:=s3.heap.push { cls:=.type "slice",data:=.fields #[vl,vu,.none] } }:=I3.kept (t':=s3.toks) λb ob q=>Heap.get?_push_of_some _ q
 obtain ⟨T,id,hT,ht,hg⟩:=hr pins { s3 with heap:=s3.heap.push { cls:=.type "slice",data:=.fields #[vl,vu,.none] } } σ H3 x v vl vu l u s3.heap.objs.size Q I4 r1 (Heap.IsSliceOf.new ..) pl pu q3
 show wpAny (model X.prog X.w) X.A (subscriptTail e (.Slice lo hi none p2) v (.ref s3.heap.objs.size)) (EP X pins σ Q) X.xe { s3 with heap:=s3.heap.push { cls:=.type "slice",data:=.fields #[vl,vu,.none] } }
 exact tail_any (ops:=[.ref s3.heap.objs.size,v]) ht hT hg (by with_unfolding_all rfl)
noncomputable def sS (xs:List V) (lo hi:Option Int):List V:=(xs.drop (HT.sIx xs.length 0 lo)).take (HT.sIx xs.length xs.length hi - HT.sIx xs.length 0 lo)
theorem oj (xs:List V) (lo hi:Option Int):(sS xs lo hi).length<=xs.length:=by
 unfold sS
 rw [List.length_take,List.length_drop]
 omega
noncomputable def Cg (K:PySem.W.Frag):R2:=λx y H Q=>∃ a b xs ys,x=.ref a/\y=.ref b/\SqT K H a xs/\SqT K H b ys/\xs ≠ []/\xs.length + ys.length<=sizeLine /\
 (ys=[]->Q (.ref a) H)/\(ys ≠ []->∀ p,H p=none->Q (.ref p) (upd H p (.tup (xs++ys))))
theorem Vals.mZ {xs:List V} {us:List Value} (r:Vals xs us):us=[] ↔ xs=[]:=by
 cases r with
 | nil=>simp
 | cons _ _=>simp
theorem wm:OpR X (binaryOp .Add) (Cg X.K):=by
 intro pins s σ H x y v u Q I rx ry h
 obtain ⟨a,b,xs,ys,rfl,rfl,ha,hb,hx,hz,q1,q2⟩:=h
 cases rx
 cases ry
 obtain ⟨its,r1,p1,_⟩:=I.tuple ha
 obtain ⟨its2,r2,p2,_⟩:=I.tuple hb
 refine HT.xQ p1 p2 (λz=>hx (r1.mZ.mp z)) (λz=>⟨.ref a,H,I,rfl,q1 (r2.mZ.mp z)⟩) (λz=>?_) (by rw [<- r1.length,<- r2.length]; exact hz)
 refine ⟨.ref s.heap.objs.size,_,I.laid (t':=s.toks) (o:=.tup (xs++ys)) (λb ob q=>Heap.get?_push_of_some _ q) (Nat.le_refl _) ?_,rfl,q2 (λw=>z (r2.mZ.mpr w)) _ (I.hok.fresh (Nat.le_refl _))⟩
 exact ⟨by rw [List.length_append]; exact hz,_,r1.append r2,IsTup.new _ _⟩
end
noncomputable def ixN (n:Nat) (i:Int):Option Nat:=if 0<=i then (if i < n then some i.toNat else none) else if -(n:Int)<=i then some (i + n).toNat else none
noncomputable def atI {α:Type} (xs:List α) (i:Int):Option α:=(ixN xs.length i).bind λj=>xs[j]?
theorem qy {n:Nat} {i:Int} {j:Nat} (h:ixN n i=some j):seqIndex? i n=some j/\j < n/\-(n:Int)<=i/\i < n:=by
 unfold ixN at h
 by_cases h0:0<=i
 · rw [if_pos h0] at h
   by_cases h1:i < n
   · rw [if_pos h1] at h
     have e:i.toNat=j:=Option.some.inj h
     exact ⟨by rw [seqIndex_of h0 h1,e],by omega,by omega,h1⟩
   · rw [if_neg h1] at h; cases h
 · rw [if_neg h0] at h
   by_cases h1:-(n:Int)<=i
   · rw [if_pos h1] at h
     have e:(i + n).toNat=j:=Option.some.inj h
     exact ⟨by rw [seqIndex_neg (by omega) h1,e],by omega,h1,by omega⟩
   · rw [if_neg h1] at h; cases h
theorem qz {α:Type} {xs:List α} {i:Int} {v:α} (h:atI xs i=some v):∃ j,seqIndex? i xs.length=some j/\xs[j]?=some v/\j < xs.length/\-(xs.length:Int)<=i/\i < xs.length:=by
 unfold atI at h
 cases e:ixN xs.length i with
 | none=>rw [e] at h; cases h
 | some j=>
   rw [e] at h
   obtain ⟨h1,h2,h3,h4⟩:=qy e
   exact ⟨j,h1,h,h2,h3,h4⟩
noncomputable def nc (b:Expr):Prop:=∀ o i,subscripted b false o i=operate [o,i] (getItem o i)
noncomputable def IxR (X:Cx) (r:R2):Prop:=
 ∀ (value slice:Expr) (pins:List (Addr × Obj)) (s:Shared) (σ:St) (H:Hp) (x y:V) (v u:Value) (Q:VK),Inv X pins σ H s->RelV x v->RelV y u->r x y H Q ->
   subscripted slice false v u=operate [v,u] (getItem v u)->wpAny (model X.prog X.w) X.A (subscriptTail value slice v u) (EP X pins σ Q) X.xe s
noncomputable def MtR (X:Cx) (id:String) (r:V->List V->Hp->VK->Prop):Prop:=
 ∀ (pins:List (Addr × Obj)) (s:Shared) (σ:St) (H:Hp) (x:V) (xs:List V) (v:Value) (us:List Value) (Q:VK),Inv X pins σ H s->RelV x v->Vals xs us->r x xs H Q ->
   wpAny (model X.prog X.w) X.A (call (.builtin id) (v :: us)) (EP X pins σ Q) X.xe s
section
variable {X:Cx} {a b:Expr} {ta tb:TE} {pos:Pos}
theorem yP {r:R2} (hr:IxR X r) (ha:PE X a ta) (hb:PE X b tb) (hs:nc b):PE X (.Subscript a b pos) (tOp r ta tb):=by
 intro pins s σ H Q I h
 exact Subscript_ (y8 ha hb I h λv u s2 x y H2 I2 rx ry q=>hr a b pins s2 σ H2 x y v u Q I2 rx ry q (hs _ _))
noncomputable def CN (K:PySem.W.Frag):R2:=λx y H Q=>∃ p xs i v,x=.ref p/\y=.int i/\SqL K H p xs/\atI xs i=some v/\Q v H
noncomputable def Dh (K:PySem.W.Frag):R2:=λx y H Q=>∃ p xs i v,x=.ref p/\y=.int i/\SqT K H p xs/\atI xs i=some v/\Q v H
theorem rm:IxR X (CN X.K):=by
 intro value slice pins s σ H x y v u Q I rx ry h hs
 obtain ⟨p,xs,i,z,rfl,rfl,hq,he,q⟩:=h
 cases rx
 obtain ⟨t,rfl⟩:=ry
 obtain ⟨its,r,pl,hz⟩:=I.list hq
 obtain ⟨j,h1,h2,h3,h4,h5⟩:=qz he
 obtain ⟨w,ew,rw'⟩:=r.get h2
 have hl:=r.length
 have hn:=nE
 have fin:EP X pins σ Q w s:=⟨z,H,I,rw',q⟩
 by_cases h0:0<=i
 · have hj:i.toNat=j:=by
     rw [seqIndex_of h0 h5] at h1
     exact Option.some.inj h1
   exact item_listR pl.isList h0 (by omega) (by rw [hj]; simpa using ew) fin hs
 · have hj:(i + (its.toArray.size:Int)).toNat=j:=by
     rw [seqIndex_neg (by omega) h4] at h1
     rw [List.size_toArray,<- hl]
     exact Option.some.inj h1
   exact subscriptTail_builtinR (x:=w) pl.isList.typeIs slot_list_getitem.lookup
     (wpAny_getItem_list_neg (Q:=λr s'=>r=w/\EP X pins σ Q r s') pl.isList (by omega) (by rw [List.size_toArray] <;> omega) (by omega) (by rw [hj]; simpa using ew) ⟨rfl,fin⟩) hs
theorem Ao:IxR X (Dh X.K):=by
 intro value slice pins s σ H x y v u Q I rx ry h hs
 obtain ⟨p,xs,i,z,rfl,rfl,hq,he,q⟩:=h
 cases rx
 obtain ⟨t,rfl⟩:=ry
 obtain ⟨its,r,pl,hz⟩:=I.tuple hq
 obtain ⟨j,h1,h2,h3,h4,h5⟩:=qz he
 obtain ⟨w,ew,rw'⟩:=r.get h2
 have hl:=r.length
 have hn:=nE
 have fin:EP X pins σ Q w s:=⟨z,H,I,rw',q⟩
 exact subscriptTail_builtinR (x:=w) pl.typeIs slot_tuple_getitem.lookup
   (getItem_tuple (j:=j) (Q:=λr s'=>r=w/\EP X pins σ Q r s') pl (by omega) (by omega) (by rw [List.size_toArray,<- hl]; exact h1) (by simpa using ew) ⟨rfl,fin⟩) hs
theorem qc (its:List Value) (n j:Nat) (u:Value):Obj.mapSeq (·.setIfInBounds j u) { cls:=.type "list",data:=.seq its.toArray n }={ cls:=.type "list",data:=.seq (its.set j u).toArray n }:=by
 simp [Obj.mapSeq]
theorem Inv.lst {pins:List (Addr × Obj)} {σ:St} {H:Hp} {s:Shared} {p:Addr} {xs:List V} (I:Inv X pins σ H s) (h:H p=some (.lst xs)) :
   ∃ (its:List Value) (n:Nat),Vals xs its/\s.heap.get? p=some { cls:=.type "list",data:=.seq its.toArray n }/\xs.length<=sizeLine:=by
 obtain ⟨z,its,n,r,e⟩:=I.hok p _ h
 exact ⟨its,n,r,e,z⟩
theorem Inv.zQ {pins:List (Addr × Obj)} {σ:St} {H:Hp} {s:Shared} {p:Addr} {xs ys:List V} {its its':List Value} {n n':Nat} {f:Obj->Obj} (I:Inv X pins σ H s) (h:H p=some (.lst xs))
   (ho:s.heap.get? p=some { cls:=.type "list",data:=.seq its.toArray n }) (hf:f { cls:=.type "list",data:=.seq its.toArray n }={ cls:=.type "list",data:=.seq its'.toArray n' }) (r:Vals ys its') (hz:ys.length<=sizeLine) (t:Nat) :
   Inv X pins σ (upd H p (.lst ys)) { s with heap:=s.heap.update p f,toks:=t }:=by
 have e:(s.heap.update p f).get? p=some { cls:=.type "list",data:=.seq its'.toArray n' }:=by
   rw [Heap.get?_update_self f ho (by rw [hf] <;> rfl),hf]
 refine I.write (x:=p) (e:=p) (by rw [h]; trivial) (.inl rfl) (λb u hb q=>(Heap.get?_update_other _ _ (Ne.symm hb)).trans q) ⟨_,e⟩ ?_
 exact ⟨hz,its',n',r,e⟩
noncomputable def Cs:V->V->V->Hp->(Hp->Prop)->Prop:=λo i v H Q=>∃ p xs k j,o=.ref p/\i=.int k/\H p=some (.lst xs)/\ixN xs.length k=some j/\Q (upd H p (.lst (xs.set j v)))
theorem set_list:BE X Cs:=by
 intro pins s σ H o i v ov iv u Q I ro ri rv h
 obtain ⟨p,xs,k,j,rfl,rfl,hp,hj,q⟩:=h
 cases ro
 obtain ⟨t,rfl⟩:=ri
 obtain ⟨its,n,r,ho,hz⟩:=I.lst hp
 obtain ⟨h1,h2,h3,h4⟩:=qy hj
 have hl:=r.length
 have hn:=nE
 have I':Inv X pins σ (upd H p (.lst (xs.set j v))) { s with heap:=s.heap.update p (Obj.mapSeq (·.setIfInBounds j u)) }:=
   I.zQ hp ho (qc its n j u) (r.set rv j) (by rw [List.length_set]; exact hz) s.toks
 by_cases h0:0<=k
 · have hk:k.toNat=j:=by
     rw [seqIndex_of h0 h4] at h1
     exact Option.some.inj h1
   exact PySem.W.ki_setAt ho h0 (by omega) (by rw [List.size_toArray,<- hl]; exact h4) (by rw [hk]; exact ⟨_,I',q⟩)
 · have hk:(k + (its.toArray.size:Int)).toNat=j:=by
     rw [seqIndex_neg (by omega) h3] at h1
     rw [List.size_toArray,<- hl]
     exact Option.some.inj h1
   exact PySem.W.ki_setBack ho (by omega) (by rw [List.size_toArray,<- hl]; exact h3) (by omega) (by rw [hk]; exact ⟨_,I',q⟩)
theorem ma (lo hi:Option Int) (n:Nat):(sliceBounds lo hi none n).1=((HT.sIx n 0 lo:Nat):Int)/\(sliceBounds lo hi none n).2.1=((HT.sIx n n hi:Nat):Int)/\(sliceBounds lo hi none n).2.2=1:=by
 refine ⟨?_,?_,rfl⟩
 · cases lo with
   | none=>simp [sliceBounds,HT.sIx]
   | some i=>
     simp only [sliceBounds,HT.sIx,Option.getD_none,show (1:Int) > 0 by decide,if_true]
     by_cases h:i < 0
     · simp only [h,if_true] <;> omega
     · simp only [h,if_false] <;> omega
 · cases hi with
   | none=>simp [sliceBounds,HT.sIx]
   | some i=>
     simp only [sliceBounds,HT.sIx,Option.getD_none,show (1:Int) > 0 by decide,if_true]
     by_cases h:i < 0
     · simp only [h,if_true] <;> omega
     · simp only [h,if_false] <;> omega
theorem kL (its:List Value) (lo hi:Option Int):slicePick its.toArray lo hi none=((its.drop (HT.sIx its.length 0 lo)).take (HT.sIx its.length its.length hi - HT.sIx its.length 0 lo)).toArray:=by
 obtain ⟨h1,h2,h3⟩:=ma lo hi its.toArray.size
 unfold slicePick
 rw [h1,h2,h3]
 simp only [sliceRange_one,pick_run,List.size_toArray] <;> rfl
noncomputable def CV (K:PySem.W.Frag):V->Option Int->Option Int->Hp->VK->Prop:=λx lo hi H Q=>∃ a xs,x=.ref a/\SqL K H a xs/\∀ p,H p=none->Q (.ref p) (upd H p (.lst (sS xs lo hi)))
theorem xR:SlR X (CV X.K):=by
 intro pins s σ H x v vl vu lo hi sl Q I rx hs pl pu h
 obtain ⟨a,xs,rfl,hx,q⟩:=h
 cases rx
 obtain ⟨its,r,ht,hz⟩:=I.list hx
 have hlen:=r.length
 refine ⟨"list",_,slot_list_getitem.lookup,ht.isList.typeIs,?_⟩
 refine wpAny_getItem_list_slice ht.isList hs pl pu .none (by simp) ?_ (by rw [List.size_toArray] <;> omega)
 rw [kL,<- hlen]
 refine ⟨.ref s.heap.objs.size,_,I.laid (t':=s.toks) (o:=.lst (sS xs lo hi)) (λb ob q=>Heap.get?_push_of_some _ q) (Nat.le_refl _) ?_,rfl,q _ (I.hok.fresh (Nat.le_refl _))⟩
 exact ⟨Nat.le_trans (oj xs lo hi) hz,_,0,(r.drop (HT.sIx xs.length 0 lo)).take (HT.sIx xs.length xs.length hi - HT.sIx xs.length 0 lo),Heap.get?_push_size _ rfl⟩
noncomputable def iT:V->Bool
 | .non=>true
 | .bl _=>true
 | .int _=>true
 | .str _=>true
 | _=>false
noncomputable def eqV:V->V->Bool
 | .non,.non=>true
 | .bl a,.bl b=>a == b
 | .bl a,.int b=>(if a then 1 else 0) == b
 | .int a,.bl b=>a == (if b then 1 else 0)
 | .int a,.int b=>a == b
 | .str a,.str b=>a == b
 | _,_=>false
theorem AQ {A:Around} {s:Shared} {y x:V} {u v:Value} (ry:RelV y u) (rx:RelV x v) (fy:iT y=true) (fx:iT x=true):SeqAt.EqAt A s u v (eqV y x):=by
 cases y with
 | non=>
   cases ry
   cases x with
   | non=>cases rx; exact SeqAt.EqAt.same _
   | bl b=>cases rx; exact SeqAt.EqAt.none_bool b
   | int b=>obtain ⟨t,rfl⟩:=rx; exact SeqAt.EqAt.none_int b t
   | str b=>obtain ⟨t,rfl⟩:=rx; exact SeqAt.EqAt.none_str b t
   | _=>exact absurd (show false=true from fx) Bool.false_ne_true
 | bl a=>
   cases ry
   cases x with
   | non=>cases rx; exact SeqAt.EqAt.bool_none a
   | bl b=>cases rx; exact SeqAt.EqAt.bool_bool a b
   | int b=>obtain ⟨t,rfl⟩:=rx; exact SeqAt.EqAt.bool_int a b t
   | str b=>obtain ⟨t,rfl⟩:=rx; exact SeqAt.EqAt.bool_str a b t
   | _=>exact absurd (show false=true from fx) Bool.false_ne_true
 | int a=>
   obtain ⟨t',rfl⟩:=ry
   cases x with
   | non=>cases rx; exact SeqAt.EqAt.int_none a t'
   | bl b=>cases rx; exact SeqAt.EqAt.int_bool a t' b
   | int b=>obtain ⟨t,rfl⟩:=rx; exact SeqAt.EqAt.int_int a t' b t
   | str b=>obtain ⟨t,rfl⟩:=rx; exact SeqAt.EqAt.int_str a t' b t
   | _=>exact absurd (show false=true from fx) Bool.false_ne_true
 | str a=>
   obtain ⟨t',rfl⟩:=ry
   cases x with
   | non=>cases rx; exact SeqAt.EqAt.str_none a t'
   | bl b=>cases rx; exact SeqAt.EqAt.str_bool a t' b
   | int b=>obtain ⟨t,rfl⟩:=rx; exact SeqAt.EqAt.str_int a t' b t
   | str b=>obtain ⟨t,rfl⟩:=rx; exact SeqAt.EqAt.str_str a t' b t
   | _=>exact absurd (show false=true from fx) Bool.false_ne_true
 | _=>exact absurd (show false=true from fy) Bool.false_ne_true
noncomputable def eqU (x:V) (u:Value):Bool:=match u with
 | .none=>eqV .non x
 | .bool b=>eqV (.bl b) x
 | .int i _=>eqV (.int i) x
 | .str z _=>eqV (.str z) x
 | _=>false
theorem uH {x y:V} {u:Value} (r:RelV y u) (f:iT y=true):eqU x u=eqV y x:=by
 cases y with
 | non=>cases r; rfl
 | bl b=>cases r; rfl
 | int i=>obtain ⟨t,rfl⟩:=r; rfl
 | str z=>obtain ⟨t,rfl⟩:=r; rfl
 | _=>exact absurd (show false=true from f) Bool.false_ne_true
theorem lY {x:V}:∀ {xs:List V} {us:List Value},Vals xs us->xs.all iT=true->us.any (eqU x)=xs.any λy=>eqV y x
 | _,_,.nil,_=>rfl
 | y :: xs,u :: us,.cons r t,f=>by
   rw [List.all_cons,Bool.and_eq_true] at f
   rw [List.any_cons,List.any_cons,uH r f.1,lY t f.2]
theorem j5 {A:Around} {s:Shared} {x:V} {v:Value} (rx:RelV x v) (fx:iT x=true):∀ {xs:List V} {us:List Value},Vals xs us->xs.all iT=true->∀ u ∈ us,SeqAt.EqAt A s u v (eqU x u)
 | _,_,.nil,_=>λu hu=>by cases hu
 | y :: xs,u :: us,.cons r t,f=>λu' hu=>by
   rw [List.all_cons,Bool.and_eq_true] at f
   rcases List.mem_cons.mp hu with rfl | hu
   · rw [uH r f.1]; exact AQ r rx f.1 fx
   · exact j5 rx fx t f.2 u' hu
noncomputable def inV (x:V) (xs:List V):Bool:=xs.any λy=>eqV y x
noncomputable def rIn (K:PySem.W.Frag) (neg:Bool):R2:=λx y H Q=>∃ p xs,y=.ref p/\(SqL K H p xs\/SqT K H p xs)/\iT x=true/\xs.all iT=true/\Q (.bl (if neg then !inV x xs else inV x xs)) H
theorem mH:OpR X (compareOp .NotIn) (rIn X.K true):=by
 intro pins s σ H x y v u Q I rx ry h
 obtain ⟨p,xs,rfl,hq,fx,fs,q⟩:=h
 cases ry
 rcases hq with hq | hq
 · obtain ⟨its,r,pl,hz⟩:=I.list hq
   refine SeqAt.notIn_listAt (eqU x) pl.isList (λw hw=>j5 rx fx r fs w (by simpa using hw)) ⟨.bl _,H,I,rfl,?_⟩
   rw [show its.toArray.any (eqU x)=its.any (eqU x) by simp,lY r fs]
   exact q
 · obtain ⟨its,r,pl,hz⟩:=I.tuple hq
   refine SeqAt.notIn_tupleAt (eqU x) pl (λw hw=>j5 rx fx r fs w (by simpa using hw)) ⟨.bl _,H,I,rfl,?_⟩
   rw [show its.toArray.any (eqU x)=its.any (eqU x) by simp,lY r fs]
   exact q
theorem gF:eV X (.builtin "len") (λxs H Q=>∃ p ys,xs=[.ref p]/\(SqL X.K H p ys\/SqT X.K H p ys)/\Q (.int ys.length) H):=by
 intro pins s σ H xs us Q I r h
 obtain ⟨p,ys,rfl,hq,q⟩:=h
 obtain ⟨u,rfl,rx⟩:=vals1 r
 cases rx
 have hn:=nE
 rcases hq with hq | hq
 · obtain ⟨its,r',pl,hz⟩:=I.list hq
   have hlen:=r'.length
   exact Calls.call_len_list pl.isList (by simp only [List.size_toArray] <;> omega) ⟨.int ys.length,H,I.tok _,⟨s.toks + 1,by rw [List.size_toArray,hlen]⟩,q⟩
 · obtain ⟨its,r',pl,hz⟩:=I.tuple hq
   have hlen:=r'.length
   exact len_tuple pl (by simp only [List.size_toArray] <;> omega) ⟨.int ys.length,H,I.tok _,⟨s.toks + 1,by rw [List.size_toArray,hlen]⟩,q⟩
theorem mJ:eV X (.type "list") (λxs H Q=>∃ p ys,xs=[.ref p]/\(SqL X.K H p ys\/SqT X.K H p ys)/\∀ l,H l=none->Q (.ref l) (upd H l (.lst ys))):=by
 intro pins s σ H xs us Q I r h
 obtain ⟨p,ys,rfl,hq,q⟩:=h
 obtain ⟨u,rfl,rx⟩:=vals1 r
 cases rx
 have fin:∀ (its:List Value),Vals ys its->ys.length<=sizeLine->∀ (h':Heap) (c':Nat),(∀ b o',s.heap.get? b=some o'->h'.get? b=some o') ->
     h'.get? s.heap.objs.size=some { cls:=.type "list",dict:=none,data:=.seq its.toArray c',slots:=#[] }->EP X pins σ Q (.ref s.heap.objs.size) { s with heap:=h' }:=λits r' hz h' c' kp e=>
   ⟨.ref s.heap.objs.size,_,I.laid (t':=s.toks) kp (Nat.le_refl _) (show bh X.prog X.w _ h' _ (.lst ys) from ⟨hz,its,c',r',e⟩),rfl,q _ (I.hok.fresh (Nat.le_refl _))⟩
 rcases hq with hq | hq
 · obtain ⟨its,r',pl,hz⟩:=I.list hq
   have hlen:=r'.length
   obtain ⟨o,ho,hc,n,hd⟩:=pl.isList
   exact call_list_seq p (.inl rfl) ho hc hd (λh' c' kp e=>fin its r' hz h' c' kp e) (by simp only [List.size_toArray] <;> omega)
 · obtain ⟨its,r',pl,hz⟩:=I.tuple hq
   have hlen:=r'.length
   obtain ⟨o,ho,hc,n,hd⟩:=pl
   exact call_list_seq p (.inr rfl) ho hc hd (λh' c' kp e=>fin its r' hz h' c' kp e) (by simp only [List.size_toArray] <;> omega)
theorem kJ:eV X (.type "tuple") (λxs H Q=>∃ p ys,xs=[.ref p]/\((SqL X.K H p ys/\∀ l,H l=none->Q (.ref l) (upd H l (.tup ys)))\/(SqT X.K H p ys/\Q (.ref p) H))):=by
 intro pins s σ H xs us Q I r h
 obtain ⟨p,ys,rfl,h⟩:=h
 obtain ⟨u,rfl,rx⟩:=vals1 r
 cases rx
 rcases h with ⟨hq,q⟩ | ⟨hq,q⟩
 · obtain ⟨its,r',pl,hz⟩:=I.list hq
   have hlen:=r'.length
   refine call_tuple_list pl.isList (λh' kp=>?_) (by simp only [List.size_toArray] <;> omega)
   have I1:Inv X pins σ H { s with heap:=h' }:=I.kept (t':=s.toks) kp
   have I2:Inv X pins σ (upd H h'.objs.size (.tup ys)) { s with heap:=h'.push { cls:=.type "tuple",data:=.seq its.toArray } }:=
     I1.laid (t':=s.toks) (λb o e=>Heap.get?_push_of_some _ e) (Nat.le_refl _) (show bh X.prog X.w _ _ _ (.tup ys) from ⟨hz,its,r',IsTup.new _ _⟩)
   exact ⟨.ref h'.objs.size,_,I2,rfl,q _ (I1.hok.fresh (Nat.le_refl _))⟩
 · obtain ⟨its,r',pl,hz⟩:=I.tuple hq
   exact call_tuple_same pl ⟨.ref p,H,I,rfl,q⟩
noncomputable def tyV (K:PySem.W.Frag) (T:String) (x:V) (H:Hp):Prop:=match x with
 | .str _=>T = "str"
 | .int _=>T = "int"
 | .ref p=>(T = "list" /\ ∃ xs,SqL K H p xs)\/(T = "tuple" /\ ∃ o,K.lookup p=some o/\o.cls=.type "tuple" /\ o.dict=none) \/
     (T = "dict" /\ ((∃ kvs,H p=some (.dK kvs))\/∃ kvs,H p=some (.dT kvs)))\/(T = "set" /\ ∃ S n,H p=some (.set S n))
 | _=>False
theorem zP {pins:List (Addr × Obj)} {σ:St} {H:Hp} {s:Shared} {T:String} {x:V} {v:Value} (I:Inv X pins σ H s) (r:RelV x v) (ty:tyV X.K T x H) :
   s.TypeIs v T/\∀ a,v=.ref a->∃ ob,s.heap.get? a=some ob/\ob.dict=none:=by
 cases x with
 | str z=>
   obtain ⟨t,rfl⟩:=r
   cases (show T = "str" from ty)
   exact ⟨typeIs_str s z t,λ_ e=>nomatch e⟩
 | int i=>
   obtain ⟨t,rfl⟩:=r
   cases (show T = "int" from ty)
   exact ⟨typeIs_int s i t,λ_ e=>nomatch e⟩
 | ref p=>
   cases r
   rcases ty with ⟨rfl,xs,hq⟩ | ⟨rfl,o,hk,hc,hd⟩ | ⟨rfl,hk⟩ | ⟨rfl,S,n,hk⟩
   · obtain ⟨its,_,pl,_⟩:=I.list hq
     refine ⟨pl.isList.typeIs,λa e=>?_⟩
     cases e
     obtain ⟨o,n,e,c,hd,_⟩:=pl
     exact ⟨o,e,hd⟩
   · refine ⟨⟨o,I.kIn p o hk,hc⟩,λa e=>?_⟩
     cases e
     exact ⟨o,I.kIn _ o hk,hd⟩
   · have z:∃ o,s.heap.get? p=some o/\o.ExactDict:=by
       rcases hk with ⟨kvs,hk⟩ | ⟨kvs,hk⟩
       · obtain ⟨_,_,_,_,o,_,_,e,ex,_⟩:=I.hok p _ hk
         exact ⟨o,e,ex⟩
       · obtain ⟨_,_,_,_,o,_,_,e,ex,_⟩:=I.hok p _ hk
         exact ⟨o,e,ex⟩
     obtain ⟨o,e,ex⟩:=z
     refine ⟨⟨o,e,ex.1⟩,λa e2=>?_⟩
     cases e2
     exact ⟨o,e,ex.2.1⟩
   · obtain ⟨o,_,_,_,e,ex,_⟩:=I.hok p _ hk
     refine ⟨⟨o,e,ex.1⟩,λa e2=>?_⟩
     cases e2
     exact ⟨o,e,ex.2.1⟩
 | _=>exact False.elim ty
noncomputable def tBM (K:PySem.W.Frag) (T:String) (r:V->List V->Hp->VK->Prop) (to:TE) (t:TA):TE:=λσ H Q=>to σ H λx H1=>tyV K T x H1/\t σ H1 λxs H2=>r x xs H2 Q
variable {o e:Expr} {es:List Expr} {to:TE} {t:TA} {name:Str} {apos cpos:Pos} {T id:String} {r:V->List V->Hp->VK->Prop}
theorem n8 (pa:PlainAttrs T) (slot:Slot T name id) (hty:typeOf (.builtin id)=pure (.type "method_descriptor")) (hm:MtR X id r) (ho:PE X o to) (ha:PA X (e :: es) t)
   (hbase:attributeBase o name X.env (eval o X.env)=eval o X.env:=by rfl)
   (hfew:((backTo cpos (starEach (e :: es) X.env)).all (λx=>!x.1) && (backToKw cpos (keywordEach [] X.env)).all (λx=>x.1.isSome)
     && decide ((e :: es).length + ([]:List Keyword).length + (if ([]:List Keyword).isEmpty then 0 else 1) < 30))=true:=by rfl)
   (hline:(apos.endLine == cpos.line)=true:=by rfl) (hs:starEach (e :: es) X.env=(false,eval e X.env) :: starEach es X.env:=by rfl) (hplain:(backTo cpos (starEach es X.env)).any (·.1)=false:=by rfl) :
   PE X (.Call (.Attribute o name apos) (e :: es) [] cpos) (tBM X.K T r to t):=by
 intro pins s σ H Q I h
 refine wpAny_Call_method_late hbase hfew hline rfl (thn (ho pins s σ H _ I h) λv s1 ⟨x,H1,I1,r1,ty,q1⟩=>?_)
 obtain ⟨h1,h2⟩:=zP I1 r1 ty
 refine ⟨T,id,pa,slot,hty,h1,h2,?_⟩
 have hA:=ha cpos pins s1 σ H1 _ I1 q1
 rw [hs] at hA ⊢
 refine Calls.callWith_builtin (by show (false || (backTo cpos (starEach es X.env)).any (·.1))=false; rw [hplain] <;> rfl) (Calls.evalArgs_plain ?_)
 exact thn hA λus s2 ⟨vs,H2,I2,r2,q2⟩=>hm pins s2 σ H2 x vs v us Q I2 r1 r2 q2
end
noncomputable def MtM (X:Cx) (id:String) (r:V->List V->Hp->VK->Prop):Prop:=
 ∀ (pins:List (Addr × Obj)) (s:Shared) (σ:St) (H:Hp) (x:V) (xs:List V) (v:Value) (us:List Value) (Q:VK),Inv X pins σ H s->RelV x v->Vals xs us->r x xs H Q ->
   wpAny (model X.prog X.w) X.A (call (.builtin id) (v :: us)) (EP X pins σ Q) X.xe s
theorem Vals.one:∀ {x:V} {us:List Value},Vals [x] us->∃ u,us=[u]/\RelV x u
 | _,_,.cons r .nil=>⟨_,rfl,r⟩
theorem Vals.two:∀ {x y:V} {us:List Value},Vals [x,y] us->∃ u v,us=[u,v]/\RelV x u/\RelV y v
 | _,_,_,.cons r (.cons q .nil)=>⟨_,_,rfl,r,q⟩
theorem Vals.eraseIdx:∀ {xs:List V} {us:List Value} (i:Nat),Vals xs us->Vals (xs.eraseIdx i) (us.eraseIdx i)
 | _,_,_,.nil=>.nil
 | _,_,0,.cons _ t=>t
 | _,_,i + 1,.cons r t=>.cons r (Vals.eraseIdx i t)
theorem lN {α:Type}:∀ (l:List α) (i:Nat),(l.eraseIdx i).length<=l.length
 | [],_=>Nat.le_refl _
 | _ :: _,0=>Nat.le_succ _
 | _ :: r,i + 1=>Nat.succ_le_succ (lN r i)
section
variable {X:Cx} {pins:List (Addr × Obj)} {σ:St} {H:Hp} {s:Shared} {l b:Addr} {xs ys zs:List V}
theorem Inv.xo {its its':List Value} {n:Nat} {f:Array Value->Array Value} {t':Nat} (I:Inv X pins σ H s) (hH:H l=some (.lst xs))
   (e:s.heap.get? l=some { cls:=.type "list",data:=.seq its.toArray n }) (hf:f its.toArray=its'.toArray) (hv:Vals ys its') (hz:ys.length<=sizeLine) :
   Inv X pins σ (upd H l (.lst ys)) { s with heap:=s.heap.update l (Obj.mapSeq f),toks:=t' }:=by
 have q:=PySem.IsL.update e f
 rw [hf] at q
 refine I.write (x:=l) (e:=l) (by rw [hH]; exact trivial) (.inl rfl) (λb' u hb hu=>(Heap.get?_update_other s.heap (Obj.mapSeq f) (Ne.symm hb)).trans hu) ⟨_,q⟩ ?_
 exact ⟨hz,its',_,hv,q⟩
theorem Inv.CS {its:List Value} {t':Nat} (I:Inv X pins σ H s) (hv:Vals ys its) (hz:ys.length<=sizeLine) :
   Inv X pins σ (upd H s.heap.objs.size (.lst ys)) { s with heap:=s.heap.push { cls:=.type "list",data:=.seq its.toArray },toks:=t' }:=
 I.laid (λ_ _ q=>Heap.get?_push_of_some _ q) (Nat.le_refl _) ⟨hz,its,0,hv,Heap.get?_push_size _ rfl⟩
theorem Inv.fresh (I:Inv X pins σ H s):H s.heap.objs.size=none:=I.hok.fresh (Nat.le_refl _)
theorem Inv.uj (I:Inv X pins σ H s) (hH:H l=some (.lst xs)):xs.length<=sizeLine/\∃ (its:List Value) (n:Nat),Vals xs its/\xs.length=its.length/\s.heap.get? l=some { cls:=.type "list",data:=.seq its.toArray n }:=by
 obtain ⟨z,its,n,r,e⟩:=I.hok l _ hH
 exact ⟨z,its,n,r,r.length,e⟩
theorem v5 {n:Nat} (h:n<=sizeLine):Builtin.List.listTooLong n=false:=by
 unfold Builtin.List.listTooLong
 exact decide_eq_false (by omega)
end
section
variable {X:Cx}
noncomputable def wo:V->List V->Hp->VK->Prop:=λx vs H Q=>∃ l xs y,x=.ref l/\vs=[y]/\H l=some (.lst xs)/\xs.length < sizeLine/\Q .non (upd H l (.lst (xs++[y])))
theorem fK:MtM X "list.append" wo:=by
 intro pins s σ H x vs v us Q I rx rv h
 obtain ⟨l,xs,y,rfl,rfl,hH,hz,q⟩:=h
 cases rx
 obtain ⟨u,rfl,ru⟩:=rv.one
 obtain ⟨z,its,n,r,hl,e⟩:=I.uj hH
 refine call_meets F.slot_list_append ⟨_,e,rfl⟩ F.entry_list_append (F.args_list_append_2 _ _) (PySem.list_append l its.toArray n u (by rw [List.size_toArray]; omega)) ⟨e,?_⟩
 refine ⟨.non,_,I.xo (its':=its++[u]) hH e (by simp) (r.append (.cons ru .nil)) ?_,rfl,q⟩
 rw [List.length_append,List.length_singleton]
 omega
noncomputable def xu:V->List V->Hp->VK->Prop:=λx vs H Q=>∃ l b xs zs,x=.ref l/\vs=[.ref b]/\H l=some (.lst xs)/\H b=some (.lst zs)/\xs.length + zs.length<=sizeLine/\Q .non (upd H l (.lst (xs++zs)))
theorem sj:MtM X "list.extend" xu:=by
 intro pins s σ H x vs v us Q I rx rv h
 obtain ⟨l,b,xs,zs,rfl,rfl,hH,hB,hz,q⟩:=h
 cases rx
 obtain ⟨u,rfl,ru⟩:=rv.one
 cases ru
 obtain ⟨z,its,n,r,hl,e⟩:=I.uj hH
 obtain ⟨z2,its2,n2,r2,hl2,e2⟩:=I.uj hB
 have hsz:its.toArray.size + its2.toArray.size<=sizeLine:=by rw [List.size_toArray,List.size_toArray]; omega
 have hlong:¬ (!its.toArray.isEmpty && Builtin.List.listTooLong (its.toArray.size + its2.toArray.size))=true:=by
   rw [v5 hsz,Bool.and_false]
   exact Bool.false_ne_true
 refine call_meets F.slot_list_extend ⟨_,e,rfl⟩ F.entry_list_extend (F.args_list_extend_2 _ _)
   (AutoSeq1.list_extend_list_list_0 l its.toArray n b its2.toArray n2 hlong (by rw [List.size_toArray]; omega) (by omega)) ⟨e,e2,?_⟩
 refine ⟨.non,_,I.xo (its':=its++its2) hH e (by simp) (r.append r2) ?_,rfl,q⟩
 rw [List.length_append]
 omega
noncomputable def zV:V->List V->Hp->VK->Prop:=λx vs H Q=>∃ l xs i k y,x=.ref l/\vs=[.int i]/\H l=some (.lst xs)/\-(2 ^ 63)<=i/\i < 2 ^ 63/\seqIndex? i xs.length=some k/\xs[k]?=some y/\Q y (upd H l (.lst (xs.eraseIdx k)))
theorem uQ:MtM X "list.pop" zV:=by
 intro pins s σ H x vs v us Q I rx rv h
 obtain ⟨l,xs,i,k,y,rfl,rfl,hH,h1,h2,hk,hy,q⟩:=h
 cases rx
 obtain ⟨u,rfl,ru⟩:=rv.one
 obtain ⟨t,rfl⟩:=ru
 obtain ⟨z,its,n,r,hl,e⟩:=I.uj hH
 obtain ⟨w,hw,rw'⟩:=r.get hy
 refine call_meets F.slot_list_pop ⟨_,e,rfl⟩ F.entry_list_pop (F.args_list_pop_2 _ _)
   (MeetsSeq.list_pop_at l its.toArray n i t k w (fitsIndex_both h1 h2) (by rw [List.size_toArray,<- hl]; exact hk) (by rw [<- Array.getElem?_toList]; exact hw) (by rw [List.size_toArray]; omega)) ⟨e,?_⟩
 refine ⟨y,_,I.xo (its':=its.eraseIdx k) hH e ?_ (r.eraseIdx k) ?_,rw',q⟩
 · show its.toArray.eraseIdxIfInBounds k=(its.eraseIdx k).toArray
   rw [List.eraseIdxIfInBounds_toArray]
 · have:=lN xs k
   omega
end
section
variable {prog:Program} {w:World} {A:Around} {E:Value->Shared->Prop} {s:Shared}
end
section
variable {X:Cx}
end
end L2
namespace Att
open PySem PySem.W PySem.Calls PyProof.Rows
theorem iV {P:Params} {h:Heap}:∀ (ns:List Int) (vs:List Value),WellAll P h vs (ns.map WData.int)->IntsAre vs ns:=by
 intro ns
 induction ns with
 | nil=>
   intro vs w
   rw [List.map_nil] at w
   cases w
   exact .nil
 | cons n ns ih=>
   intro vs w
   rw [List.map_cons] at w
   cases w with
   | cons a b=>
     cases a
     exact .cons _ _ (ih _ b)
theorem sR {l:OpenLaw} {n:Nat} (hn:l.most=some n) {P:Params} {h:Heap} {args:List WData} {vals:List Value}
   (hpre:l.row.toRowW.claim.pre args=true) (hwl:WellAll P h vals args) :
   ∃ a vs ns,vals=[Value.ref a]/\args=[WData.list (ns.map WData.int)]/\h.get? a=some { cls:=.type "list",data:=.seq vs.toArray }/\IntsAre vs ns/\ns.length<=n:=by
 have hsh:WShape.hasAll [] args [.list .int]=true:=(pre_splitW hpre).1
 have hc:l.pre.holds [] { args:=args }=true:=(pre_splitW hpre).2
 obtain ⟨d,r,rfl,h1,h2⟩:=hasAllW_cons hsh
 obtain rfl:=hasAllW_nil h2
 obtain ⟨xs,rfl,h3⟩:=hasW_list h1
 obtain ⟨ns,rfl⟩:=items_int h3
 have hlen:ns.length<=n:=by
   unfold OpenLaw.pre at hc
   have h4:(WTm.not (.lt (.lit (.int (n:Int))) (.len (.arg 0)))).holds [] { args:=[.list (ns.map .int)] }=true:=by
     have h4:=(holds_andW hc).1
     rw [hn] at h4
     exact h4
   have h5:=condW_of h4 (w_not (w_lt w_lit (w_len_list (w_arg rfl))))
   rw [List.length_map] at h5
   refine Nat.le_of_not_lt λq=>?_
   have q':(n:Int) < ((ns.length:Nat):Int):=by omega
   first
     | (rw [decide_eq_true q'] at h5; exact absurd h5 (by decide))
     | (simp at h5; omega)
 cases hwl with
 | cons w1 w2=>
   cases w2
   cases w1 with
   | list ho hall=>exact ⟨_,_,ns,rfl,rfl,ho,iV ns _ hall,hlen⟩
theorem sk (l:OpenLaw) (args:List WData):l.row.toRowW.claim.post args (.bool true) args=true:=
 postW_of (r:=l.row.toRowW) (X:=(true == true))
   (show WShape.has [] (.bool true) .bool=true by first | rfl | decide | simp [WShape.has,WShape.arms,WShape.armsAll])
   (show (WTm.eq .res (.lit (.bool true))).value [] { args:=args,res:=some (.bool true),after:=args }=some (.bool (true == true)) from w_eq_bool (w_res rfl) w_lit) rfl
theorem oW {l:OpenLaw} {n:Nat} {q:Program} {loose:List Str} {XP:(Str->Option Value)->Heap->Prop} {YP:World->Heap->Prop} {d:DefRec}
   (hn:l.most=some n) (hdf:d.params.defaults=[])
   (call:∀ (w:World) (s₀ s₁:Shared) (mg mb:Str->Option Value) (fa:Addr) (o:Obj) (pm cd doc:Value) (a:Addr) (vs:List Value) (ns:List Int),
     Ground q loose [] XP w s₀ mg mb s₁.heap->YP w s₁.heap ->
     s₁.heap.get? fa=some o->o.data=.func (docDef d.name d.params d.body d.scope pm cd doc)->s₁.heap.CodeRec cd d.name->mg d.name=some (.ref fa) ->
     s₁.heap.get? a=some { cls:=.type "list",data:=.seq vs.toArray }->IntsAre vs ns->ns.length<=n->s₁.gens=#[] ->
     codeAny (model l.prog w) callerA (.call (.ref fa) ⟨[.ref a],[]⟩) (λr s'=>r=.ok (.ret (.bool true))/\OldK s₁.heap s'.heap/\s'.os=s₁.os/\AllBare s'.gens) s₁) :
   WalkO q loose XP YP l.row.toRowW d [] (λf vs=>PySem.call f vs):=by
 intro w s₀ s₁ mg mb G Y fa o pm cd doc dV kV ho hd hcd hD hmg hg args vals as hpre hlay hrd hwl hlo
 obtain rfl:dV=.none:=Dflts.none hD hdf
 obtain rfl:kV=.none:=Dflts.noKw hD
 obtain ⟨a,vs,ns,rfl,rfl,hobj,hints,hlen⟩:=sR hn hpre hwl
 refine enter_call (codeAny_mono (call w s₀ s₁ mg mb fa o pm cd doc a vs ns G Y ho (fd_plain hd) hcd hmg hobj hints hlen hg) λr s' hq=>?_)
 obtain ⟨rfl,h2,h3,h4⟩:=hq
 exact ⟨.inl ⟨.bool true,.bool true,[],rfl,λ_=>rfl,.bool true,sk l _,λ_=>⟨List.Pairwise.nil,λ_ hm=>(nomatch hm)⟩⟩,h2,h3,h4⟩
section
variable {prog:Program} {w:World} {A:Around} {E:Value->Shared->Prop} {s:Shared} {K:Frag}
end
end Att
namespace L2
open PySem PySem.Spec PyProof.Rows
theorem lH:∀ {vs:List Value} {ns:List Int},IntsAre vs ns->Vals (ns.map V.int) vs
 | _,_,.nil=>.nil
 | _,_,.cons n t h=>.cons ⟨t,rfl⟩ (lH h)
noncomputable def zp (H:Hp):Prop:=∀ b,H b=none\/∃ o xs,H b=some (.frz o (.lst xs))
theorem tT {P:Program} {w:World} {K:PySem.W.Frag} {mg mb:Str->Option Value} {CX:CXT} {k:Nat} {fa a:Addr} {fd:FuncData} {x:Str} {sp:Sp} {s₁:Shared} {vs:List Value} {ns:List Int}
   (KX:K.In s₁.heap) (hns:s₁.heap.Ns mainGlobals mg) (hb:s₁.heap.Ns builtinsNs mb) (hbb:∀ x:Str,x ≠ "__name__" -> mb x=bootBuiltins x) (hlim:s₁.heap.NoLimit) (hg:s₁.gens=#[])
   (ha:s₁.heap.get? a=some { cls:=.type "list",data:=.seq vs.toArray }) (hi:IntsAre vs ns) (hl:ns.length<=sizeLine) (hr:eN k callerA)
   (F:∀ base:Heap,K.In base->base.Ns mainGlobals mg->aN P w K mg base CX k fa fd [x] sp) (hbind:∀ (s:Shared) (u:Value),BindsTo s fd ⟨[u],[]⟩ [(x,u)])
   (hsp:∀ H:Hp,zp H->SqL K H a (ns.map V.int)->sp [.ref a] H (λv _=>v=.bl true) λ_ _ _=>False)
   (hCX:∀ H e s',CX [] H s₁ (λ_ _ _=>False) e s'->False) :
   codeAny (model P w) callerA (.call (.ref fa) ⟨[.ref a],[]⟩) (λr s'=>r=.ok (.ret (.bool true))/\OldK s₁.heap s'.heap/\s'.os=s₁.os/\AllBare s'.gens) s₁:=by
 have rv:=lH hi
 have lenV:=hi.length
 have core:∀ H:Hp,zp H->SqL K H a (ns.map V.int)->HOk P w H s₁.heap->(∀ b,H b ≠ none->b=a)->(H a ≠ none->K.lookup a=none) ->
     codeAny (model P w) callerA (.call (.ref fa) ⟨[.ref a],[]⟩) (λr s'=>r=.ok (.ret (.bool true))/\OldK s₁.heap s'.heap/\s'.os=s₁.os/\AllBare s'.gens) s₁:=by
   intro H hO hS hok hA hK
   have base_of:∀ {b:Addr} {o:Obj},s₁.heap.get? b=some o->H b=none->(mz s₁.heap H).get? b=some o:=λe n=>um e n
   have noA:∀ {b:Addr} {o:Obj} {es:Array DictEntry} {ep:Nat},s₁.heap.get? b=some o->o.data=.dict es ep->H b=none:=λ{b o es ep} e d=>by
     cases q:H b with
     | none=>rfl
     | some u=>
       have e':b=a:=hA b (by rw [q]; simp)
       subst e'
       rw [ha] at e; cases e
       have d':Data.seq vs.toArray _=Data.dict es ep:=d
       cases d'
   have nsK:∀ {b:Addr} {m:Str->Option Value},s₁.heap.Ns b m->(mz s₁.heap H).Ns b m:=λ{b m} ⟨o,es,ep,e,d,r⟩=>⟨o,es,ep,base_of e (noA e d),d,r⟩
   have hKb:K.In (mz s₁.heap H):=λb o e=>base_of (KX b o e) (by
     cases q:H b with
     | none=>rfl
     | some u=>
       have e':b=a:=hA b (by rw [q]; simp)
       subst e'
       rw [hK (by rw [q]; simp)] at e; cases e)
   have hM:Mod K mg (mz s₁.heap H):=⟨hKb,nsK hns,⟨mb,nsK hb,hbb⟩,let ⟨mc,h1,h2⟩:=hlim; ⟨mc,nsK h1,h2⟩⟩
   have e0:wM P w K mg (mz s₁.heap H) callerA [] s₁ H:=⟨rfl,hM,λb o e=>wV e,Nat.le_of_eq (tJ _ _),trivial,λb hb=>absurd (show b ∈ ([]:List Addr) from hb) (by simp),hok,.of_eq hg⟩
   refine codeAny_mono ((F _ hKb (nsK hns)).run callerA [] s₁ H ⟨[.ref a],[]⟩ [.ref a] [.ref a] _ _ hr e0 (hbind s₁ (.ref a)) (.cons rfl .nil) (hsp H hO hS)) λr s' h=>?_
   cases r with
   | error e=>exact (hCX H e s' h).elim
   | ok fl=>
     cases fl with
     | next=>exact False.elim h
     | brk=>exact False.elim h
     | cont=>exact False.elim h
     | ret u=>
       obtain ⟨v,H',os,bare,un,hok',r',q⟩:=h
       have q':v=.bl true:=q
       subst q'
       obtain rfl:u=Value.bool true:=r'
       refine ⟨rfl,OldK.of_keep λb o e=>?_,os,bare⟩
       cases q:H b with
       | none=>exact un.keep b o e q (by intro z; exact absurd (show b ∈ ([]:List Addr) from z) (by simp)) (by simp)
       | some u=>
         rcases hO b with z | ⟨ob,xs,z⟩
         · rw [q] at z; cases z
         · have z2:=un.frzs b ob _ z
           obtain ⟨e1,_⟩:=hok b _ z
           obtain ⟨e2,_⟩:=hok' b _ z2
           rw [e] at e1; cases e1
           exact e2
 cases hk:K.lookup a with
 | some o=>
   have e:=KX a o hk
   rw [ha] at e
   cases e
   refine core (λ_=>none) (λ_=>.inl rfl) (.inr ⟨_,vs.toArray,_,hk,rfl,rfl,rfl,by rw [List.size_toArray,lenV]; exact hl,by simpa using rv⟩) (λb u z=>by have z':(none:Option HO)=some u:=z; cases z') (λb z=>absurd rfl z) λz=>absurd rfl z
 | none=>
   refine core (λb=>if b=a then some (.frz { cls:=.type "list",data:=.seq vs.toArray } (.lst (ns.map V.int))) else none) (λb=>?_) (.inl (.inr ⟨{ cls:=.type "list",data:=.seq vs.toArray },if_pos rfl⟩)) (λb u z=>?_) (λb z=>?_) λ_=>hk
   · by_cases hb:b=a
     · exact .inr ⟨_,_,if_pos hb⟩
     · exact .inl (if_neg hb)
   · by_cases hb:b=a
     · have z':=(if_pos hb).symm.trans z
       cases z'
       subst hb
       exact ⟨ha,by rw [List.length_map]; exact hl,vs,_,rv,ha⟩
     · have z':=(if_neg hb).symm.trans z
       cases z'
   · by_cases hb:b=a
     · exact hb
     · exact absurd (if_neg hb) z
theorem yf {l:PySem.W.OpenLaw} {n k:Nat} {q:Program} {loose:List Str} {XP:(Str->Option Value)->Heap->Prop} {YP:World->Heap->Prop} {d:DefRec} {K:Params->PySem.W.Frag} {CX:World->CXT} {sp:World->Sp} {x:Str}
   (hn:l.most=some n) (hn2:n<=sizeLine) (hdf:d.params.defaults=[]) (hr:eN k callerA)
   (hY:∀ (w:World) (h:Heap),YP w h->(K w.params).In h)
   (F:∀ (w:World) (mg:Str->Option Value) (fa:Addr) (h:Heap),(K w.params).In h->h.Ns mainGlobals mg->mg d.name=some (.ref fa) ->
     ∃ fd:FuncData,(∀ (s:Shared) (u:Value),BindsTo s fd ⟨[u],[]⟩ [(x,u)]) /\
       ∀ base:Heap,(K w.params).In base->base.Ns mainGlobals mg->aN l.prog w (K w.params) mg base (CX w) k fa fd [x] (sp w))
   (hsp:∀ (w:World) (H:Hp) (a:Addr) (ns:List Int),ns.length<=n->zp H->SqL (K w.params) H a (ns.map V.int)->sp w [.ref a] H (λv _=>v=.bl true) λ_ _ _=>False)
   (hCX:∀ (w:World) (H:Hp) (s:Shared) (e:Value) (s':Shared),CX w [] H s (λ_ _ _=>False) e s'->False) :
   PySem.W.WalkO q loose XP YP l.row.toRowW d [] (λf vs=>PySem.call f vs):=by
 refine Att.oW hn hdf λw s₀ s₁ mg mb fa o pm cd doc a vs ns G Y ho hd hcd hmg hobj hints hlen hg=>?_
 have KX:=hY w _ Y
 obtain ⟨fd,hb,hF⟩:=F w mg fa _ KX G.T.g hmg
 exact tT KX G.T.g G.T.b G.T.builtins G.T.nolimit hg hobj hints (Nat.le_trans hlen hn2) hr hF hb (λH hO hS=>hsp w H a ns hlen hO hS) λH e s'=>hCX w H s₁ e s'
noncomputable def cB (s:Stmt):Arguments:=match s with
 | .FunctionDef _ a _ _ _ _ _ _ _ _=>a
 | _=>{ posonlyargs:=[],args:=[],vararg:=none,kwonlyargs:=[],kw_defaults:=[],kwarg:=none,defaults:=[] }
noncomputable def bK (s:Stmt):List Stmt:=match s with
 | .FunctionDef _ _ b _ _ _ _ _ _ _=>b
 | _=>[]
noncomputable def ag (s:Stmt):Scope:=match s with
 | .FunctionDef _ _ _ _ _ _ sc _ _ _=>sc
 | _=>{ kind:=.function,names:=[],isGenerator:=false,isCoroutine:=false }
noncomputable abbrev CX0:CXT:=λ_ _ _ _ _ _=>False
noncomputable abbrev E0:XK:=λ_ _ _=>False
theorem yE {X:Cx}:Passes CX0 X E0:=λ_ _ _ _ _ _ _ h=>h.elim
structure Fun (K:PySem.W.Frag) (x qual:Str) (st:Stmt) (f:Addr) (fd:FuncData):Prop where
 ex:∃ (oc:Value) (od:Option Addr) (dV kV doc pm:Value) (an:Option Addr) (cdv ct:Value) (osl:Array (Option Value)),
   fd=PySem.W.fnOf x qual (cB st) (bK st) (ag st) dV kV doc pm an cdv ct/\K.lookup f=some ⟨oc,od,.func fd,osl⟩/\PySem.W.codeIn K cdv qual=true
 kp:PySem.W.keepIn K (.ref f)=true
section
variable {P:Program} {w:World} {K:PySem.W.Frag} {mg:Str->Option Value} {base:Heap}
theorem Fun.ok {x qual:Str} {st:Stmt} {f:Addr} {fd:FuncData} {N ps:List Str} {k:Nat} {sp:Sp} (F:Fun K x qual st f fd) (S:ao N ps (ag st)) (len:∀ vs H Q E,sp vs H Q E->vs.length=ps.length)
   (hbody:∀ (cdv:Value) (A:Around) (outer:List Env) (s:Shared) (H:Hp) (vs:List V) (Q:VK) (E:XK),eN k (A.deeper (envOfC qual (ag st) s.heap.objs.size f cdv))->sp vs H Q E ->
     ∃ t,PSs (qh CX0 P w K mg base N qual (ag st) f cdv A outer s H E).nox (bK st) t/\t { nx:=λ_ H'=>Q .non H',rt:=Q } (start N vs) H):aN P w K mg base CX0 (k + 1) f fd ps sp:=by
 obtain ⟨oc,od,dV,kV,doc,pm,an,cdv,ct,osl,rfl,lk,hcd⟩:=F.ex
 refine B5 lk hcd S len λA outer s H vs Q E hr hsp=>?_
 obtain ⟨t,h,q⟩:=hbody cdv A outer s H vs Q E hr hsp
 exact ⟨t,h.nox,q⟩
theorem Fun.binds {x qual:Str} {st:Stmt} {f:Addr} {fd:FuncData} {ps:List Str} (_:Fun K x qual st f fd) (h:∀ us:List Value,us.length=ps.length->bindArgs fd ⟨us,[]⟩=pure (ps.zip us)):Binds K fd ps []:=.all h
theorem pP {x qual:Str} {st:Stmt} {f:Addr} {oc:Value} {od an:Option Addr} {osl:Array (Option Value)} {dV kV doc pm cdv ct:Value} (l:K.lookup f=some ⟨oc,od,.func (PySem.W.fnOf x qual (cB st) (bK st) (ag st) dV kV doc pm an cdv ct),osl⟩)
   (c:PySem.W.codeIn K cdv qual=true) (k:PySem.W.keepIn K (.ref f)=true):Fun K x qual st f (PySem.W.fnOf x qual (cB st) (bK st) (ag st) dV kV doc pm an cdv ct):=⟨⟨oc,od,dV,kV,doc,pm,an,cdv,ct,osl,rfl,l,c⟩,k⟩
end
theorem lJ {n:Nat} (h:n<=1000):n < sizeLine:=Nat.lt_of_le_of_lt h (by decide)
section
variable {X:Cx}
theorem pv (i:Nat) {x:Str} {pos:Pos} (hN:X.N[i]?=some x:=by rfl) (hv:Vis X.env.scope x:=by first | exact Or.inl rfl | exact Or.inr (Or.inl rfl) | exact Or.inr (Or.inr rfl)) (hd:(x == ("__debug__" : Str))=false:=by decide)
   (hcd:(x == ("__classdict__" : Str))=false:=by decide):PE X (.Name x pos) (BC i):=bN hN hv hd hcd
end
theorem sH {A B:Prop} (h:B):if false=true then A else B:=by
 rw [if_neg Bool.false_ne_true]
 exact h
theorem qi {A B:Prop} (h:A):if true=true then A else B:=by
 rw [if_pos rfl]
 exact h
noncomputable def aj (H H':Hp):Prop:=∀ b o,H b=some o->H' b=some o
theorem aj.refl (H:Hp):aj H H:=λ_ _ h=>h
theorem aj.trans {H H1 H2:Hp} (a:aj H H1) (b:aj H1 H2):aj H H2:=λc o h=>b c o (a c o h)
theorem aj.free {H H':Hp} (e:aj H H') {l:Addr} (h:H' l=Option.none):H l=Option.none:=by
 cases q:H l with
 | none=>rfl
 | some o=>
   rw [e l o q] at h
   cases h
theorem aj.seq {K:PySem.W.Frag} {H H':Hp} {a:Addr} {xs:List V} (e:aj H H') (h:SqL K H a xs):SqL K H' a xs:=by
 rcases h with (h | ⟨o,h⟩) | h
 · exact .inl (.inl (e _ _ h))
 · exact .inl (.inr ⟨o,e _ _ h⟩)
 · exact .inr h
end L2
set_option linter.all false
set_option maxRecDepth 100000
namespace Ev
open PySem PySem.Spec PyProof.Rows L2
structure Bx where
 p:PySem.W.Frag->Hp->Addr->Prop
 mono:∀ {K:PySem.W.Frag} {H H':Hp} {a:Addr},aj H H'->p K H a->p K H' a
 isd:∀ {K:PySem.W.Frag} {H:Hp} {a:Addr},p K H a->∃ o:HO,H a=some o/\∀ (P:Program) (w:World) (H':Hp) (h:Heap),bh P w H' h a o->∃ ob,h.get? a=some ob/\ob.cls=.type "dict"
inductive D where
 | non | bl (b:Bool) | int (i:Int) | str (x:Str) | tup (xs:List D) | lst (xs:List D) | box (x:Bx)
noncomputable instance:Inhabited D:=⟨.non⟩
mutual
inductive Den (K:PySem.W.Frag) (H:Hp):V->D->Prop where
 | non:Den K H .non .non
 | bl {b:Bool}:Den K H (.bl b) (.bl b)
 | int {i:Int}:Den K H (.int i) (.int i)
 | str {x:Str}:Den K H (.str x) (.str x)
 | tup {a:Addr} {vs:List V} {ds:List D} (h:SqT K H a vs) (r:aq K H vs ds):Den K H (.ref a) (.tup ds)
 | lst {a:Addr} {vs:List V} {ds:List D} (h:SqL K H a vs) (r:aq K H vs ds):Den K H (.ref a) (.lst ds)
 | box {a:Addr} {x:Bx} (h:x.p K H a):Den K H (.ref a) (.box x)
inductive aq (K:PySem.W.Frag) (H:Hp):List V->List D->Prop where
 | nil:aq K H [] []
 | cons {v:V} {d:D} {vs:List V} {ds:List D} (h:Den K H v d) (r:aq K H vs ds):aq K H (v :: vs) (d :: ds)
end
section
variable {K:PySem.W.Frag} {H H':Hp}
theorem aX (e:aj H H') {a:Addr} {xs:List V} (h:SqT K H a xs):SqT K H' a xs:=by
 rcases h with (h | ⟨o,h⟩) | h
 · exact .inl (.inl (e _ _ h))
 · exact .inl (.inr ⟨o,e _ _ h⟩)
 · exact .inr h
theorem aI (e:aj H H') {a:Addr} {xs:List V} (h:SqL K H a xs):SqL K H' a xs:=e.seq h
mutual
theorem Den.mono (e:aj H H'):∀ {v:V} {d:D},Den K H v d->Den K H' v d
 | _,_,.non=>.non
 | _,_,.bl=>.bl
 | _,_,.int=>.int
 | _,_,.str=>.str
 | _,_,.tup h r=>.tup (aX e h) (aq.mono e r)
 | _,_,.lst h r=>.lst (aI e h) (aq.mono e r)
 | _,_,.box (x:=x) h=>.box (x.mono e h)
theorem aq.mono (e:aj H H'):∀ {vs:List V} {ds:List D},aq K H vs ds->aq K H' vs ds
 | _,_,.nil=>.nil
 | _,_,.cons h r=>.cons (Den.mono e h) (aq.mono e r)
end
theorem aq.length:∀ {vs:List V} {ds:List D},aq K H vs ds->vs.length=ds.length
 | _,_,.nil=>rfl
 | _,_,.cons _ r=>congrArg (· + 1) r.length
theorem aq.get:∀ {vs:List V} {ds:List D} {i:Nat} {d:D},aq K H vs ds->ds[i]?=some d->∃ v,vs[i]?=some v/\Den K H v d
 | _,_,_,_,.nil,e=>by simp at e
 | _,_,0,_,.cons h _,e=>by simp at e; subst e; exact ⟨_,rfl,h⟩
 | _,_,i + 1,d,.cons _ r,e=>by
   obtain ⟨v,h1,h2⟩:=aq.get (i:=i) (d:=d) r (by simpa using e)
   exact ⟨v,by simpa using h1,h2⟩
theorem aq.append:∀ {xs ys:List V} {ds es:List D},aq K H xs ds->aq K H ys es->aq K H (xs++ys) (ds++es)
 | _,_,_,_,.nil,s=>s
 | _,_,_,_,.cons h r,s=>.cons h (aq.append r s)
theorem aq.take:∀ {xs:List V} {ds:List D} (n:Nat),aq K H xs ds->aq K H (xs.take n) (ds.take n)
 | _,_,0,_=>.nil
 | _,_,_ + 1,.nil=>.nil
 | _,_,n + 1,.cons h r=>.cons h (aq.take n r)
theorem aq.drop:∀ {xs:List V} {ds:List D} (n:Nat),aq K H xs ds->aq K H (xs.drop n) (ds.drop n)
 | _,_,0,r=>r
 | _,_,_ + 1,.nil=>.nil
 | _,_,n + 1,.cons _ r=>aq.drop n r
end
noncomputable def ay (i j:Int):Prop:=i.natAbs.log2 < 64\/j.natAbs.log2 < 64\/(i.natAbs.log2 < 1000000/\j.natAbs.log2 < 1000000)
noncomputable def aA (j:Int):Prop:=j ≠ 0/\j.natAbs.log2 < 9000
theorem ai {H:Hp} {p:Addr} (h:H p=none) (o:HO):aj H (upd H p o):=λb u q=>by rw [ax (aQ q h)]; exact q
noncomputable def Ite (K:PySem.W.Frag) (a:Addr):L2.It:=
 ⟨λi H=>∃ xs x,SqL K H a xs/\xs[i]?=some x,λi H v H'=>∃ p x,H p=none/\v=.ref p/\H'=upd H p (.tup [.int (i:Nat),x])/\∀ xs,SqL K H a xs->xs[i]?=some x,λi H=>∃ xs,SqL K H a xs/\xs.length<=i⟩
theorem su {P:Program} {w:World} {K:PySem.W.Frag} {ts:List Expr} {q:Nat} {tp:Pos} (a e it:Addr) (hne:e ≠ it) :
   Turn P w K false (.Tuple ts q tp) (Ite K a) [e,it] e (λi h=>(∃ old,IsEnum h e it (i:Nat) old)/\h.IsListIter it a i) where
 mem:=by simp
 obj:=λi h st b hb=>by
   obtain ⟨⟨old,h1⟩,o,h2,h3,h4⟩:=st
   rcases List.mem_cons.mp hb with rfl | hb
   · exact ⟨_,h1,λv z=>nomatch z⟩
   · have z:b=it:=by simpa using hb
     subst z
     exact ⟨o,h2,λv z=>by rw [h4] at z; cases z⟩
 keep:=λi h h' st k=>by
   obtain ⟨⟨old,h1⟩,o,h2,h3,h4⟩:=st
   exact ⟨⟨old,k e (by simp) _ h1⟩,o,k it (by simp) o h2,h3,h4⟩
 item:=by
   intro X hP hw hK hc i pins s σ H E I hf st hg
   subst hP hw hK
   obtain ⟨xs,x,hq,hx⟩:=hg
   obtain ⟨its,rv,p,hz⟩:=I.list hq
   obtain ⟨u,hu,ru⟩:=rv.get hx
   obtain ⟨⟨old,h1⟩,h2⟩:=st
   have fe:=hf e (by simp)
   have fi:=hf it (by simp)
   refine wpAny_pyNext_enum_item h1 h2 p.isList (x:=u) (by simpa using hu) hne λh' g1 g2 g3 g4 g5=>⟨_,rfl,?_⟩
   refine wpAny_letOwnedTupleGo_enum (s:={ s with heap:=h',toks:=s.toks + 1 }) g1 λh2' k1 k2=>?_
   have hn:H s.heap.objs.size=none:=I.hok.fresh (Nat.le_refl _)
   have le1:e < s.heap.objs.size:=Heap.lt_size h1
   have le2:it < s.heap.objs.size:=by obtain ⟨o,z,_⟩:=h2; exact Heap.lt_size z
   have kp:∀ b o,b ≠ e->b ≠ it->s.heap.get? b=some o->h2'.get? b=some o:=λb o b1 b2 z=>(k2.2 b b1).trans (g5 b o b1 b2 z)
   have nt:h2'.get? s.heap.objs.size=some { cls:=.type "tuple",data:=.seq #[.int (i:Nat) s.toks,u] }:=(k2.2 _ (Nat.ne_of_gt le1)).trans g3
   have ne1:∀ b v,H b=some v->b ≠ e:=λb v z q=>by rw [q,fe.1] at z; cases z
   have ne2:∀ b v,H b=some v->b ≠ it:=λb v z q=>by rw [q,fi.1] at z; cases z
   have hok0:HOk X.prog X.w H h2':=λb v z=>(I.hok b v z).jS (λc v' hc' q=>kp c v' (by
       rcases hc' with hc' | hc'
       · rw [hc']; exact ne1 b v z
       · exact ne1 c _ hc') (by
       rcases hc' with hc' | hc'
       · rw [hc']; exact ne2 b v z
       · exact ne2 c _ hc') q) (λ_ q=>q) λ_ _ q=>q
   have hok1:HOk X.prog X.w (upd H s.heap.objs.size (.tup [.int (i:Nat),x])) h2':=λb v z=>by
     by_cases hb:b=s.heap.objs.size
     · subst hb
       rw [aF] at z; cases z
       exact ⟨(by show 2<=sizeLine; decide),[.int (i:Nat) s.toks,u],.cons ⟨_,rfl⟩ (.cons ru .nil),_,nt,rfl,_,rfl⟩
     · rw [ax hb] at z
       exact (hok0 b v z).jS (λc v' _ q=>q) (λc q=>by rw [ax (aQ q hn)]; exact q) λc ys q=>by rw [ax (aQ q hn)]; exact q
   have I1:Inv X pins σ (upd H s.heap.objs.size (.tup [.int (i:Nat),x])) { s with heap:=h2',toks:=s.toks + 1 }:=by
     refine I.step (g':=s.gens) (d':=s.drawn) (ch:=[e,it]) (λb hb=>?_) (λb o _ _ hc' z _=>kp b o (λq=>hc' (by simp [q])) (λq=>hc' (by simp [q])) z)
       (λb o _ _ hc' z _=>⟨o.slots,kp b o (λq=>hc' (by simp [q])) (λq=>hc' (by simp [q])) z⟩)
       (λb o hc' z n=>by rw [ax (Nat.ne_of_lt (Heap.lt_size z))]; exact n) (λb o hc' z=>⟨o,kp b o (λq=>hc' (by simp [q])) (λq=>hc' (by simp [q])) z⟩)
       (λb ys z=>by rw [ax (aQ z hn)]; exact z) (λb o u z=>by rw [ax (aQ z hn)]; exact z) (λb ps z=>⟨#[],by rw [ax (aQ z hn),z]; simp⟩) (λm hm=>?_) hok1 I.bare
     · rcases List.mem_cons.mp hb with rfl | hb
       · exact ⟨fe.2.2.2.1,fe.2.1,fe.2.2.2.2.1,fe.2.2.2.2.2⟩
       · have z:b=it:=by simpa using hb
         subst z
         exact ⟨fi.2.2.2.1,fi.2.1,fi.2.2.2.2.1,fi.2.2.2.2.2⟩
     · obtain ⟨o,es,ep,ho,r⟩:=hm
       exact ⟨o,es,ep,kp _ o (Ne.symm fe.2.1) (Ne.symm fi.2.1) ho,r⟩
   refine ⟨.ref s.heap.objs.size,_,I1,rfl,⟨s.heap.objs.size,x,hn,rfl,rfl,λys hy=>by rw [I.gZ hy hq]; exact hx⟩,⟨⟨_,k1⟩,?_⟩,λb hb=>?_⟩
   · obtain ⟨o,z1,z2,z3⟩:=g2
     exact ⟨o,(k2.2 it (Ne.symm hne)).trans z1,z2,z3⟩
   · rcases List.mem_cons.mp hb with rfl | hb
     · rw [ax (Nat.ne_of_lt le1)]; exact fe.1
     · have z:b=it:=by simpa using hb
       subst z
       rw [ax (Nat.ne_of_lt le2)]; exact fi.1
 done:=by
   intro X hP hw hK hc i pins s σ H E I hf st hg
   subst hP hw hK
   obtain ⟨xs,hq,hx⟩:=hg
   obtain ⟨its,rv,p,hz⟩:=I.list hq
   obtain ⟨⟨old,h1⟩,h2⟩:=st
   obtain ⟨f0,f1,f2,f3,f4,f5⟩:=hf it (by simp)
   have hl:=rv.length
   exact wpAny_pyNext_enum_end (I.ok.hd hc.calm) h1 h2 p.isList (by simp; omega) λh' eb=>⟨rfl,I.turned (t':=s.toks) (λb o hb z=>eb b o hb z) f0 f1 f3 f4 f5⟩
 self:=λ_ _ _ _ _ st h=>by
   obtain ⟨⟨old,h1⟩,_⟩:=st
   exact wpAny_pyIter_enum h1 h
section
variable {X:Cx}
noncomputable def AV (K:PySem.W.Frag) (ta:TA):TI:=λσ H R=>ta σ H λvs H1=>∃ a,vs=[.ref a]/\(∃ xs,SqL K H1 a xs)/\R (Ite K a) H1
theorem sT:bootBuiltins "enumerate" = some (.type "enumerate"):=by decide +kernel
theorem nF {ts:List Expr} {q:Nat} {tp:Pos} {a:Expr} {ta:TA} {p pos:Pos} (hc:X.calm=true) (hg:Gl X "enumerate") (hm:X.mg "enumerate" = none) (ha:PA X [a] ta) (hs:starEach [a] X.env=[(false,eval a X.env)]) :
   PI X (.Tuple ts q tp) (.Call (.Name "enumerate" p) [a] [] pos) (AV X.K ta):=by
 intro pins s σ H R I h
 refine Call_ (d9 I hg hm sT (PyProof.Rows.callWith_type1 (thn (ha pos pins s σ H _ I h) λus s1 ⟨vs,H1,I1,r1,q1⟩=>?_) hs rfl))
 obtain ⟨l,e,⟨xs,hq⟩,q⟩:=q1
 subst e
 obtain ⟨u,rfl,ru⟩:=vals1 r1
 cases ru
 obtain ⟨its,rv,pl,hz⟩:=I1.list hq
 refine call_enumerate_list pl.isList λh' g1 g2 g3 g4=>?_
 refine wpAny_pyIter_enum (s:={ s1 with heap:=h' }) g1 ?_
 have I2:Inv X pins σ H1 { s1 with heap:=h' }:=I1.kept (t':=s1.toks) g4
 have n1:H1 (s1.heap.objs.size + 1)=none:=I1.hok.fresh (by omega)
 have n2:H1 s1.heap.objs.size=none:=I1.hok.fresh (Nat.le_refl _)
 refine ⟨false,s1.heap.objs.size + 1,[s1.heap.objs.size + 1,s1.heap.objs.size],_,_,H1,rfl,I2,.inl hc,su l (s1.heap.objs.size + 1) s1.heap.objs.size (Nat.succ_ne_self _),⟨⟨_,g1⟩,g2⟩,λb hb=>?_,q⟩
 rcases List.mem_cons.mp hb with rfl | hb
 · exact I1.oJ (by omega) n1
 · have z:b=s1.heap.objs.size:=by simpa using hb
   subst z
   exact I1.oJ (Nat.le_refl _) n2
end
noncomputable def Itz (K:PySem.W.Frag) (a b:Addr):L2.It:=
 ⟨λi H=>∃ xs ys x y,SqL K H a xs/\SqL K H b ys/\xs[i]?=some x/\ys[i]?=some y,
  λi H v H'=>∃ p x y,H p=none/\v=.ref p/\H'=upd H p (.tup [x,y])/\(∀ xs,SqL K H a xs->xs[i]?=some x)/\∀ ys,SqL K H b ys->ys[i]?=some y,
  λi H=>∃ xs ys,SqL K H a xs/\SqL K H b ys/\(xs.length<=i\/ys.length<=i)⟩
noncomputable def zSt (a b z TI TO i1 i2:Addr) (i:Nat) (h:Heap):Prop:=
 IsZip h z TI TO .none/\IsPair h TI (.ref i1) (.ref i2)/\(∃ u v,IsPair h TO u v)/\h.IsListIter i1 a i/\h.IsListIter i2 b i
theorem lg {h:Heap} {a b z TI TO i1 i2:Addr} {i:Nat} {xs ys:Array Value} (n:TI ≠ TO) (m:i1 ≠ i2) (s:zSt a b z TI TO i1 i2 i h) (l1:h.IsList a xs) (l2:h.IsList b ys):ZipApart z TI TO i1 i2 a b:=by
 obtain ⟨h1,h2,⟨u,v,h3⟩,⟨o4,h4,c4,d4⟩,⟨o5,h5,c5,d5⟩⟩:=s
 obtain ⟨o6,h6,c6,n6,d6⟩:=l1
 obtain ⟨o7,h7,c7,n7,d7⟩:=l2
 have kk:∀ {x y:Addr} {o p:Obj},h.get? x=some o->h.get? y=some p->o.cls ≠ p.cls->x ≠ y:=λe1 e2 c q=>by subst q; rw [e1] at e2; cases e2; exact c rfl
 have cz:∀ {s t:String},s ≠ t->Value.type s ≠ Value.type t:=λn q=>n (by cases q; rfl)
 refine ⟨kk h2 h1 (cz (by decide)),kk h3 h1 (cz (by decide)),kk h4 h1 ?_,kk h5 h1 ?_,n,kk h2 h4 ?_,kk h2 h5 ?_,kk h3 h4 ?_,kk h3 h5 ?_,m,kk h6 h1 ?_,kk h6 h3 ?_,kk h6 h4 ?_,kk h6 h5 ?_,kk h7 h1 ?_,kk h7 h3 ?_,kk h7 h4 ?_,kk h7 h5 ?_⟩
 all_goals first | (rw [c4]; exact cz (by decide)) | (rw [c5]; exact cz (by decide)) | (rw [c6]; exact cz (by decide)) | (rw [c7]; exact cz (by decide)) | (rw [c6,c4]; exact cz (by decide)) | (rw [c6,c5]; exact cz (by decide)) | (rw [c7,c4]; exact cz (by decide)) | (rw [c7,c5]; exact cz (by decide))
theorem uV {P:Program} {w:World} {K:PySem.W.Frag} {ts:List Expr} {q:Nat} {tp:Pos} (a b z TI TO i1 i2:Addr) (nT:TI ≠ TO) (nI:i1 ≠ i2) :
   Turn P w K false (.Tuple ts q tp) (Itz K a b) [z,TI,TO,i1,i2] z (zSt a b z TI TO i1 i2) where
 mem:=by simp
 obj:=λi h st c hb=>by
   obtain ⟨h1,h2,⟨u,v,h3⟩,⟨o4,h4,c4,d4⟩,⟨o5,h5,c5,d5⟩⟩:=st
   simp only [List.mem_cons,List.not_mem_nil,or_false] at hb
   rcases hb with rfl | rfl | rfl | rfl | rfl
   · exact ⟨_,h1,λv z=>nomatch z⟩
   · exact ⟨_,h2,λv z=>nomatch z⟩
   · exact ⟨_,h3,λv z=>nomatch z⟩
   · exact ⟨_,h4,λv z=>by rw [d4] at z; cases z⟩
   · exact ⟨_,h5,λv z=>by rw [d5] at z; cases z⟩
 keep:=λi h h' st k=>by
   obtain ⟨h1,h2,⟨u,v,h3⟩,⟨o4,h4,c4,d4⟩,⟨o5,h5,c5,d5⟩⟩:=st
   exact ⟨k z (by simp) _ h1,k TI (by simp) _ h2,⟨u,v,k TO (by simp) _ h3⟩,⟨o4,k i1 (by simp) _ h4,c4,d4⟩,⟨o5,k i2 (by simp) _ h5,c5,d5⟩⟩
 item:=by
   intro X hP hw hK hc i pins s σ H E I hf st hg
   subst hP hw hK
   obtain ⟨xs,ys,x,y,hq1,hq2,hx,hy⟩:=hg
   obtain ⟨its1,rv1,p1,hz1⟩:=I.list hq1
   obtain ⟨its2,rv2,p2,hz2⟩:=I.list hq2
   obtain ⟨u1,hu1,ru1⟩:=rv1.get hx
   obtain ⟨u2,hu2,ru2⟩:=rv2.get hy
   have D:=lg nT nI st p1.isList p2.isList
   obtain ⟨h1,h2,⟨u,v,h3⟩,h4,h5⟩:=st
   refine wpAny_pyNext_zip_item D h1 h2 h3 h4 h5 p1.isList p2.isList (x:=u1) (y:=u2) (by simpa using hu1) (by simpa using hu2) λh' g1 g2 g3 g4 g5 g6 g7=>⟨_,rfl,?_⟩
   refine wpAny_letOwnedTupleGo_zip (s:={ s with heap:=h' }) g1 λh2' k1 k2=>?_
   have hn:H s.heap.objs.size=none:=I.hok.fresh (Nat.le_refl _)
   have le1:z < s.heap.objs.size:=Heap.lt_size h1
   have lt2:TI < s.heap.objs.size:=Heap.lt_size h2
   have lt3:TO < s.heap.objs.size:=Heap.lt_size h3
   have lt4:i1 < s.heap.objs.size:=by obtain ⟨o,z,_⟩:=h4; exact Heap.lt_size z
   have lt5:i2 < s.heap.objs.size:=by obtain ⟨o,z,_⟩:=h5; exact Heap.lt_size z
   have kp:∀ c o,c ≠ z->c ≠ TO->c ≠ i1->c ≠ i2->s.heap.get? c=some o->h2'.get? c=some o:=λc o b1 b2 b3 b4 e=>(k2.2 c b1).trans (g7 c o b1 b2 b3 b4 e)
   have nt:IsPair h2' s.heap.objs.size u1 u2:=(k2.2 _ (Nat.ne_of_gt le1)).trans g5
   have ne:∀ c,c ∈ [z,TI,TO,i1,i2]->∀ d v,H d=some v->d ≠ c:=λc hc d v e q=>by
     have:=(hf c hc).1
     rw [q,this] at e; cases e
   have hok0:HOk X.prog X.w H h2':=λd v e=>(I.hok d v e).jS (λc v' hc' q=>kp c v'
       (by rcases hc' with hc' | hc'
           · rw [hc']; exact ne z (by simp) d v e
           · exact ne z (by simp) c _ hc')
       (by rcases hc' with hc' | hc'
           · rw [hc']; exact ne TO (by simp) d v e
           · exact ne TO (by simp) c _ hc')
       (by rcases hc' with hc' | hc'
           · rw [hc']; exact ne i1 (by simp) d v e
           · exact ne i1 (by simp) c _ hc')
       (by rcases hc' with hc' | hc'
           · rw [hc']; exact ne i2 (by simp) d v e
           · exact ne i2 (by simp) c _ hc') q) (λ_ q=>q) λ_ _ q=>q
   have hok1:HOk X.prog X.w (upd H s.heap.objs.size (.tup [x,y])) h2':=λd v e=>by
     by_cases hb:d=s.heap.objs.size
     · subst hb
       rw [aF] at e; cases e
       exact ⟨(by show 2<=sizeLine; decide),[u1,u2],.cons ru1 (.cons ru2 .nil),_,nt,rfl,_,rfl⟩
     · rw [ax hb] at e
       exact (hok0 d v e).jS (λc v' _ q=>q) (λc q=>by rw [ax (aQ q hn)]; exact q) λc ys q=>by rw [ax (aQ q hn)]; exact q
   have I1:Inv X pins σ (upd H s.heap.objs.size (.tup [x,y])) { s with heap:=h2' }:=by
     refine I.step (t':=s.toks) (g':=s.gens) (d':=s.drawn) (ch:=[z,TO,i1,i2]) (λc hb=>?_) (λc o _ _ hc' e _=>kp c o (λq=>hc' (by simp [q])) (λq=>hc' (by simp [q])) (λq=>hc' (by simp [q])) (λq=>hc' (by simp [q])) e)
       (λc o _ _ hc' e _=>⟨o.slots,kp c o (λq=>hc' (by simp [q])) (λq=>hc' (by simp [q])) (λq=>hc' (by simp [q])) (λq=>hc' (by simp [q])) e⟩)
       (λc o hc' e n=>by rw [ax (Nat.ne_of_lt (Heap.lt_size e))]; exact n) (λc o hc' e=>⟨o,kp c o (λq=>hc' (by simp [q])) (λq=>hc' (by simp [q])) (λq=>hc' (by simp [q])) (λq=>hc' (by simp [q])) e⟩)
       (λc ys e=>by rw [ax (aQ e hn)]; exact e) (λc o u e=>by rw [ax (aQ e hn)]; exact e) (λc ps e=>⟨#[],by rw [ax (aQ e hn),e]; simp⟩) (λm hm=>?_) hok1 I.bare
     · have hb':c ∈ [z,TI,TO,i1,i2]:=by
         simp only [List.mem_cons,List.not_mem_nil,or_false] at hb ⊢
         rcases hb with h | h | h | h <;> simp [h]
       have fe:=hf c hb'
       exact ⟨fe.2.2.2.1,fe.2.1,fe.2.2.2.2.1,fe.2.2.2.2.2⟩
     · obtain ⟨o,es,ep,ho,r⟩:=hm
       exact ⟨o,es,ep,kp _ o (Ne.symm (hf z (by simp)).2.1) (Ne.symm (hf TO (by simp)).2.1) (Ne.symm (hf i1 (by simp)).2.1) (Ne.symm (hf i2 (by simp)).2.1) ho,r⟩
   refine ⟨.ref s.heap.objs.size,_,I1,rfl,⟨s.heap.objs.size,x,y,hn,rfl,rfl,λzs hy'=>by rw [I.gZ hy' hq1]; exact hx,λzs hy'=>by rw [I.gZ hy' hq2]; exact hy⟩,⟨k1,?_,⟨u1,u2,(k2.2 TO D.TOz).trans g2⟩,?_,?_⟩,λc hb=>?_⟩
   · exact kp TI _ D.TIz D.TITO D.TIi1 D.TIi2 h2
   · obtain ⟨o,z1,z2,z3⟩:=g3
     exact ⟨o,(k2.2 i1 D.i1z).trans z1,z2,z3⟩
   · obtain ⟨o,z1,z2,z3⟩:=g4
     exact ⟨o,(k2.2 i2 D.i2z).trans z1,z2,z3⟩
   · have fc:=(hf c hb).1
     have lt:c < s.heap.objs.size:=by
       simp only [List.mem_cons,List.not_mem_nil,or_false] at hb
       rcases hb with rfl | rfl | rfl | rfl | rfl <;> assumption
     rw [ax (Nat.ne_of_lt lt)]
     exact fc
 done:=by
   intro X hP hw hK hc i pins s σ H E I hf st hg
   subst hP hw hK
   obtain ⟨xs,ys,hq1,hq2,hx⟩:=hg
   obtain ⟨its1,rv1,p1,hz1⟩:=I.list hq1
   obtain ⟨its2,rv2,p2,hz2⟩:=I.list hq2
   have D:=lg nT nI st p1.isList p2.isList
   obtain ⟨h1,h2,⟨u,v,h3⟩,h4,h5⟩:=st
   have hl1:=rv1.length
   have hl2:=rv2.length
   refine wpAny_pyNext_zip_end (I.ok.hd hc.calm) D h1 h2 h3 h4 h5 p1.isList p2.isList (by
     rcases hx with hx | hx
     · left; simp; omega
     · right; simp; omega) λh' eb=>⟨rfl,?_⟩
   have ne:∀ c,c ∈ [z,TI,TO,i1,i2]->∀ d v,H d=some v->d ≠ c:=λc hc d v e q=>by
     have:=(hf c hc).1
     rw [q,this] at e; cases e
   have hok0:HOk X.prog X.w H h':=λd v e=>(I.hok d v e).jS (λc v' hc' q=>eb c v'
       (by rcases hc' with hc' | hc'
           · rw [hc']; exact ne z (by simp) d v e
           · exact ne z (by simp) c _ hc')
       (by rcases hc' with hc' | hc'
           · rw [hc']; exact ne TO (by simp) d v e
           · exact ne TO (by simp) c _ hc')
       (by rcases hc' with hc' | hc'
           · rw [hc']; exact ne i1 (by simp) d v e
           · exact ne i1 (by simp) c _ hc')
       (by rcases hc' with hc' | hc'
           · rw [hc']; exact ne i2 (by simp) d v e
           · exact ne i2 (by simp) c _ hc') q) (λ_ q=>q) λ_ _ q=>q
   refine I.step (t':=s.toks) (g':=s.gens) (d':=s.drawn) (ch:=[z,TO,i1,i2]) (λc hb=>?_) (λc o _ _ hc' e _=>eb c o (λq=>hc' (by simp [q])) (λq=>hc' (by simp [q])) (λq=>hc' (by simp [q])) (λq=>hc' (by simp [q])) e)
       (λc o _ _ hc' e _=>⟨o.slots,eb c o (λq=>hc' (by simp [q])) (λq=>hc' (by simp [q])) (λq=>hc' (by simp [q])) (λq=>hc' (by simp [q])) e⟩)
       (λc o hc' e n=>n) (λc o hc' e=>⟨o,eb c o (λq=>hc' (by simp [q])) (λq=>hc' (by simp [q])) (λq=>hc' (by simp [q])) (λq=>hc' (by simp [q])) e⟩)
       (λc ys e=>e) (λc o u e=>e) (λc ps e=>⟨#[],by rw [e]; simp⟩) (λm hm=>?_) hok0 I.bare
   · have hb':c ∈ [z,TI,TO,i1,i2]:=by
       simp only [List.mem_cons,List.not_mem_nil,or_false] at hb ⊢
       rcases hb with h | h | h | h <;> simp [h]
     have fe:=hf c hb'
     exact ⟨fe.2.2.2.1,fe.2.1,fe.2.2.2.2.1,fe.2.2.2.2.2⟩
   · obtain ⟨o,es,ep,ho,r⟩:=hm
     exact ⟨o,es,ep,eb _ o (Ne.symm (hf z (by simp)).2.1) (Ne.symm (hf TO (by simp)).2.1) (Ne.symm (hf i1 (by simp)).2.1) (Ne.symm (hf i2 (by simp)).2.1) ho,r⟩
 self:=λ_ _ _ _ _ st h=>wpAny_pyIter_zip st.1 h
section
variable {X:Cx}
noncomputable def Ah (K:PySem.W.Frag) (ta:TA):TI:=λσ H R=>ta σ H λvs H1=>∃ a b,vs=[.ref a,.ref b]/\(∃ xs,SqL K H1 a xs)/\(∃ ys,SqL K H1 b ys)/\R (Itz K a b) H1
theorem qm {ts:List Expr} {q:Nat} {tp:Pos} {a b:Expr} {ta:TA} {p pos:Pos} (hc:X.calm=true) (hg:Gl X "zip") (hm:X.mg "zip" = none) (ha:PA X [a,b] ta) (hs:starEach [a,b] X.env=(false,eval a X.env) :: starEach [b] X.env) (hs2:starEach [b] X.env=[(false,eval b X.env)]) :
   PI X (.Tuple ts q tp) (.Call (.Name "zip" p) [a,b] [] pos) (Ah X.K ta):=by
 intro pins s σ H R I h
 refine Call_ (d9 I hg hm boot_zip (PyProof.Rows.callWith_type1 (thn (ha pos pins s σ H _ I h) λus s1 ⟨vs,H1,I1,r1,q1⟩=>?_) hs (by rw [hs2]; rfl)))
 obtain ⟨l,l',e,⟨xs,hq1⟩,⟨ys,hq2⟩,q⟩:=q1
 subst e
 obtain ⟨u,u',rfl,ru,ru'⟩:=vals2 r1
 cases ru
 cases ru'
 obtain ⟨its1,rv1,pl1,hz1⟩:=I1.list hq1
 obtain ⟨its2,rv2,pl2,hz2⟩:=I1.list hq2
 refine call_zip_2 pl1.isList pl2.isList λh' g1 g2 g3 g4 g5 g6 g7=>?_
 refine wpAny_pyIter_zip (s:={ s1 with heap:=h' }) g1 ?_
 have I2:Inv X pins σ H1 { s1 with heap:=h' }:=I1.kept (t':=s1.toks) g7
 have nn:∀ j,H1 (s1.heap.objs.size + j)=none:=λj=>I1.hok.fresh (by omega)
 refine ⟨false,s1.heap.objs.size + 4,[s1.heap.objs.size + 4,s1.heap.objs.size + 2,s1.heap.objs.size + 3,s1.heap.objs.size,s1.heap.objs.size + 1],_,_,H1,rfl,I2,.inl hc,uV l l' (s1.heap.objs.size + 4) (s1.heap.objs.size + 2) (s1.heap.objs.size + 3) s1.heap.objs.size (s1.heap.objs.size + 1) (by simp) (Ne.symm (Nat.succ_ne_self _)),⟨g1,g2,⟨_,_,g3⟩,g4,g5⟩,λc hb=>?_,q⟩
 have hb':∃ j,c=s1.heap.objs.size + j:=by
   simp only [List.mem_cons,List.not_mem_nil,or_false] at hb
   rcases hb with h | h | h | h | h
   · exact ⟨_,h⟩
   · exact ⟨_,h⟩
   · exact ⟨_,h⟩
   · exact ⟨0,h⟩
   · exact ⟨_,h⟩
 obtain ⟨j,rfl⟩:=hb'
 exact I1.oJ (Nat.le_add_right _ _) (nn j)
end
section
variable {X:Cx} {tg:Expr}
theorem vB:bootBuiltins "reversed" = some (.type "reversed"):=by decide +kernel
end
theorem tP:∀ (names:List (Str × NameKind)) (n:Nat) (acc:List (Str × Addr)) (x:Str) (c:Addr),(cellsFrom n names acc).lookup x=some c->n<=c\/acc.lookup x=some c
 | [],_,_,_,_,h=>.inr h
 | (y,k) :: r,n,acc,x,c,h=>by
   unfold cellsFrom at h
   split at h
   · rcases tP r (n + 1) _ x c h with q | q
     · exact .inl (by omega)
     · rw [List.lookup_cons] at q
       split at q
       · cases q; exact .inl (Nat.le_refl _)
       · exact .inr q
   · exact tP r n acc x c h
theorem jQ:∀ (names:List (Str × NameKind)) (n:Nat) (acc:List (Str × Addr)) (x:Str),(x,NameKind.cell) ∉ names->(cellsFrom n names acc).lookup x=acc.lookup x
 | [],_,_,_,_=>rfl
 | (y,k) :: r,n,acc,x,h=>by
   have h1:(x,NameKind.cell) ∉ r:=λz=>h (List.mem_cons_of_mem _ z)
   unfold cellsFrom
   split
   · rename_i hk
     rw [jQ r _ _ x h1,List.lookup_cons]
     have:(x == y)=false:=by
       rw [beq_eq_false_iff_ne]
       rintro rfl
       exact h (by rw [eq_of_beq hk]; exact List.mem_cons_self)
     rw [this]
   · exact jQ r n acc x h1
theorem nu:∀ (names:List (Str × NameKind)) (n:Nat) (acc:List (Str × Addr)) (x:Str),(x,NameKind.cell) ∈ names->∃ c,(cellsFrom n names acc).lookup x=some c/\n<=c
 | (y,k) :: r,n,acc,x,h=>by
   unfold cellsFrom
   by_cases hr:(x,NameKind.cell) ∈ r
   · split
     · obtain ⟨c,e,l⟩:=nu r (n + 1) ((y,n) :: acc) x hr
       exact ⟨c,e,by omega⟩
     · exact nu r n acc x hr
   · rcases List.mem_cons.mp h with q | q
     · cases q
       rw [if_pos (by rfl),jQ r _ _ _ hr]
       exact ⟨n,by simp [List.lookup_cons],Nat.le_refl _⟩
     · exact absurd q hr
theorem qj:∀ (names:List (Str × NameKind)) (n:Nat) (acc:List (Str × Addr)),(∀ x c,acc.lookup x=some c->c < n)->(∀ x y c,acc.lookup x=some c->acc.lookup y=some c->x=y) ->
   ∀ x y c,(cellsFrom n names acc).lookup x=some c->(cellsFrom n names acc).lookup y=some c->x=y
 | [],_,_,_,h=>h
 | (z,k) :: r,n,acc,hl,h=>by
   unfold cellsFrom
   split
   · refine qj r (n + 1) _ (λx c e=>?_) (λx y c e1 e2=>?_)
     · rw [List.lookup_cons] at e
       split at e
       · cases e; exact Nat.lt_succ_self _
       · exact Nat.lt_succ_of_lt (hl x c e)
     · rw [List.lookup_cons] at e1 e2
       split at e1
       · rename_i q1
         cases e1
         split at e2
         · rename_i q2
           exact (eq_of_beq q1).trans (eq_of_beq q2).symm
         · exact absurd (hl y _ e2) (Nat.lt_irrefl _)
       · split at e2
         · cases e2
           exact absurd (hl x _ e1) (Nat.lt_irrefl _)
         · exact h x y c e1 e2
   · exact qj r n acc hl h
theorem mE:∀ (names:List (Str × NameKind)) (h:Heap) (acc:List (Str × Addr)),(∀ x c,acc.lookup x=some c->∃ v,h.IsCell c v)->∀ x c,(cellsFrom h.objs.size names acc).lookup x=some c->∃ v,(pushCells h names).IsCell c v
 | [],_,_,ha,x,c,e=>ha x c e
 | (z,k) :: r,h,acc,ha,x,c,e=>by
   unfold cellsFrom at e
   unfold pushCells
   split at e
   · rename_i hk
     rw [if_pos hk]
     refine mE r _ ((z,h.objs.size) :: acc) (λy d q=>?_) x c (by rw [Heap.size_push]; exact e)
     rw [List.lookup_cons] at q
     split at q
     · cases q
       exact ⟨none,_,Heap.get?_push_size _ rfl,rfl⟩
     · obtain ⟨v,o,ho,hd⟩:=ha y d q
       exact ⟨v,o,Heap.get?_push_of_some _ ho,hd⟩
   · rename_i hk
     rw [if_neg hk]
     exact mE r h acc ha x c e
noncomputable def cL (env:PySem.Env):List (Str × NameKind)->List (Str × Addr)->List (Str × Addr)
 | [],acc=>acc
 | (n,k) :: r,acc=>if k == .free then (match env.cells.lookup n with | some c=>cL env r ((n,c) :: acc) | none=>cL env r acc) else cL env r acc
theorem jJ (env:PySem.Env):∀ (names:List (Str × NameKind)) (acc:List (Str × Addr)),(∀ x ∈ names,x.2=.free->∃ c,env.cells.lookup x.1=some c) ->
   (forIn (m:=Sem) names acc λx cs=>do
     let (name,kind):=x
     if kind == .free then do
       let c <- cellOf env name
       pure (ForInStep.yield ((name,c) :: cs))
     else pure (ForInStep.yield cs))=pure (cL env names acc)
 | [],acc,_=>rfl
 | (n,k) :: r,acc,h=>by
   rw [List.forIn_cons]
   unfold cL
   by_cases hk:(k == .free)=true
   · obtain ⟨c,hc⟩:=h (n,k) List.mem_cons_self (eq_of_beq hk)
     simp only [hk,if_true,cellOf,hc,pure_bind]
     exact jJ env r _ λx hx=>h x (List.mem_cons_of_mem _ hx)
   · simp only [hk,Bool.false_eq_true,if_false,pure_bind]
     exact jJ env r _ λx hx=>h x (List.mem_cons_of_mem _ hx)
theorem rB {env:PySem.Env} {scope:Scope} (h:∀ x ∈ scope.names,x.2=.free->∃ c,env.cells.lookup x.1=some c):closureFor scope env=pure (cL env scope.names []):=by
 unfold closureFor
 have:=jJ env scope.names [] h
 simp only [bind_pure]
 exact this
theorem dY (env:PySem.Env):∀ (names:List (Str × NameKind)) (acc:List (Str × Addr)) (x:Str) (c:Addr),(∀ y d,acc.lookup y=some d->env.cells.lookup y=some d)->(cL env names acc).lookup x=some c->env.cells.lookup x=some c
 | [],_,x,c,ha,h=>ha x c h
 | (n,k) :: r,acc,x,c,ha,h=>by
   unfold cL at h
   split at h
   · split at h
     · rename_i c' hc
       refine dY env r _ x c (λy d q=>?_) h
       rw [List.lookup_cons] at q
       split at q
       · rename_i qq
         cases q
         rw [eq_of_beq qq]; exact hc
       · exact ha y d q
     · exact dY env r acc x c ha h
   · exact dY env r acc x c ha h
theorem c9 (env:PySem.Env):∀ (names:List (Str × NameKind)) (acc:List (Str × Addr)) (x:Str) (c:Addr),(∀ y d,acc.lookup y=some d->env.cells.lookup y=some d)->env.cells.lookup x=some c->((x,NameKind.free) ∈ names\/acc.lookup x=some c)->(cL env names acc).lookup x=some c
 | [],_,x,c,_,_,h=>h.elim (λz=>absurd z (by simp)) id
 | (n,k) :: r,acc,x,c,ha,hc,h=>by
   unfold cL
   split
   · split
     · rename_i c' hc'
       refine c9 env r _ x c (λy d q=>?_) hc ?_
       · rw [List.lookup_cons] at q
         split at q
         · rename_i qq
           cases q
           rw [eq_of_beq qq]; exact hc'
         · exact ha y d q
       · by_cases q:x=n
         · subst q
           rw [hc] at hc'; cases hc'
           exact .inr (by simp [List.lookup_cons])
         · rcases h with h | h
           · rcases List.mem_cons.mp h with z | z
             · cases z; exact absurd rfl q
             · exact .inl z
           · refine .inr ?_
             rw [List.lookup_cons,beq_eq_false_iff_ne.mpr q]
             exact h
     · rename_i hc'
       refine c9 env r acc x c ha hc ?_
       rcases h with h | h
       · rcases List.mem_cons.mp h with z | z
         · cases z; rw [hc] at hc'; cases hc'
         · exact .inl z
       · exact .inr h
   · rename_i hk
     refine c9 env r acc x c ha hc ?_
     rcases h with h | h
     · rcases List.mem_cons.mp h with z | z
       · cases z; exact absurd rfl hk
       · exact .inl z
     · exact .inr h
theorem kY {M:Model} {A:Around} {E:Value->Shared->Prop} {s:Shared} {scope:Scope} {cl:List (Str × Addr)} {env:PySem.Env} {Q:PySem.Env->Shared->Prop}
   (h:Q (newEnv scope s.heap.objs.size env.globals (cellsFrom (s.heap.objs.size + 1) scope.names cl) env.qual none .none (some env) builtinsNs) { s with heap:=pushCells (s.heap.push { cls:=.type "dict",data:=.dict #[] }) scope.names }) :
   wpAny M A (newFunctionEnv scope env.globals cl [] env.qual none .none (some env)) Q E s:=by
 simp only [newFunctionEnv,Option.isSome_some,if_true]
 refine wpAny_bind (wpAny_alloc ?_)
 refine wpAny_bind (wpAny_layCells _ (λname kind cells=>by cases hkc:kind == NameKind.cell <;> simp [hkc]) _ _ _ _ ?_)
 rw [show ({ s with heap:=s.heap.push { cls:=.type "dict",data:=.dict #[] } }:Shared).heap.objs.size=s.heap.objs.size + 1 from Heap.size_push ..]
 exact wpAny_bind (wpAny_pure (wpAny_pure h))
noncomputable def aH (X:Cx) (s:Shared) (H:Hp) (scope:Scope) (N:List Str) (fp:List Addr):Cx:=
 { prog:=X.prog,w:=X.w,K:=X.K,mg:=X.mg,base:=X.base,A:=X.A,N:=N,s₀:=s,H₀:=H
   env:=compEnvC scope (cellsFrom (s.heap.objs.size + 1 + 1) scope.names (cL X.env scope.names [])) (s.heap.objs.size + 1) X.env
   outer:=X.stack,stack:=X.stack,ex:=fp,fn:=λx=>decide ((x,NameKind.cell) ∈ scope.names),calm:=X.calm,pn:=[],xe:=λ_ _=>False }
noncomputable def eJ (σ:L2.St) (caps:List (Option Nat)):L2.St:=caps.map λo=>o.bind λi=>(σ[i]?).join
structure di (X:Cx) (scope:Scope) (N:List Str) (caps:List (Option Nat)):Prop where
 kind:scope.kind=.function
 loc:∀ x ∈ scope.names,x.2=.local->scope.names.lookup x.1=some .local
 fre:∀ x ∈ scope.names,x.2=.free->X.env.kindOf x.1=some .cell
 one:∀ x,(x,NameKind.free) ∈ scope.names->(x,NameKind.cell) ∉ scope.names
 noboth:∀ x,(x,NameKind.free) ∈ scope.names->(x,NameKind.local) ∉ scope.names
 len:N.length=caps.length + 1
 cap:∀ (j i:Nat),caps[j]?=some (some i)->∃ x,N[j]?=some x/\X.N[i]?=some x/\(x,NameKind.free) ∈ scope.names
 acc:∃ z,N[caps.length]?=some z/\¬ Vis (relabel scope X.env) z
section
variable {X:Cx} {pins:List (Addr × Obj)} {σ:L2.St} {H:Hp} {s:Shared} {scope:Scope} {N:List Str} {caps:List (Option Nat)} {fp:List Addr}
theorem eE {env:PySem.Env} {x:Str} {names:List (Str × NameKind)} (h:∀ y,(y,NameKind.free) ∈ names->env.kindOf y=some .cell) (hk:env.scope.kind=.function) {k:NameKind}
   (e:(names.map λ(n,k)=>if (k == NameKind.free && env.scope.kind == .function && env.kindOf n == some .cell) then (n,NameKind.cell) else (n,k)).lookup x=some k) :
   (x,k) ∈ names\/((x,NameKind.free) ∈ names/\k=.cell):=by
 induction names with
 | nil=>cases e
 | cons p r ih=>
   obtain ⟨n,q⟩:=p
   rw [List.map_cons] at e
   have hr:∀ y,(y,NameKind.free) ∈ r->env.kindOf y=some .cell:=λy hy=>h y (List.mem_cons_of_mem _ hy)
   have sub:((x,k) ∈ r\/((x,NameKind.free) ∈ r/\k=.cell))->(x,k) ∈ (n,q) :: r\/((x,NameKind.free) ∈ (n,q) :: r/\k=.cell):=λz=>
     z.elim (λy=>.inl (List.mem_cons_of_mem _ y)) λy=>.inr ⟨List.mem_cons_of_mem _ y.1,y.2⟩
   dsimp only at e
   split at e
   · rename_i c
     rw [List.lookup_cons] at e
     split at e
     · rename_i qq
       cases e
       rw [Bool.and_eq_true,Bool.and_eq_true] at c
       rw [eq_of_beq qq,eq_of_beq c.1.1]
       exact .inr ⟨List.mem_cons_self,rfl⟩
     · exact sub (ih hr e)
   · rename_i c
     rw [List.lookup_cons] at e
     split at e
     · rename_i qq
       cases e
       rw [eq_of_beq qq]
       exact .inl List.mem_cons_self
     · exact sub (ih hr e)
theorem gA (I:Inv X pins σ H s) (c:di X scope N caps):∀ x ∈ scope.names,x.2=.free->∃ d,X.env.cells.lookup x.1=some d:=λx hx hf=>I.ok.has x.1 (.inl (c.fre x hx hf))
theorem nH (I:Inv X pins σ H s) (hf:∀ b ∈ fp,kB X pins H b) (ho:∀ b ∈ fp,∃ o,s.heap.get? b=some o) (c:di X scope N caps) :
   Inv (aH X s H scope N fp) [] (eJ σ caps++[some (.ref s.heap.objs.size)]) (upd H s.heap.objs.size (.lst []))
     { s with heap:=pushCells ((s.heap.push { cls:=.type "list",data:=.seq ([]:List Value).toArray }).push { cls:=.type "dict",data:=.dict #[] }) scope.names }:=by
 have hcl:∀ x d,(cL X.env scope.names []).lookup x=some d->X.env.cells.lookup x=some d:=λx d=>dY X.env scope.names [] x d (λy d z=>by simp at z)
 have kp:∀ b o,s.heap.get? b=some o->(pushCells ((s.heap.push { cls:=.type "list",data:=.seq ([]:List Value).toArray }).push { cls:=.type "dict",data:=.dict #[] }) scope.names).get? b=some o:=λb o e=>
   pushCells_keeps _ _ b o (Heap.get?_push_of_some _ (Heap.get?_push_of_some _ e))
 have sz2:((s.heap.push { cls:=.type "list",data:=.seq ([]:List Value).toArray }).push { cls:=.type "dict",data:=.dict #[] }).objs.size=s.heap.objs.size + 1 + 1:=by rw [Heap.size_push,Heap.size_push]
 have oldc:∀ x d,X.env.cells.lookup x=some d->d < s.heap.objs.size:=λx d e=>by
   obtain ⟨v,o,q,_⟩:=I.cell x d e
   exact Heap.lt_size q
 have cel:∀ x d,(aH X s H scope N fp).env.cells.lookup x=some d->s.heap.objs.size + 1 + 1<=d\/X.env.cells.lookup x=some d:=λx d e=>by
   rcases tP _ _ _ x d e with q | q
   · exact .inl q
   · exact .inr (hcl x d q)
 have ok:(aH X s H scope N fp).Ok:=by
   refine ⟨I.ok.mod,c.kind,I.ok.glob,I.ok.blt,Nat.le_succ _,?_,?_,?_,I.ok.hd,I.ok.frames,.inl rfl,?_,I.bs,Nat.le_trans I.ok.bsz I.sz,?_,?_,I.stack,I.qP⟩
   · exact qj _ _ _ (λx d e=>Nat.lt_of_lt_of_le (oldc x d (hcl x d e)) (by omega)) λx y d e1 e2=>I.ok.inj x y d (hcl x d e1) (hcl y d e2)
   · intro x hx
     have hfk:∀ y,(y,NameKind.free) ∈ scope.names->X.env.kindOf y=some .cell:=λy hy=>c.fre _ hy rfl
     have fre:(x,NameKind.free) ∈ scope.names->∃ d,(aH X s H scope N fp).env.cells.lookup x=some d:=λhm=>by
       obtain ⟨d,hd⟩:=gA I c _ hm rfl
       exact ⟨d,by
         show (cellsFrom _ scope.names _).lookup x=_
         rw [jQ _ _ _ x (c.one x hm)]
         exact c9 X.env scope.names [] x d (λy e z=>by simp at z) hd (.inl hm)⟩
     have own:(x,NameKind.cell) ∈ scope.names->∃ d,(aH X s H scope N fp).env.cells.lookup x=some d:=λhm=>by
       obtain ⟨d,e,_⟩:=nu scope.names (s.heap.objs.size + 1 + 1) (cL X.env scope.names []) x hm
       exact ⟨d,e⟩
     rcases hx with hx | hx
     · rcases eE hfk I.ok.kind (show (scope.names.map _).lookup x=some .cell from hx) with q | q
       · exact own q
       · exact fre q.1
     · rcases eE hfk I.ok.kind (show (scope.names.map _).lookup x=some .free from hx) with q | q
       · exact fre q
       · exact fre q.1
   · intro x d hfn e
     have hm:(x,NameKind.cell) ∈ scope.names:=of_decide_eq_true hfn
     obtain ⟨d',e',l⟩:=nu scope.names (s.heap.objs.size + 1 + 1) (cL X.env scope.names []) x hm
     have e2:(cellsFrom (s.heap.objs.size + 1 + 1) scope.names (cL X.env scope.names [])).lookup x=some d:=e
     rw [e'] at e2; cases e2
     exact Nat.le_trans (Nat.le_trans (Nat.le_succ _) (Nat.le_succ _)) l
   · intro b hb
     obtain ⟨o,q⟩:=ho b hb
     have bl:=Heap.lt_size q
     refine ⟨λz=>?_,λx d e z=>?_⟩
     · have z':b=s.heap.objs.size + 1:=z
       rw [z'] at bl
       exact absurd bl (Nat.not_lt.mpr (Nat.le_succ _))
     · subst z
       rcases cel x d e with q | q
       · exact absurd (Nat.lt_of_lt_of_le bl (Nat.le_trans (Nat.le_trans (Nat.le_succ _) (Nat.le_succ _)) q)) (Nat.lt_irrefl _)
       · exact (hf d hb).2.2.2.2.1 x d q rfl
   · intro b o e hb
     rcases (hf b hb).2.2.2.1 with q | q
     · exact I.ok.noex b o e q
     · have:=Nat.lt_of_lt_of_le (Heap.lt_size e) I.ok.bsz
       exact absurd (Nat.lt_of_lt_of_le this q) (Nat.lt_irrefl _)
   · intro b hb hm
     rcases List.mem_cons.mp (I.pz b hm) with q | q
     · exact (hf b hb).2.1 q
     · exact (hf b hb).2.2.1 q
 have hD:(pushCells ((s.heap.push { cls:=.type "list",data:=.seq ([]:List Value).toArray }).push { cls:=.type "dict",data:=.dict #[] }) scope.names).get? s.heap.objs.size=some { cls:=.type "list",data:=.seq ([]:List Value).toArray }:=
   pushCells_keeps _ _ _ _ (Heap.get?_push_of_some _ (Heap.get?_push_size _ rfl))
 have fr:∀ a,s.heap.objs.size<=a->a ≠ s.heap.objs.size->(upd H s.heap.objs.size (.lst [])) a=none:=λa h1 h2=>by rw [ax h2]; exact I.hok.fresh h1
 refine ⟨ok,rfl,I.bare,Un.laid kp (Nat.le_refl _) (I.hok.fresh (Nat.le_refl _)),⟨λ_=>none,?_,λi x v e1 e2 e3=>?_⟩,λx d e=>?_,?_,λx d e=>?_,λp hp=>absurd (show p ∈ ([]:List (Addr × Obj)) from hp) (by simp),?_,?_⟩
 · have:=Heap.Ns.new (s.heap.push { cls:=.type "list",data:=.seq ([]:List Value).toArray }) (.type "dict")
   rw [Heap.size_push] at this
   exact this.keeps (pushCells_keeps _ _)
 · by_cases hi:i < caps.length
   · rw [List.getElem?_append_left (by unfold eJ; rw [List.length_map]; exact hi)] at e2
     unfold eJ at e2
     rw [List.getElem?_map] at e2
     cases hc:caps[i]? with
     | none=>rw [hc] at e2; cases e2
     | some o=>
       rw [hc] at e2
       cases o with
       | none=>cases e2
       | some j=>
         have e2':(σ[j]?).join=some v:=Option.some.inj e2
         have e4:σ[j]?=some (some v):=by
           cases q:σ[j]? with
           | none=>rw [q] at e2'; cases e2'
           | some y=>rw [q] at e2'; exact congrArg some e2'
         obtain ⟨x',g1,g2,g3⟩:=c.cap i j hc
         rw [show (aH X s H scope N fp).N=N from rfl,g1] at e1
         cases e1
         have hkc:=c.fre _ g3 rfl
         obtain ⟨m,_,hl⟩:=I.loc
         obtain ⟨u,ru,look⟩:=hl j x v g2 e4 (.inr (.inl hkc))
         refine ⟨u,ru,?_⟩
         rcases look with ⟨k,_⟩ | ⟨k,d,hd,hcell⟩
         · rw [hkc] at k; cases k
         · have e5:(aH X s H scope N fp).env.cells.lookup x=some d:=by
             show (cellsFrom _ scope.names _).lookup x=_
             rw [jQ _ _ _ x (c.one x g3)]
             exact c9 X.env scope.names [] x d (λy e z=>by simp at z) hd (.inl g3)
           have hcell':Heap.IsCell (pushCells ((s.heap.push { cls:=.type "list",data:=.seq ([]:List Value).toArray }).push { cls:=.type "dict",data:=.dict #[] }) scope.names) d (some u):=by
             obtain ⟨o,q1,q2⟩:=hcell
             exact ⟨o,kp _ _ q1,q2⟩
           refine .inr ⟨?_,d,e5,hcell'⟩
           rcases e3 with e3 | e3 | e3
           · exfalso
             rcases eE (λy hy=>c.fre _ hy rfl) I.ok.kind (show (scope.names.map _).lookup x=some .local from e3) with q | q
             · have q1:=c.loc _ q rfl
               exact c.noboth x g3 q
             · cases q.2
           · exact .inl e3
           · exact .inr e3
   · exfalso
     obtain ⟨z,z1,z2⟩:=c.acc
     have hl:i < N.length:=(List.getElem?_eq_some_iff.mp e1).1
     have:i=caps.length:=by have:=c.len; omega
     subst this
     rw [show (aH X s H scope N fp).N=N from rfl,z1] at e1
     cases e1
     exact z2 e3
 · rw [show (aH X s H scope N fp).env.cells=cellsFrom (s.heap.objs.size + 1 + 1) scope.names (cL X.env scope.names []) from rfl,<- sz2] at e
   refine mE scope.names _ _ (λy d' q=>?_) x d e
   obtain ⟨v,o,q1,q2⟩:=I.cell y d' (hcl y d' q)
   exact ⟨v,o,Heap.get?_push_of_some _ (Heap.get?_push_of_some _ q1),q2⟩
 · exact fr _ (Nat.le_succ _) (Nat.succ_ne_self _)
 · rcases cel x d e with q | q
   · exact fr d (by omega) (by intro z; omega)
   · rw [ax (Nat.ne_of_lt (oldc x d q))]; exact I.freeC x d q
 · exact I.hok.laid kp (Nat.le_refl _) ⟨Nat.zero_le _,[],0,.nil,hD⟩
 · rw [List.length_append]
   unfold eJ
   rw [List.length_map,show (aH X s H scope N fp).N=N from rfl,c.len]
   rfl
end
noncomputable def PTs (X:Cx) (ifs:List Expr) (t:TT):Prop:=
 ∀ (pins:List (Addr × Obj)) (s:Shared) (σ:L2.St) (H:Hp) (Q:Bool->Hp->Prop),Inv X pins σ H s->t σ H Q ->
   wpAny (model X.prog X.w) X.A (forIn ifs true λc r=>if r=true then do let ok <- isTrue c X.env (eval c X.env); pure (ForInStep.yield ok) else pure (ForInStep.yield r)) (TP X pins σ Q) X.xe s
section
variable {prog:Program} {w:World} {A:Around} {R:Result->Shared->Prop} {s:Shared}
theorem jC {elt target iter:Expr} {ifs:List Expr} {scope:Scope} {pos:Pos} {it acc:Value} {env:PySem.Env} (Iv:Nat->Shared->Prop)
   (step:∀ n s,Iv n s->wpAny (model prog w) A (pyNext it) (λr s₁=>match r with
     | none=>R (.ok .next) s₁
     | some v=>wpAny (model prog w) A (letOwnedTupleGo target it v) (λ_ s₀=>wpAny (model prog w) A (assign target env v) (λ_ s₂=>
         wpAny (model prog w) A (forIn ifs true λc r=>if r=true then do let ok <- isTrue c env (eval c env); pure (ForInStep.yield ok) else pure (ForInStep.yield r)) (λok s₃=>
           if ok=true then wpAny (model prog w) A (eval elt env) (λx s₄=>
             wpAny (model prog w) A (call (.builtin "list.append") [acc,x]) (λ_ s₅=>∃ m,m < n/\Iv m s₅) (λ_ _=>False) s₄) (λ_ _=>False) s₃
           else ∃ m,m < n/\Iv m s₃) (λ_ _=>False) s₂) (λ_ _=>False) s₀) (λ_ _=>False) s₁) (λ_ _=>False) s)
   (n:Nat) (h:Iv n s):codeAny (model prog w) A (.compLoop (.ListComp elt [⟨target,iter,ifs,0⟩] scope pos) 0 it acc env) R s:=by
 have no:∀ {α:Type} {t:Sem α} {Q:α->Shared->Prop} {s:Shared} {E:Value->Shared->Prop},wpAny (model prog w) A t Q (λ_ _=>False) s->wpAny (model prog w) A t Q E s:=λh=>wpAny_mono h (λ_ _ q=>q) λ_ _ q=>q.elim
 refine codeAny_loop rfl Iv (λn s hI=>?_) n h
 show wpAny _ A (Sem.onRaise (compTurn (.ListComp elt [⟨target,iter,ifs,0⟩] scope pos) 0 it acc env) (λx=>do noteFrame x env; theTreesLotGoes x)) _ _ s
 refine wpAny_noted ?_
 rw [compTurn_list]
 refine wpAny_bind (wpAny_standAt (wpAny_bind (thn (no (step n s hI)) λr s₁ h₁=>?_)))
 cases r with
 | none=>exact wpAny_pure h₁
 | some v=>
   refine wpAny_bind (thn (no h₁) λ_ s₀ h₀=>wpAny_bind (thn (no h₀) λ_ s₂ h₂=>wpAny_bind (thn (no h₂) λok s₃ h₃=>?_)))
   cases ok with
   | false=>exact wpAny_pure ⟨rfl,h₃⟩
   | true=>exact wpAny_bind (wpAny_bind (thn (no h₃) λx s₄ h₄=>wpAny_bind (thn (no h₄) λ_ s₅ h₅=>wpAny_pure (wpAny_pure ⟨rfl,h₅⟩))))
end
theorem rf {X:Cx} {kd:Bool} {pins:List (Addr × Obj)} {σ:L2.St} {H:Hp} {s:Shared} {scope:Scope} {N:List Str} {fp:List Addr} (h:Ck kd X) (I:Inv X pins σ H s):Ck kd (aH X s H scope N fp):=by
 rcases h with h | ⟨hk,q,o,u,vs,e1,e2,e3,e4⟩
 · exact .inl h
 · exact .inr ⟨hk,q,o,u,vs,e1,I.base.frzs q o u e2,e3,e4⟩
noncomputable def dR (In:TG->TT->TE->Prop) (caps:List (Option Nat)) (wi:TI):TE:=λσ H Q=>wi σ H λJ H1=>∃ g tt te,In g tt te/\∀ D,H1 D=none ->
 ∃ Z:Nat->Nat->L2.St->Hp->Prop,(∃ m,Z 0 m (eJ σ caps++[some (.ref D)]) (upd H1 D (.lst [])))/\∀ i m σ' H',Z i m σ' H' ->
   (J.stop i H'/\Q (.ref D) H')\/(J.go i H'/\∀ x H2,J.yld i H' x H2->g x σ' H2 λσ2 H3=>tt σ2 H3 λb H4=>
     if b=true then te σ2 H4 λv H5=>∃ vs m',H5 D=some (.lst vs)/\vs.length < sizeLine/\m' < m/\Z (i + 1) m' σ2 (upd H5 D (.lst (vs++[v]))) else ∃ m',m' < m/\Z (i + 1) m' σ2 H4)
theorem cP {X:Cx} {elt tg iter:Expr} {ifs:List Expr} {scope:Scope} {N:List Str} {caps:List (Option Nat)} {pos:Pos} {wi:TI} {In:TG->TT->TE->Prop} (c:di X scope N caps) (hi:PI X tg iter wi)
   (hs:∀ x,foldedSetIterable iter X.env x=pure x)
   (hin:∀ g tt te,In g tt te->∀ s H fp,PG (aH X s H scope N fp) tg g/\PTs (aH X s H scope N fp) ifs tt/\PE (aH X s H scope N fp) elt te) :
   PE X (.ListComp elt [⟨tg,iter,ifs,0⟩] scope pos) (dR In caps wi):=by
 intro pins s σ H Q I h
 rw [eval_ListComp]
 have hcl:=rB (gA I c)
 refine wpAny_comprehension_free (use:=none) (g:=⟨tg,iter,ifs,0⟩) (gs:=[]) rfl hs hcl c.kind c.loc ?_
 show wpAny _ _ (eval iter X.env) _ _ s
 refine thn (hi pins s σ H _ I h) λv s1 h1=>thn h1 λitv s2 h2=>?_
 obtain ⟨kd,it,fp,tn,J,H2,e,I2,hck,T,st2,f2,g,tt,te,hI,q⟩:=h2
 have hc:=rf (scope:=scope) (N:=N) (fp:=fp) hck I2
 subst e
 obtain ⟨Z,⟨m0,z0⟩,turn⟩:=q s2.heap.objs.size (I2.hok.fresh (Nat.le_refl _))
 have ho:∀ b ∈ fp,∃ o,s2.heap.get? b=some o:=λb hb=>let ⟨o,e,_⟩:=T.obj _ _ st2 b hb; ⟨o,e⟩
 have I4:=nH (scope:=scope) (N:=N) (caps:=caps) I2 f2 ho c
 obtain ⟨hg,ht,he⟩:=hin g tt te hI s2 H2 fp
 refine wpAny_newObj_type (kY ?_) (by show 0<=sizeLine; decide)
 have hC:(s2.heap.push { cls:=.type "list",dict:=none,data:=.seq ([]:List Value).toArray }).objs.size=s2.heap.objs.size + 1:=Heap.size_push ..
 dsimp only
 rw [hC]
 have kp:∀ b o,s2.heap.get? b=some o->(pushCells ((s2.heap.push { cls:=.type "list",data:=.seq ([]:List Value).toArray }).push { cls:=.type "dict",data:=.dict #[] }) scope.names).get? b=some o:=λb o e=>
   pushCells_keeps _ _ b o (Heap.get?_push_of_some _ (Heap.get?_push_of_some _ e))
 have st4:tn 0 (pushCells ((s2.heap.push { cls:=.type "list",data:=.seq ([]:List Value).toArray }).push { cls:=.type "dict",data:=.dict #[] }) scope.names):=T.keep _ _ _ st2 λb _ o e=>kp b o e
 have stat:∀ {H':Hp},(∀ b ∈ fp,H' b=none)->∀ b ∈ fp,kB (aH X s2 H2 scope N fp) [] H' b:=λhn b hb=>
   ⟨hn b hb,(I4.ok.exf b hb).1,I4.ok.exfs b hb,.inl hb,(I4.ok.exf b hb).2,λp hp=>absurd (show p ∈ ([]:List (Addr × Obj)) from hp) (by simp)⟩
 have fr4:∀ b ∈ fp,(upd H2 s2.heap.objs.size (.lst [])) b=none:=λb hb=>by
   obtain ⟨o,e⟩:=ho b hb
   rw [ax (Nat.ne_of_lt (Heap.lt_size e))]; exact (f2 b hb).1
 have loop:codeAny (model X.prog X.w) X.A (.compLoop (.ListComp elt [⟨tg,iter,ifs,0⟩] scope pos) 0 (.ref it) (.ref s2.heap.objs.size) (aH X s2 H2 scope N fp).env)
     (compPost (model X.prog X.w) X.A X.xe none (EP X pins σ Q) (.ref s2.heap.objs.size) (s2.heap.objs.size + 1))
     { s2 with heap:=pushCells ((s2.heap.push { cls:=.type "list",data:=.seq ([]:List Value).toArray }).push { cls:=.type "dict",data:=.dict #[] }) scope.names }:=by
   refine jC (λn s'=>∃ i σ' H',Inv (aH X s2 H2 scope N fp) [] σ' H' s'/\tn i s'.heap/\(∀ b ∈ fp,H' b=none)/\Z i n σ' H') ?_ m0 ⟨0,_,_,I4,st4,fr4,z0⟩
   rintro n s3 ⟨i,σ3,H3,I3,st3,fr3,w3⟩
   rcases turn i n σ3 H3 w3 with ⟨stop,qn⟩ | ⟨go,step⟩
   · refine thn (T.done (aH X s2 H2 scope N fp) rfl rfl rfl hc i [] s3 σ3 H3 _ I3 (stat fr3) st3 stop) λr s5 ⟨hr,I5⟩=>?_
     subst hr
     obtain ⟨m,hn,_⟩:=id I5.loc
     refine ⟨m,hn,λh' sb=>⟨.ref s2.heap.objs.size,H3,?_,rfl,qn⟩⟩
     have lt:∀ b o,s2.heap.get? b=some o->b ≠ s2.heap.objs.size + 1:=λb o e=>Nat.ne_of_lt (Nat.lt_succ_of_lt (Heap.lt_size e))
     have u:=I5.base
     have u':Un (frs X.stack) fp H2 H3 s2.heap h':=⟨λb o e n1 n2 n3=>(sb.2 b (lt b o e)).trans (u.keep b o e n1 n2 n3),λb o e n1 n2 n3=>let ⟨sl,z⟩:=u.slot b o e n1 n2 n3; ⟨sl,(sb.2 b (lt b o e)).trans z⟩,
       u.free,λb o e n1=>let ⟨o',z⟩:=u.there b o e n1; ⟨o',(sb.2 b (lt b o e)).trans z⟩,u.tups,u.frzs,u.tbls⟩
     have fC:H3 (s2.heap.objs.size + 1)=none:=I5.free
     refine I2.yn (s':={ s5 with heap:=h' }) I5.os u' (λb o e=>(I5.hok b o e).jS (λd v hd z=>(sb.2 d ?_).trans z) (λ_ z=>z) λ_ _ z=>z) I5.bare λb hb=>⟨(f2 b hb).2.2.2.1,(f2 b hb).2.1,(f2 b hb).2.2.2.2.1,(f2 b hb).2.2.2.2.2⟩
     rcases hd with hd | hd
     · rw [hd]; exact aQ e fC
     · exact aQ hd fC
   · refine thn (T.item (aH X s2 H2 scope N fp) rfl rfl rfl hc i [] s3 σ3 H3 _ I3 (stat fr3) st3 go) λr s4 ⟨u,hr,h4⟩=>?_
     subst hr
     refine thn h4 λ_ s5 ⟨x,H5,I5,r5,y5,st5,fr5⟩=>?_
     have I5':=I5.pinned (stat fr5) (T.obj _ _ st5)
     refine thn (hg _ s5 σ3 H5 x u _ I5' r5 (step x H5 y5)) λ_ s6 ⟨σ6,H6,I6,q6⟩=>?_
     have again:∀ {s7:Shared} {σ7:L2.St} {H7:Hp} {m':Nat},Inv (aH X s2 H2 scope N fp) ([]++gy fp s5.heap) σ7 H7 s7->m' < n->Z (i + 1) m' σ7 H7 ->
         ∃ m,m < n/\∃ i σ' H',Inv (aH X s2 H2 scope N fp) [] σ' H' s7/\tn i s7.heap/\(∀ b ∈ fp,H' b=none)/\Z i m σ' H':=λ{s7 σ7 H7 m'} I7 hm z7=>by
       refine ⟨m',hm,i + 1,σ7,H7,I7.dN,T.keep _ _ _ st5 λb hb o e=>(I7.pin (b,o) (List.mem_append_right _ (List.mem_append_right _ (bT hb e)))).1,λb hb=>?_,z7⟩
       obtain ⟨o,e,d⟩:=T.obj _ _ st5 b hb
       exact (I7.pin (b,o) (List.mem_append_right _ (List.mem_append_right _ (bT hb e)))).2.1
     refine thn (ht _ s6 σ6 H6 _ I6 q6) λok s7 ⟨H7,I7,q7⟩=>?_
     cases ok with
     | false=>
       rw [if_neg (by decide)] at q7
       obtain ⟨m',hm,z7⟩:=q7
       exact again I7 hm z7
     | true=>
       rw [if_pos rfl] at q7
       refine thn (he _ s7 σ6 H7 _ I7 q7) λv' s8 ⟨v,H8,I8,r8,vs,m',q8,l8,hm,z8⟩=>?_
       refine thn (fK (X:=aH X s2 H2 scope N fp) _ s8 σ6 H8 (.ref s2.heap.objs.size) [v] (.ref s2.heap.objs.size) [v'] (λ_ H9=>H9=upd H8 s2.heap.objs.size (.lst (vs++[v]))) I8 rfl (.cons r8 .nil) ⟨_,vs,v,rfl,rfl,q8,l8,rfl⟩) λ_ s9 ⟨_,H9,I9,_,e9⟩=>?_
       subst e9
       exact again I9 hm z8
 exact codeAny_compStart_list loop (T.self _ 0 _ _ _ st4 loop)
end Ev
namespace Hy
open PySem PySem.Spec PyProof.Rows L2
open Ev (D Den aq)
open Classical in
noncomputable def hd (H:Hp) (M:Addr->Prop):Hp:=λb=>if M b then none else H b
theorem ak {H:Hp} {M:Addr->Prop} {b:Addr} {o:HO}:hd H M b=some o ↔ ¬ M b/\H b=some o:=by
 unfold hd
 by_cases h:M b
 · rw [if_pos h]; exact ⟨λz=>(nomatch z),λz=>absurd h z.1⟩
 · rw [if_neg h]; exact ⟨λz=>⟨h,z⟩,λz=>z.2⟩
theorem au {H H':Hp} {M M':Addr->Prop} (e:aj H H') (m:∀ b,M' b->M b):aj (hd H M) (hd H' M'):=λb _ h=>ak.mpr ⟨λz=>(ak.mp h).1 (m b z),e b _ (ak.mp h).2⟩
theorem aL {H:Hp} {M:Addr->Prop}:aj (hd H M) H:=λ_ _ h=>(ak.mp h).2
inductive Nd where
 | d (x:D) | l (xs:List Nd) | t (xs:List Nd)
structure Ex where
 p:PySem.W.Frag->Hp->HO->Addr->Prop
 mono:∀ {K:PySem.W.Frag} {G G':Hp} {o:HO} {a:Addr},aj G G'->p K G o a->p K G' o a
 ext:∀ {K:PySem.W.Frag} {G:Hp} {o:HO} {a:Addr},p K G o a->(∃ φ,o=.ext φ)\/(∃ ob φ,o=.frz ob (.ext φ))\/∃ kvs,o=.dK kvs\/∃ ob,o=.frz ob (.dK kvs)
inductive Sl where
 | un | d (x:D) | o (xs:List D) | n (t:Nd) | x (E:Ex)
mutual
inductive bu (K:PySem.W.Frag) (G H:Hp):V->List Addr->Nd->Prop where
 | d {u:V} {x:D} (h:Den K G u x):bu K G H u [] (.d x)
 | l {a:Addr} {vs:List V} {bs:List Addr} {xs:List Nd} (h:H a=some (.lst vs)) (r:aP K G H vs bs xs):bu K G H (.ref a) (a :: bs) (.l xs)
 | t {a:Addr} {vs:List V} {bs:List Addr} {xs:List Nd} (h:H a=some (.tup vs)) (r:aP K G H vs bs xs):bu K G H (.ref a) (a :: bs) (.t xs)
inductive aP (K:PySem.W.Frag) (G H:Hp):List V->List Addr->List Nd->Prop where
 | nil:aP K G H [] [] []
 | cons {v:V} {vs:List V} {b1 b2:List Addr} {s:Nd} {ss:List Nd} (h:bu K G H v b1 s) (r:aP K G H vs b2 ss):aP K G H (v :: vs) (b1++b2) (s :: ss)
end
noncomputable def bR (K:PySem.W.Frag) (G H:Hp) (v:Option V) (bs:List Addr):Sl->Prop
 | .un=>bs=[]
 | .d x=>bs=[]/\∃ u,v=some u/\Den K G u x
 | .o xs=>∃ a vs,bs=[a]/\v=some (.ref a)/\H a=some (.lst vs)/\aq K G vs xs
 | .n t=>bs.Nodup/\∃ u,v=some u/\bu K G H u bs t
 | .x E=>∃ a o,bs=[a]/\v=some (.ref a)/\H a=some o/\E.p K G o a
section
variable {K:PySem.W.Frag} {G G' H H':Hp}
mutual
theorem bu.frame (g:aj G G'):∀ {u:V} {bs:List Addr} {t:Nd},(∀ b ∈ bs,H' b=H b)->bu K G H u bs t->bu K G' H' u bs t
 | _,_,_,_,.d h=>.d (h.mono g)
 | _,_,_,e,.l h r=>.l (by rw [e _ (List.mem_cons_self ..)]; exact h) (aP.frame g (λb hb=>e b (List.mem_cons_of_mem _ hb)) r)
 | _,_,_,e,.t h r=>.t (by rw [e _ (List.mem_cons_self ..)]; exact h) (aP.frame g (λb hb=>e b (List.mem_cons_of_mem _ hb)) r)
theorem aP.frame (g:aj G G'):∀ {vs:List V} {bs:List Addr} {xs:List Nd},(∀ b ∈ bs,H' b=H b)->aP K G H vs bs xs->aP K G' H' vs bs xs
 | _,_,_,_,.nil=>.nil
 | _,_,_,e,.cons h r=>.cons (bu.frame g (λb hb=>e b (List.mem_append_left _ hb)) h) (aP.frame g (λb hb=>e b (List.mem_append_right _ hb)) r)
end
mutual
theorem bu.some_of:∀ {u:V} {bs:List Addr} {t:Nd},bu K G H u bs t->∀ b ∈ bs,∃ o,H b=some o
 | _,_,_,.d _,_,z=>nomatch z
 | _,_,_,.l h r,b,z=>(List.mem_cons.mp z).elim (λe=>e ▸ ⟨_,h⟩) λz=>aP.some_of r b z
 | _,_,_,.t h r,b,z=>(List.mem_cons.mp z).elim (λe=>e ▸ ⟨_,h⟩) λz=>aP.some_of r b z
theorem aP.some_of:∀ {vs:List V} {bs:List Addr} {xs:List Nd},aP K G H vs bs xs->∀ b ∈ bs,∃ o,H b=some o
 | _,_,_,.nil,_,z=>nomatch z
 | _,_,_,.cons h r,b,z=>(List.mem_append.mp z).elim (λz=>bu.some_of h b z) λz=>aP.some_of r b z
end
theorem bu.mono (g:aj G G') (e:aj H H') {u:V} {bs:List Addr} {t:Nd} (h:bu K G H u bs t):bu K G' H' u bs t:=h.frame g λb hb=>by
 obtain ⟨o,q⟩:=h.some_of b hb
 rw [q,e b o q]
theorem bR.mono (g:aj G G') (e:aj H H') {v:Option V} {bs:List Addr}:∀ {s:Sl},bR K G H v bs s->bR K G' H' v bs s
 | .un,h=>h
 | .d _,⟨h,u,e1,h2⟩=>⟨h,u,e1,h2.mono g⟩
 | .o _,⟨a,vs,h1,h2,h3,h4⟩=>⟨a,vs,h1,h2,e _ _ h3,h4.mono g⟩
 | .n _,⟨h0,u,h1,h2⟩=>⟨h0,u,h1,h2.mono g e⟩
 | .x E,⟨a,o,h1,h2,h3,h4⟩=>⟨a,o,h1,h2,e _ _ h3,E.mono g h4⟩
end
noncomputable def own (A:Addr->Prop) (B:Nat->List Addr) (b:Addr):Prop:=A b\/∃ i,b ∈ B i
noncomputable def vw (C:Bool) (A:Addr->Prop) (B:Nat->List Addr):Addr->Prop:=match C with
 | true=>own A B
 | false=>A
structure Sta (K:PySem.W.Frag) (A:Addr->Prop) (H₀:Hp) (τ:List Sl) (B:Nat->List Addr) (σ:L2.St) (H:Hp):Prop where
 same:aj H₀ H
 len:σ.length=τ.length
 sl:∀ i s,τ[i]?=some s->bR K (hd H (own A B)) H (σ[i]?).join (B i) s
 fr:∀ i b,b ∈ B i->H₀ b=none
 uq:∀ i j b,b ∈ B i->b ∈ B j->i=j
 ad:∀ b,A b->∃ o,H₀ b=some o
 bd:∀ i b,b ∈ B i->∃ o,H b=some o
noncomputable def upB (B:Nat->List Addr) (i:Nat) (bs:List Addr):Nat->List Addr:=λj=>if j=i then bs else B j
section
variable {K:PySem.W.Frag} {A:Addr->Prop} {H₀ H H':Hp} {τ:List Sl} {B:Nat->List Addr} {σ:L2.St}
theorem Sta.dm (S:Sta K A H₀ τ B σ H) (b:Addr) (h:own A B b):∃ o,H b=some o:=h.elim (λz=>let ⟨o,q⟩:=S.ad b z; ⟨o,S.same _ _ q⟩) λ⟨i,z⟩=>S.bd i b z
theorem Sta.mono (S:Sta K A H₀ τ B σ H) (e:aj H H'):Sta K A H₀ τ B σ H' where
 same:=S.same.trans e
 len:=S.len
 sl:=λi s h=>(S.sl i s h).mono (au e λ_ z=>z) e
 fr:=S.fr
 uq:=S.uq
 ad:=S.ad
 bd:=λi b h=>let ⟨o,q⟩:=S.bd i b h; ⟨o,e _ _ q⟩
theorem aV {i j:Nat} {bs:List Addr} {b:Addr} (h:b ∈ upB B i bs j):(j=i/\b ∈ bs)\/(j ≠ i/\b ∈ B j):=by
 unfold upB at h
 by_cases e:j=i
 · rw [if_pos e] at h; exact .inl ⟨e,h⟩
 · rw [if_neg e] at h; exact .inr ⟨e,h⟩
theorem Sta.set (S:Sta K A H₀ τ B σ H) (e:aj H H') {i:Nat} {v:V} {s:Sl} {bs:List Addr} (hf:∀ b ∈ bs,H b=none/\∃ o,H' b=some o) (h:bR K (hd H' λb=>own A B b\/b ∈ bs) H' (some v) bs s) :
   Sta K A H₀ (τ.set i s) (upB B i bs) (σ.set i (some v)) H':=by
 have sub:∀ b,own A (upB B i bs) b->own A B b\/b ∈ bs:=λb z=>z.elim (λz=>.inl (.inl z)) λ⟨j,z⟩=>(aV z).elim (λz=>.inr z.2) λz=>.inl (.inr ⟨j,z.2⟩)
 have some_of:∀ b j,b ∈ B j->∃ o,H b=some o:=λb j z=>S.dm b (.inr ⟨j,z⟩)
 refine ⟨S.same.trans e,by rw [List.length_set,List.length_set,S.len],λj t hj=>?_,λj b hb=>?_,λj k b h1 h2=>?_,S.ad,λj b hb=>?_⟩
 · by_cases ej:j=i
   · subst ej
     have hl:j < τ.length:=by
       have:=(List.getElem?_eq_some_iff.mp hj).1
       rwa [List.length_set] at this
     rw [List.getElem?_set_self hl] at hj
     cases hj
     rw [List.getElem?_set_self (by rw [S.len]; exact hl)]
     unfold upB
     rw [if_pos rfl]
     exact h.mono (au (aj.refl _) sub) (aj.refl _)
   · rw [List.getElem?_set_ne (λz=>ej z.symm)] at hj
     rw [List.getElem?_set_ne (λz=>ej z.symm)]
     unfold upB
     rw [if_neg ej]
     have q:=S.sl j t hj
     refine q.mono (λb o z=>?_) e
     obtain ⟨z1,z2⟩:=ak.mp z
     refine ak.mpr ⟨λy=>?_,e _ _ z2⟩
     rcases sub b y with y | y
     · exact z1 y
     · rw [(hf b y).1] at z2; cases z2
 · rcases aV hb with ⟨_,z⟩ | ⟨_,z⟩
   · exact S.same.free (hf b z).1
   · exact S.fr j b z
 · rcases aV h1 with ⟨e1,z1⟩ | ⟨e1,z1⟩ <;> rcases aV h2 with ⟨e2,z2⟩ | ⟨e2,z2⟩
   · exact e1.trans e2.symm
   · obtain ⟨o,q⟩:=some_of b k z2; rw [(hf b z1).1] at q; cases q
   · obtain ⟨o,q⟩:=some_of b j z1; rw [(hf b z2).1] at q; cases q
   · exact S.uq j k b z1 z2
 · rcases aV hb with ⟨_,z⟩ | ⟨_,z⟩
   · exact (hf b z).2
   · obtain ⟨o,q⟩:=S.bd j b z; exact ⟨o,e _ _ q⟩
theorem Sta.less (S:Sta K A H₀ τ B σ H) {i:Nat} {s:Sl} {bs:List Addr} (hb:∀ b ∈ bs,b ∈ B i) (h:∀ G:Hp,aj (hd H (own A B)) G->(∀ b o,b ∈ B i->b ∉ bs->H b=some o->G b=some o)->bR K G H (σ[i]?).join bs s):Sta K A H₀ (τ.set i s) (upB B i bs) σ H:=by
 have sub:∀ b,own A (upB B i bs) b->own A B b:=λb z=>z.elim .inl λ⟨j,z⟩=>(aV z).elim (λz=>.inr ⟨i,hb b z.2⟩) λz=>.inr ⟨j,z.2⟩
 refine ⟨S.same,by rw [List.length_set,S.len],λj t hj=>?_,λj b h=>?_,λj k b h1 h2=>?_,S.ad,λj b h=>(aV h).elim (λz=>S.bd i b (hb b z.2)) λz=>S.bd j b z.2⟩
 · by_cases ej:j=i
   · subst ej
     have hl:j < τ.length:=by
       have:=(List.getElem?_eq_some_iff.mp hj).1
       rwa [List.length_set] at this
     rw [List.getElem?_set_self hl] at hj
     cases hj
     unfold upB
     rw [if_pos rfl]
     refine h _ (au (aj.refl _) sub) λb o z1 z2 z3=>ak.mpr ⟨λy=>?_,z3⟩
     rcases y with y | ⟨m,y⟩
     · obtain ⟨_,q⟩:=S.ad b y
       rw [S.fr j b z1] at q; cases q
     · rcases aV y with ⟨e,y⟩ | ⟨e,y⟩
       · exact z2 y
       · exact e (S.uq m j b y z1)
   · rw [List.getElem?_set_ne (λz=>ej z.symm)] at hj
     unfold upB
     rw [if_neg ej]
     exact (S.sl j t hj).mono (au (aj.refl _) sub) (aj.refl _)
 · rcases aV h with ⟨e,z⟩ | ⟨_,z⟩
   · exact S.fr i b (hb b z)
   · exact S.fr j b z
 · rcases aV h1 with ⟨e1,z1⟩ | ⟨e1,z1⟩ <;> rcases aV h2 with ⟨e2,z2⟩ | ⟨e2,z2⟩
   · exact e1.trans e2.symm
   · exact absurd (S.uq k i b z2 (hb b z1)) e2
   · exact absurd (S.uq j i b z1 (hb b z2)) e1
   · exact S.uq j k b z1 z2
end
end Hy
namespace Hy
open PySem PySem.Spec PyProof.Rows L2
open Ev (D Den aq ay aA ai aX aI)
noncomputable def Fr (H H':Hp) (bs:List Addr):Prop:=∀ b ∈ bs,H b=none/\∃ o,H' b=some o
noncomputable def dE (K:PySem.W.Frag) (C:Bool) (τ:List Sl) (s:Sl):TE:=λσ H Q=>∃ A H₀ B,Sta K A H₀ τ B σ H /\
 ∀ v H' bs,aj H H'->Fr H H' bs->bR K (hd H' λb=>vw C A B b\/b ∈ bs) H' (some v) bs s->Q v H'
noncomputable def dA (K:PySem.W.Frag) (C:Bool) (τ:List Sl) (ds:List D):TA:=λσ H Q=>∃ A H₀ B,Sta K A H₀ τ B σ H /\
 ∀ vs H',aj H H'->aq K (hd H' (vw C A B)) vs ds->Q vs H'
noncomputable def dT (K:PySem.W.Frag) (τ:List Sl) (c:Bool):TT:=λσ H Q=>∃ A H₀ B,Sta K A H₀ τ B σ H/\∀ H',aj H H'->Q c H'
structure Po where
 nx:List Sl->Prop
 rt:Sl->Prop
 bk:List Sl->Prop:=λ_=>False
 ct:List Sl->Prop:=λ_=>False
 xc:Hp->Prop:=λ_=>True
structure Meets (K:PySem.W.Frag) (A:Addr->Prop) (H₀:Hp) (N:Po) (D:Ends):Prop where
 nx:∀ τ B σ H,N.nx τ->Sta K A H₀ τ B σ H->D.nx σ H
 bk:∀ τ B σ H,N.bk τ->Sta K A H₀ τ B σ H->D.bk σ H
 ct:∀ τ B σ H,N.ct τ->Sta K A H₀ τ B σ H->D.ct σ H
 rt:∀ v H bs s,N.rt s->aj H₀ H->Fr H₀ H bs->bR K (hd H λb=>A b\/b ∈ bs) H (some v) bs s->D.rt v H
 xc:∀ H,aj H₀ H->N.xc H
noncomputable def dS (K:PySem.W.Frag) (τ:List Sl) (N:Po):TS:=λD σ H=>∃ A H₀ B,Sta K A H₀ τ B σ H/\Meets K A H₀ N D
theorem peW {X:Cx} {e:Expr} {t t':TE} (h:PE X e t) (f:∀ σ H Q,t' σ H Q->t σ H Q):PE X e t':=λpins s σ H Q I q=>h pins s σ H Q I (f σ H Q q)
theorem ptW {X:Cx} {e:Expr} {t t':TT} (h:PT X e t) (f:∀ σ H Q,t' σ H Q->t σ H Q):PT X e t':=λpins s σ H Q I q=>h pins s σ H Q I (f σ H Q q)
theorem pwW {X:Cx} {e:Expr} {t t':TT} (h:PW X e t) (f:∀ σ H Q,t' σ H Q->t σ H Q):PW X e t':=λwh pins s σ H Q I q=>h wh pins s σ H Q I (f σ H Q q)
theorem paW {X:Cx} {e:List Expr} {t t':TA} (h:PA X e t) (f:∀ σ H Q,t' σ H Q->t σ H Q):PA X e t':=λp pins s σ H Q I q=>h p pins s σ H Q I (f σ H Q q)
theorem psW {X:Cx} {e:Stmt} {t t':TS} (h:PS X e t) (f:∀ D σ H,t' D σ H->t D σ H):PS X e t':=λpins s σ H D I q=>h pins s σ H D I (f D σ H q)
theorem iY {X:Cx} {e:List Stmt} {t t':TS} (h:PSs X e t) (f:∀ D σ H,t' D σ H->t D σ H):PSs X e t':=λpins s σ H D I q=>h pins s σ H D I (f D σ H q)
section
variable {K:PySem.W.Frag} {C:Bool} {τ:List Sl} {A:Addr->Prop} {H₀ H H':Hp} {B:Nat->List Addr} {σ:L2.St} {x y z:D} {Q:VK}
theorem iK {b:Addr} (h:vw C A B b):own A B b:=by
 cases C with
 | true=>exact h
 | false=>exact .inl h
theorem Sta.vd (S:Sta K A H₀ τ B σ H) (b:Addr) (h:vw C A B b):∃ o,H b=some o:=S.dm b (iK h)
theorem aO (S:Sta K A H₀ τ B σ H) (k:∀ v H',aj H H'->Den K (hd H' (vw C A B)) v x->Q v H'):dE K C τ (.d x) σ H Q:=
 ⟨A,H₀,B,S,λv H' bs e _ ⟨hb,u,eu,h⟩=>by
   cases eu
   exact k v H' e (h.mono (au (aj.refl _) λ_ z=>.inl z))⟩
theorem dJ (h:dE K C τ (.d x) σ H Q):∃ A H₀ B,Sta K A H₀ τ B σ H/\∀ v H',aj H H'->Den K (hd H' (vw C A B)) v x->Q v H':=by
 obtain ⟨A,H₀,B,S,k⟩:=h
 exact ⟨A,H₀,B,S,λv H' e d=>k v H' [] e (λ_ z=>nomatch z) ⟨rfl,v,rfl,d.mono (au (aj.refl _) λ_ z=>z.elim id λz=>nomatch z)⟩⟩
theorem fq {ds:List D} {Q:List V->Hp->Prop} (S:Sta K A H₀ τ B σ H) (k:∀ vs H',aj H H'->aq K (hd H' (vw C A B)) vs ds->Q vs H'):dA K C τ ds σ H Q:=⟨A,H₀,B,S,k⟩
theorem j6 {M:Addr->Prop} {p:Addr} {o:HO} (hM:∀ b,M b->∃ o,H b=some o) (hp:H p=none):hd (upd H p o) M p=some o:=
 ak.mpr ⟨λz=>(by obtain ⟨o,q⟩:=hM p z; rw [hp] at q; cases q),aF⟩
mutual
noncomputable def ndD:Nd->D
 | .d x=>x
 | .l xs=>.lst (mG xs)
 | .t xs=>.tup (mG xs)
noncomputable def mG:List Nd->List D
 | []=>[]
 | x :: xs=>ndD x :: mG xs
end
noncomputable def fzD:Sl->Option D
 | .un=>none
 | .d x=>some x
 | .o xs=>some (.lst xs)
 | .n t=>some (ndD t)
 | .x _=>none
mutual
theorem bu.den {G G':Hp} (g:aj G G'):∀ {u:V} {bs:List Addr} {t:Nd},(∀ b ∈ bs,∀ o,H b=some o->G' b=some o)->bu K G H u bs t->Den K G' u (ndD t)
 | _,_,_,_,.d h=>h.mono g
 | _,_,_,e,.l h r=>.lst (SqL.of (e _ (List.mem_cons_self ..) _ h)) (aP.den g (λb hb=>e b (List.mem_cons_of_mem _ hb)) r)
 | _,_,_,e,.t h r=>.tup (SqT.of (e _ (List.mem_cons_self ..) _ h)) (aP.den g (λb hb=>e b (List.mem_cons_of_mem _ hb)) r)
theorem aP.den {G G':Hp} (g:aj G G'):∀ {vs:List V} {bs:List Addr} {xs:List Nd},(∀ b ∈ bs,∀ o,H b=some o->G' b=some o)->aP K G H vs bs xs->aq K G' vs (mG xs)
 | _,_,_,_,.nil=>.nil
 | _,_,_,e,.cons h r=>.cons (bu.den g (λb hb=>e b (List.mem_append_left _ hb)) h) (aP.den g (λb hb=>e b (List.mem_append_right _ hb)) r)
end
theorem bR.den {G G':Hp} {v:Option V} {bs:List Addr} {s:Sl} (h:bR K G H v bs s) (g:aj G G') (hv:∀ b ∈ bs,∀ o,H b=some o->G' b=some o) (e:fzD s=some x):∃ u,v=some u/\Den K G' u x:=by
 cases s with
 | un=>cases e
 | d y=>cases e; obtain ⟨_,u,e,q⟩:=h; exact ⟨u,e,q.mono g⟩
 | o xs=>
   cases e
   obtain ⟨a,vs,rfl,h2,h3,h4⟩:=h
   exact ⟨_,h2,.lst (SqL.of (hv a (List.mem_cons_self ..) _ h3)) (h4.mono g)⟩
 | n t=>
   cases e
   obtain ⟨_,u,e,q⟩:=h
   exact ⟨u,e,q.den g hv⟩
 | x E=>cases e
theorem slot_of {i:Nat} {u:V} (h:(σ[i]?).join=some u):σ[i]?=some (some u):=by
 cases e:σ[i]? with
 | none=>rw [e] at h; cases h
 | some o=>rw [e] at h; exact congrArg some h
end
section
variable {X:Cx} {C:Bool} {τ:List Sl} {x y z:D} {a b e:Expr} {es:List Expr} {pos:Pos}
theorem aa (i:Nat) {n:Str} {x:D} (h:τ[i]?=some (.d x):=by rfl) (hN:X.N[i]?=some n:=by rfl) (hv:Vis X.env.scope n:=by first | exact Or.inl rfl | exact Or.inr (Or.inl rfl) | exact Or.inr (Or.inr rfl))
   (hd:(n == ("__debug__" : Str))=false:=by decide) (hcd:(n == ("__classdict__" : Str))=false:=by decide):PE X (.Name n pos) (dE X.K C τ (.d x)):=peW (bN hN hv hd hcd) λσ H Q q=>by
 obtain ⟨A,H₀,B,S,k⟩:=dJ q
 obtain ⟨_,u,e,d⟩:=S.sl i _ h
 exact ⟨u,slot_of e,k u H (aj.refl _) (d.mono (au (aj.refl _) λ_ z=>iK z))⟩
theorem qU {v:V} (h:PE X e (tC v)) (d:∀ H,Den X.K H v x):PE X e (dE X.K C τ (.d x)):=peW h λσ H Q q=>by
 obtain ⟨A,H₀,B,S,k⟩:=dJ q
 exact k v H (aj.refl _) (d _)
theorem ae {i j}:PE X (.Constant (.int i) j pos) (dE X.K C τ (.d (.int i))):=qU p9 λ_=>.int
theorem tN {b j}:PE X (.Constant (.bool b) j pos) (dE X.K C τ (.d (.bl b))):=qU Be λ_=>.bl
theorem ur {j}:PE X (.Constant .none j pos) (dE X.K C τ (.d .non)):=qU y0 λ_=>.non
theorem y7 {n:Str} {i:Int} (hm:∃ t,X.mg n=some (.int i t)) (hg:Gl X n:=by rfl) (hd:(n == ("__debug__" : Str))=false:=by decide):PE X (.Name n pos) (dE X.K C τ (.d (.int i))):=by
 obtain ⟨t,hm⟩:=hm
 exact qU (wY (v:=.int i) hg hm ⟨t,rfl⟩ hd) λ_=>.int
theorem aS {s:Sl} (h:PE X e (dE X.K C τ s)) (hx:fzD s=some x:=by rfl):PE X e (dE X.K C τ (.d x)):=peW h λσ H Q q=>by
 obtain ⟨A,H₀,B,S,k⟩:=dJ q
 refine ⟨A,H₀,B,S,λv H' bs e hf q=>?_⟩
 have vd:=S.vd (C:=C)
 obtain ⟨u,e1,d⟩:=q.den (G':=Hy.hd H' (vw C A B)) (au (aj.refl _) λ_ z=>.inl z) (λb hb o ho=>ak.mpr ⟨λz=>(by obtain ⟨_,q⟩:=vd b z; rw [(hf b hb).1] at q; cases q),ho⟩) hx
 cases e1
 exact k v H' e d
noncomputable def flat:D->Bool
 | .tup _=>false
 | .lst _=>false
 | .box _=>false
 | _=>true
theorem km {K:PySem.W.Frag} {G G':Hp} {v:V} (h:Den K G v x) (f:flat x=true):Den K G' v x:=by
 cases h with
 | non=>exact .non
 | bl=>exact .bl
 | int=>exact .int
 | str=>exact .str
 | tup _ _=>cases f
 | lst _ _=>cases f
 | box _=>cases f
noncomputable def cx (X:Cx) (f:Value->Value->Sem Value) (x y z:D):Prop:=∃ r:R2,OpR X f r /\
 ∀ (M:Addr->Prop) (v w:V) (H:Hp) (Q:VK),(∀ b,M b->∃ o,H b=some o)->Den X.K (hd H M) v x->Den X.K (hd H M) w y->(∀ u H',aj H H'->Den X.K (hd H' M) u z->Q u H')->r v w H Q
theorem two {r:R2} (hr:∀ (M:Addr->Prop) (v w:V) (H:Hp) (Q:VK),(∀ b,M b->∃ o,H b=some o)->Den X.K (hd H M) v x->Den X.K (hd H M) w y->(∀ u H',aj H H'->Den X.K (hd H' M) u z->Q u H')->r v w H Q) :
   ∀ σ H Q,dE X.K C τ (.d z) σ H Q->tOp r (dE X.K C τ (.d x)) (dE X.K C τ (.d y)) σ H Q:=by
 intro σ H Q h
 obtain ⟨A,H₀,B,S,k⟩:=dJ h
 refine aO S λv H1 e1 d1=>aO (S.mono e1) λw H2 e2 d2=>hr (vw C A B) v w H2 Q ((S.mono e1).mono e2).vd (d1.mono (au e2 λ_ z=>z)) d2 λu H' e3 d3=>k u H' (e1.trans (e2.trans e3)) d3
theorem aB {op:Operator} (ha:PE X a (dE X.K C τ (.d x))) (hb:PE X b (dE X.K C τ (.d y))) (ho:cx X (binaryOp op) x y z):PE X (.BinOp a op b pos) (dE X.K C τ (.d z)):=by
 obtain ⟨r,h1,h2⟩:=ho
 exact peW (yj h1 ha hb) (two h2)
theorem cO {op:CmpOp} (ha:PE X a (dE X.K C τ (.d x))) (hb:PE X b (dE X.K C τ (.d y))) (ho:cx X (compareOp op) x y z) (hm:behindInMarks op b=false:=by first | exact ua _ | rfl):PE X (.Compare a [op] [b] pos) (dE X.K C τ (.d z)):=by
 obtain ⟨r,h1,h2⟩:=ho
 exact peW (xr h1 ha hb hm) (two h2)
theorem u4 {t:TE} {c:Bool} (h:∀ σ H Q,dE X.K false τ (.d (.bl c)) σ H Q->t σ H Q):∀ σ H Q,dT X.K τ c σ H Q->t σ H λx H'=>∃ k,x=.bl k/\Q k H':=λσ H Q ⟨A,H₀,B,S,k⟩=>
 h σ H _ (aO S λv H' e d=>by cases d; exact ⟨c,rfl,k H' e⟩)
theorem bf {op:CmpOp} {c:Bool} (ha:PE X a (dE X.K false τ (.d x))) (hb:PE X b (dE X.K false τ (.d y))) (ho:cx X (compareOp op) x y (.bl c)) (hm:behindInMarks op b=false:=by first | exact ua _ | rfl):PT X (.Compare a [op] [b] pos) (dT X.K τ c):=by
 obtain ⟨r,h1,h2⟩:=ho
 exact ptW (wA h1 ha hb hm) (u4 (two h2))
theorem bP {c:Bool} (h:PE X e (dE X.K false τ (.d (.bl c)))) (he:∀ whole,isTrue e X.env whole=(do let v <- whole; standAt e.pos; holding [v] (truthy v)):=by intro _; rfl):PT X e (dT X.K τ c):=
 ptW (zu h he) (u4 λ_ _ _ q=>q)
theorem lL {g:Int->Int->V} {P:Int->Int->Prop} {i j:Int} (hc:P i j) (hz:∀ K H,Den K H (g i j) z):∀ (M:Addr->Prop) (v w:V) (H:Hp) (Q:VK),(∀ b,M b->∃ o,H b=some o)->Den X.K (hd H M) v (.int i)->Den X.K (hd H M) w (.int j) ->
   (∀ u H',aj H H'->Den X.K (hd H' M) u z->Q u H')->rI P g v w H Q:=λ_ v w H Q _ d1 d2 k=>by
 cases d1
 cases d2
 exact ⟨i,j,rfl,rfl,hc,k _ H (aj.refl _) (hz _ _)⟩
theorem iN {g:Int->Int->V} {i j:Int} (hz:∀ K H,Den K H (g i j) z):∀ (M:Addr->Prop) (v w:V) (H:Hp) (Q:VK),(∀ b,M b->∃ o,H b=some o)->Den X.K (hd H M) v (.int i)->Den X.K (hd H M) w (.int j) ->
   (∀ u H',aj H H'->Den X.K (hd H' M) u z->Q u H')->rI0 g v w H Q:=λ_ v w H Q _ d1 d2 k=>by
 cases d1
 cases d2
 exact ⟨i,j,rfl,rfl,k _ H (aj.refl _) (hz _ _)⟩
variable {i j:Int}
theorem bD:cx X (binaryOp .Add) (.int i) (.int j) (.int (i + j)):=⟨_,A2,iN λ_ _=>.int⟩
theorem iO:cx X (binaryOp .Sub) (.int i) (.int j) (.int (i - j)):=⟨_,zM,iN λ_ _=>.int⟩
theorem yD:cx X (binaryOp .BitAnd) (.int i) (.int j) (.int (Builtin.bitAnd i j)):=⟨_,zf,iN λ_ _=>.int⟩
theorem CZ:cx X (binaryOp .BitOr) (.int i) (.int j) (.int (Builtin.bitOr i j)):=⟨_,BG,iN λ_ _=>.int⟩
theorem ay.ok' {i j:Int} (h:ay i j):IntMulOk i j:=by
 have b:∀ {k:Int} {n:Nat},k.natAbs.log2 < n->Builtin.Int.intBits k<=n:=λ{k n} q=>by
   unfold Builtin.Int.intBits
   split
   · exact Nat.zero_le _
   · exact q
 rcases h with h | h | ⟨h1,h2⟩
 · exact .of_left (b h)
 · exact .of_right (b h)
 · exact .of_bits (Nat.le_trans (b h1) (by decide)) (Nat.le_trans (b h2) (by decide))
theorem aW (h:ay i j):cx X (binaryOp .Mult) (.int i) (.int j) (.int (i * j)):=⟨rI ay λi j=>.int (i * j),opI λ_ _ _ _ _ _ _ hc q=>mul_int q (ay.ok' hc),lL h λ_ _=>.int⟩
theorem a5 (h:aA j):cx X (binaryOp .FloorDiv) (.int i) (.int j) (.int (i.fdiv j)):=⟨rI (λ_ j=>aA j) λi j=>.int (i.fdiv j),opI λ_ _ _ _ _ _ _ hc q=>floordiv_int hc.1 q (.inl (PyProof.noPylong_of_log2 hc.2)),lL h λ_ _=>.int⟩
theorem eF (h:j ≠ 0):cx X (binaryOp .Mod) (.int i) (.int j) (.int (i.fmod j)):=⟨_,yh,lL h λ_ _=>.int⟩
theorem Bm (h:ye i j):cx X (binaryOp .Pow) (.int i) (.int j) (.int (i ^ j.toNat)):=⟨_,Au,lL h λ_ _=>.int⟩
theorem uk (h:ye i j):cx X (binaryOp .LShift) (.int i) (.int j) (.int (i * 2 ^ j.toNat)):=⟨_,Av,lL h λ_ _=>.int⟩
theorem yA (h:0<=j):cx X (binaryOp .RShift) (.int i) (.int j) (.int (i / 2 ^ j.toNat)):=⟨_,zc,lL h λ_ _=>.int⟩
theorem kM:cx X (compareOp .Lt) (.int i) (.int j) (.bl (decide (i < j))):=⟨_,Bl,iN λ_ _=>.bl⟩
theorem xt:cx X (compareOp .LtE) (.int i) (.int j) (.bl (decide (i<=j))):=⟨_,BM,iN λ_ _=>.bl⟩
theorem CJ:cx X (compareOp .Gt) (.int i) (.int j) (.bl (decide (j < i))):=⟨_,BJ,iN λ_ _=>.bl⟩
theorem zX:cx X (compareOp .GtE) (.int i) (.int j) (.bl (decide (j<=i))):=⟨_,Cw,iN λ_ _=>.bl⟩
theorem gN:cx X (compareOp .Eq) (.int i) (.int j) (.bl (decide (i=j))):=⟨_,CD,λ_ v w H Q _ d1 d2 k=>by
 cases d1
 cases d2
 exact ⟨rfl,by rw [show decide (V.int i=V.int j)=decide (i=j) by simp]; exact k _ H (aj.refl _) .bl⟩⟩
theorem pg:cx X (compareOp .NotEq) (.int i) (.int j) (.bl (!decide (i=j))):=⟨_,Ba,λ_ v w H Q _ d1 d2 k=>by
 cases d1
 cases d2
 exact ⟨rfl,by rw [show decide (V.int i=V.int j)=decide (i=j) by simp]; exact k _ H (aj.refl _) .bl⟩⟩
theorem qv (h:PE X a (dE X.K C τ (.d (.int i)))):PE X (.UnaryOp .USub a pos) (dE X.K C τ (.d (.int (-i)))):=peW (Cm z9 h) λσ H Q q=>by
 obtain ⟨A,H₀,B,S,k⟩:=dJ q
 refine aO S λv H1 e1 d1=>?_
 cases d1
 exact ⟨i,rfl,k _ H1 e1 .int⟩
theorem yR {e:Expr}:PE X e λ_ _ _=>False:=λ_ _ _ _ _ _ h=>h.elim
theorem pw_no {e:Expr}:PW X e λ_ _ _=>False:=λ_ _ _ _ _ _ _ h=>h.elim
variable {p q:Bool} {c:Expr} {rest:List Expr}
theorem fb {op} {s:Sl} (h:PE X a (dE X.K C τ s)):PE X (.BoolOp op [a] pos) (dE X.K C τ s):=zU h
theorem fS (ha:PE X a (dE X.K C τ (.d (.bl p)))) (hb:p=true->PE X (.BoolOp .And (b :: rest) pos) (dE X.K C τ (.d (.bl q)))):PE X (.BoolOp .And (a :: b :: rest) pos) (dE X.K C τ (.d (.bl (p && q)))):=by
 cases p with
 | false=>
   refine peW (uP ha yR) λσ H Q z=>?_
   obtain ⟨A,H₀,B,S,k⟩:=dJ z
   exact aO S λv H' e d=>by cases d; exact ⟨_,rfl,k _ H' e .bl⟩
 | true=>
   refine peW (uP ha (hb rfl)) λσ H Q z=>?_
   obtain ⟨A,H₀,B,S,k⟩:=dJ z
   exact aO S λv H' e d=>by cases d; exact ⟨_,rfl,aO (S.mono e) λv H2 e2 d2=>k v H2 (e.trans e2) d2⟩
theorem Cc (ha:PE X a (dE X.K C τ (.d (.bl p)))) (hb:p=false->PE X (.BoolOp .Or (b :: rest) pos) (dE X.K C τ (.d (.bl q)))):PE X (.BoolOp .Or (a :: b :: rest) pos) (dE X.K C τ (.d (.bl (p || q)))):=by
 cases p with
 | true=>
   refine peW (yG ha yR) λσ H Q z=>?_
   obtain ⟨A,H₀,B,S,k⟩:=dJ z
   exact aO S λv H' e d=>by cases d; exact ⟨_,rfl,k _ H' e .bl⟩
 | false=>
   refine peW (yG ha (hb rfl)) λσ H Q z=>?_
   obtain ⟨A,H₀,B,S,k⟩:=dJ z
   exact aO S λv H' e d=>by cases d; exact ⟨_,rfl,aO (S.mono e) λv H2 e2 d2=>k v H2 (e.trans e2) d2⟩
theorem BU (ha:PE X a (dE X.K C τ (.d (.bl p)))):PE X (.UnaryOp .Not a pos) (dE X.K C τ (.d (.bl (!p)))):=peW (ze ha) λσ H Q z=>by
 obtain ⟨A,H₀,B,S,k⟩:=dJ z
 exact aO S λv H' e d=>by cases d; exact ⟨_,rfl,k _ H' e .bl⟩
theorem uh (ha:PT X a (dT X.K τ p)):PW X (.BoolOp .And [a] pos) (dT X.K τ p):=pw_and1 ha
theorem jX (ha:PT X a (dT X.K τ p)):PW X (.BoolOp .Or [a] pos) (dT X.K τ p):=pw_or1 ha
theorem yJ (ha:PT X a (dT X.K τ p)) (hb:p=true->PW X (.BoolOp .And (b :: rest) pos) (dT X.K τ q)):PW X (.BoolOp .And (a :: b :: rest) pos) (dT X.K τ (p && q)):=by
 cases p with
 | false=>exact pwW (pw_and ha pw_no) λσ H Q ⟨A,H₀,B,S,k⟩=>⟨A,H₀,B,S,λH' e=>sH (k H' e)⟩
 | true=>exact pwW (pw_and ha (hb rfl)) λσ H Q ⟨A,H₀,B,S,k⟩=>⟨A,H₀,B,S,λH' e=>qi (⟨A,H₀,B,S.mono e,λH2 e2=>k H2 (e.trans e2)⟩)⟩
theorem ny (ha:PT X a (dT X.K τ p)) (hb:p=false->PW X (.BoolOp .Or (b :: rest) pos) (dT X.K τ q)):PW X (.BoolOp .Or (a :: b :: rest) pos) (dT X.K τ (p || q)):=by
 cases p with
 | true=>exact pwW (pw_or ha pw_no) λσ H Q ⟨A,H₀,B,S,k⟩=>⟨A,H₀,B,S,λH' e=>qi (k H' e)⟩
 | false=>exact pwW (pw_or ha (hb rfl)) λσ H Q ⟨A,H₀,B,S,k⟩=>⟨A,H₀,B,S,λH' e=>sH (⟨A,H₀,B,S.mono e,λH2 e2=>k H2 (e.trans e2)⟩)⟩
theorem bV (ha:PT X a (dT X.K τ p)):PT X (.UnaryOp .Not a pos) (dT X.K τ (!p)):=ptW (AR ha) λσ H Q ⟨A,H₀,B,S,k⟩=>⟨A,H₀,B,S,λH' e=>k H' e⟩
theorem rF {op op':CmpOp} (ha:PE X a (dE X.K C τ (.d x))) (hb:PE X b (dE X.K C τ (.d y))) (hc:PE X c (dE X.K C τ (.d z))) (h1:cx X (compareOp op) x y (.bl p)) (h2:cx X (compareOp op') y z (.bl q))
   (hm:lastMarks [op,op'] [b,c]=false:=by with_unfolding_all rfl):PE X (.Compare a [op,op'] [b,c] pos) (dE X.K C τ (.d (.bl (p && q))))/\(C=false->PT X (.Compare a [op,op'] [b,c] pos) (dT X.K τ (p && q))):=by
 obtain ⟨r,o1,k1⟩:=h1
 obtain ⟨r',o2,k2⟩:=h2
 have key:∀ σ H Q,dE X.K C τ (.d (.bl (p && q))) σ H Q->qe r r' (dE X.K C τ (.d x)) (dE X.K C τ (.d y)) (dE X.K C τ (.d z)) σ H Q:=λσ H Q h=>by
   obtain ⟨A,H₀,B,S,k⟩:=dJ h
   refine aO S λv H1 e1 d1=>aO (S.mono e1) λw H2 e2 d2=>k1 (vw C A B) v w H2 _ ((S.mono e1).mono e2).vd (d1.mono (au e2 λ_ z=>z)) d2 λu H3 e3 d3=>?_
   cases d3
   refine ⟨p,rfl,?_⟩
   cases p with
   | false=>exact sH (k _ H3 (e1.trans (e2.trans e3)) .bl)
   | true=>exact qi (aO (((S.mono e1).mono e2).mono e3) λw' H4 e4 d4=>k2 (vw C A B) w w' H4 Q ((((S.mono e1).mono e2).mono e3).mono e4).vd (d2.mono (au (e3.trans e4) λ_ z=>z)) d4 λu H5 e5 d5=>k u H5 (e1.trans (e2.trans (e3.trans (e4.trans e5)))) d5)
 exact ⟨peW (uf o1 o2 ha hb hc hm) key,λhC=>by subst hC; exact ptW (vo o1 o2 ha hb hc hm) (u4 key)⟩
theorem af:PA X [] (dA X.K C τ []):=paW dX λσ H Q ⟨A,H₀,B,S,k⟩=>k [] H (aj.refl _) .nil
theorem ab {ds:List D} (ha:PE X e (dE X.K C τ (.d x))) (hr:PA X es (dA X.K C τ ds)) (hs:starEach (e :: es) X.env=(false,eval e X.env) :: starEach es X.env:=by rfl):PA X (e :: es) (dA X.K C τ (x :: ds)):=paW (bL ha hr hs) λσ H Q ⟨A,H₀,B,S,k⟩=>
 aO S λv H1 e1 d1=>fq (S.mono e1) λvs H2 e2 d2=>k _ H2 (e1.trans e2) (.cons (d1.mono (au e2 λ_ z=>z)) d2)
theorem cC {ds:List D} {m} (h:PA X es (dA X.K C τ ds)) (hl:Nat.ble ds.length 1000=true:=by rfl):PE X (.Tuple es m pos) (dE X.K C τ (.d (.tup ds))):=peW (vZ h) λσ H Q q=>by
 obtain ⟨A,H₀,B,S,k⟩:=dJ q
 refine fq S λvs H1 e1 d1=>⟨by rw [d1.length]; exact Nat.le_of_lt (lJ (Nat.le_of_ble_eq_true hl)),λp hp=>k _ _ (e1.trans (ai hp _)) ?_⟩
 exact .tup (SqT.of (j6 (S.mono e1).vd hp)) (d1.mono (au (ai hp _) λ_ z=>z))
theorem cb {ds:List D} (h:PA X es (dA X.K C τ ds)) (hl:Nat.ble ds.length 1000=true:=by rfl):PE X (.List es pos) (dE X.K C τ (.o ds)):=peW (Ax h) λσ H Q ⟨A,H₀,B,S,k⟩=>
 fq S λvs H1 e1 d1=>⟨by rw [d1.length]; exact Nat.le_of_lt (lJ (Nat.le_of_ble_eq_true hl)),λp hp=>k _ _ [p] (e1.trans (ai hp _)) (λb hb=>by
   obtain rfl:=List.mem_singleton.mp hb
   exact ⟨e1.free hp,_,aF⟩) ⟨p,vs,rfl,rfl,aF,d1.mono λb o z=>by
     obtain ⟨z1,z2⟩:=ak.mp z
     refine ak.mpr ⟨λy=>?_,ai hp _ _ _ z2⟩
     rcases y with y | y
     · exact z1 y
     · rw [List.mem_singleton.mp y] at z2; rw [hp] at z2; cases z2⟩⟩
end
noncomputable def spD (K:PySem.W.Frag) (Φ:List D->Sl->Prop):Sp:=λvs H Q _=>∃ A ds s,(∀ b,A b->∃ o,H b=some o)/\aq K (hd H A) vs ds/\Φ ds s /\
 ∀ v H' bs,aj H H'->Fr H H' bs->bR K (hd H' λb=>A b\/b ∈ bs) H' (some v) bs s->Q v H'
noncomputable def Cal (P:Program) (w:World) (K:PySem.W.Frag) (mg:Str->Option Value) (base:Heap) (k:Nat) (n:Str) (Φ:List D->Sl->Prop):Prop:=
 ∃ f fd ps,aN P w K mg base CX0 k f fd ps (spD K Φ)/\mg n=some (.ref f)/\PySem.W.keepIn K (.ref f)=true/\Binds K fd ps []
theorem Cal.mono {P:Program} {w:World} {K:PySem.W.Frag} {mg:Str->Option Value} {base:Heap} {j k:Nat} {n:Str} {Φ:List D->Sl->Prop} (c:Cal P w K mg base j n Φ) (h:j<=k):Cal P w K mg base k n Φ:=
 let ⟨f,fd,ps,F,r⟩:=c; ⟨f,fd,ps,F.mono h,r⟩
noncomputable def ah:List Str:=["len","abs","max","min","int","bool","list","tuple","str","isinstance","range","enumerate","all","zip","sorted","sum","any","reversed"]
structure Bk (X:Cx) (k:Nat):Prop where
 room:eN k X.A
 calm:X.calm=true
 blt:∀ x ∈ ah,X.mg x=none
 po:PassesOwn (model X.prog X.w) X.A X.env X.xe
section
variable {X:Cx} {C:Bool} {τ:List Sl} {x y z:D} {a b e:Expr} {es:List Expr} {pos p:Pos} {k:Nat} {s:Sl} {ds:List D} {i j:Int}
theorem x_call {n:Str} {Φ:List D->Sl->Prop} (B:Bk X k) (c:Cal X.prog X.w X.K X.mg X.base k n Φ) (ha:PA X (e :: es) (dA X.K C τ ds)) (h:Φ ds s) (hg:Gl X n:=by rfl) (hdb:(n == ("__debug__" : Str))=false:=by decide)
   (he:starEach (e :: es) X.env=(false,eval e X.env) :: starEach es X.env:=by rfl) (hpl:(backTo pos (starEach es X.env)).any (·.1)=false:=by rfl):PE X (.Call (.Name n p) (e :: es) [] pos) (dE X.K C τ s):=by
 obtain ⟨f,fd,ps,F,hm,hk,hb⟩:=c
 refine peW (rV F B.room hg hm hk hb .nil yE ha hdb he hpl) λσ H Q ⟨A,H₀,B,S,q⟩=>fq S λvs H1 e1 d1=>?_
 rw [List.append_nil]
 exact ⟨vw C A B,ds,s,(S.mono e1).vd,d1,h,λv H' bs e2 hf h2=>q v H' bs (e1.trans e2) (λb hb=>⟨e1.free (hf b hb).1,(hf b hb).2⟩) h2⟩
noncomputable def jI (X:Cx) (f:Value) (ds:List D) (s:Sl):Prop:=∃ r:List V->Hp->VK->Prop,eV X f r /\
 ∀ (M:Addr->Prop) (vs:List V) (H:Hp) (Q:VK),(∀ b,M b->∃ o,H b=some o)->aq X.K (hd H M) vs ds->(∀ u H' bs,aj H H'->Fr H H' bs->bR X.K (hd H' λb=>M b\/b ∈ bs) H' (some u) bs s->Q u H')->r vs H Q
theorem tO {r:List V->Hp->VK->Prop} (hr:∀ (M:Addr->Prop) (vs:List V) (H:Hp) (Q:VK),(∀ b,M b->∃ o,H b=some o)->aq X.K (hd H M) vs ds->(∀ u H' bs,aj H H'->Fr H H' bs->bR X.K (hd H' λb=>M b\/b ∈ bs) H' (some u) bs s->Q u H')->r vs H Q) :
   ∀ σ H Q,dE X.K C τ s σ H Q->tCB r (dA X.K C τ ds) σ H Q:=λσ H Q ⟨A,H₀,B,S,q⟩=>
 fq S λvs H1 e1 d1=>hr (vw C A B) vs H1 Q (S.mono e1).vd d1 λv H' bs e2 hf h2=>q v H' bs (e1.trans e2) (λb hb=>⟨e1.free (hf b hb).1,(hf b hb).2⟩) h2
theorem a4 {n:Str} {id:String} (B:Bk X k) (ha:PA X (e :: es) (dA X.K C τ ds)) (c:jI X (.builtin id) ds s) (hn:n ∈ ah:=by decide) (hg:Gl X n:=by rfl) (hv:bootBuiltins n=some (.builtin id):=by decide +kernel) (h1:n ≠ "__name__":=by decide) (hdb:(n == ("__debug__" : Str))=false:=by decide)
   (he:starEach (e :: es) X.env=(false,eval e X.env) :: starEach es X.env:=by rfl) (hpl:(backTo pos (starEach es X.env)).any (·.1)=false:=by rfl):PE X (.Call (.Name n p) (e :: es) [] pos) (dE X.K C τ s):=by
 obtain ⟨r,h1,h2⟩:=c
 exact peW (pw h1 hg (B.blt _ hn) hv ha (by assumption) hdb he hpl) (tO h2)
theorem nK {n:Str} {T:String} (B:Bk X k) (ha:PA X (e :: es) (dA X.K C τ ds)) (c:jI X (.type T) ds s) (hn:n ∈ ah:=by decide) (hg:Gl X n:=by rfl) (hv:bootBuiltins n=some (.type T):=by decide +kernel) (h1:n ≠ "__name__":=by decide) (hdb:(n == ("__debug__" : Str))=false:=by decide)
   (he:starEach (e :: es) X.env=(false,eval e X.env) :: starEach es X.env:=by rfl) (hpl:(backTo pos (starEach es X.env)).any (·.1)=false:=by rfl):PE X (.Call (.Name n p) (e :: es) [] pos) (dE X.K C τ s):=by
 obtain ⟨r,h1,h2⟩:=c
 exact peW (lF h1 hg (B.blt _ hn) hv ha (by assumption) hdb he hpl) (tO h2)
theorem iU {K:PySem.W.Frag} {H:Hp} {M:Addr->Prop} {v:V} (h:Den K (hd H M) v x):bR K (hd H λb=>M b\/b ∈ ([]:List Addr)) H (some v) [] (.d x):=⟨rfl,v,rfl,h.mono (au (aj.refl _) λ_ z=>z.elim id λz=>nomatch z)⟩
theorem gh {H H':Hp}:Fr H H' []:=λ_ z=>nomatch z
theorem eG {xs:List D}:jI X (.builtin "len") [.lst xs] (.d (.int xs.length)):=⟨_,gF,λM vs H Q _ d q=>by
 cases d with
 | cons d r=>
   cases r
   cases d with
   | lst h r=>
     refine ⟨_,_,rfl,.inl (aI aL h),?_⟩
     rw [r.length]
     exact q _ H [] (aj.refl _) gh (iU .int)⟩
theorem wa {xs:List D}:jI X (.builtin "len") [.tup xs] (.d (.int xs.length)):=⟨_,gF,λM vs H Q _ d q=>by
 cases d with
 | cons d r=>
   cases r
   cases d with
   | tup h r=>
     refine ⟨_,_,rfl,.inr (aX aL h),?_⟩
     rw [r.length]
     exact q _ H [] (aj.refl _) gh (iU .int)⟩
noncomputable def xx (i:Int):Int:=if i < 0 then -i else i
theorem oX:jI X (.builtin "abs") [.int i] (.d (.int (xx i))):=⟨_,vz,λM vs H Q _ d q=>by
 cases d with
 | cons d r=>
   cases r
   cases d
   exact ⟨_,rfl,q _ H [] (aj.refl _) gh (iU .int)⟩⟩
theorem mq {K:PySem.W.Frag} {H:Hp} {M:Addr->Prop} {p:Addr} {vs:List V} {xs:List D} (hp:H p=none) (d:aq K (hd H M) vs xs) :
   aj H (upd H p (.lst vs))/\Fr H (upd H p (.lst vs)) [p]/\bR K (hd (upd H p (.lst vs)) λb=>M b\/b ∈ [p]) (upd H p (.lst vs)) (some (.ref p)) [p] (.o xs):=
 ⟨ai hp _,λb hb=>by
   obtain rfl:=List.mem_singleton.mp hb
   exact ⟨hp,_,aF⟩,p,vs,rfl,rfl,aF,d.mono λb o z=>by
     obtain ⟨z1,z2⟩:=ak.mp z
     refine ak.mpr ⟨λy=>?_,ai hp _ _ _ z2⟩
     rcases y with y | y
     · exact z1 y
     · rw [List.mem_singleton.mp y] at z2; rw [hp] at z2; cases z2⟩
theorem iF {xs:List D}:jI X (.type "list") [.lst xs] (.o xs):=⟨_,mJ,λM vs H Q _ d q=>by
 cases d with
 | cons d r=>
   cases r
   cases d with
   | lst h r=>
     refine ⟨_,_,rfl,.inl (aI aL h),λp hp=>?_⟩
     obtain ⟨z1,z2,z3⟩:=mq (K:=X.K) (M:=M) hp r
     exact q _ _ [p] z1 z2 z3⟩
theorem t5 {K:PySem.W.Frag} {H:Hp} {vs:List V} {ds:List D} {i:Int} {d:D} (r:aq K H vs ds) (h:atI ds i=some d):∃ v,atI vs i=some v/\Den K H v d:=by
 unfold atI at h ⊢
 rw [r.length]
 cases e:ixN ds.length i with
 | none=>rw [e] at h; cases h
 | some j=>rw [e] at h; exact r.get h
noncomputable def A4 (X:Cx) (x y z:D):Prop:=∃ r:R2,IxR X r /\
 ∀ (M:Addr->Prop) (v w:V) (H:Hp) (Q:VK),(∀ b,M b->∃ o,H b=some o)->Den X.K (hd H M) v x->Den X.K (hd H M) w y->(∀ u H',aj H H'->Den X.K (hd H' M) u z->Q u H')->r v w H Q
theorem aG (ha:PE X a (dE X.K C τ (.d x))) (hb:PE X b (dE X.K C τ (.d y))) (ho:A4 X x y z) (hs:nc b:=by exact λ_ _=>rfl):PE X (.Subscript a b pos) (dE X.K C τ (.d z)):=by
 obtain ⟨r,h1,h2⟩:=ho
 exact peW (yP h1 ha hb hs) (two h2)
theorem aU {xs:List D} (h:atI xs i=some z):A4 X (.lst xs) (.int i) z:=⟨_,rm,λM v w H Q _ d1 d2 q=>by
 cases d2
 cases d1 with
 | lst hs r=>
   obtain ⟨v,e,d⟩:=t5 r h
   exact ⟨_,_,_,_,rfl,rfl,aI aL hs,e,q _ H (aj.refl _) d⟩⟩
theorem aJ {xs:List D} (h:atI xs i=some z):A4 X (.tup xs) (.int i) z:=⟨_,Ao,λM v w H Q _ d1 d2 q=>by
 cases d2
 cases d1 with
 | tup hs r=>
   obtain ⟨v,e,d⟩:=t5 r h
   exact ⟨_,_,_,_,rfl,rfl,aX aL hs,e,q _ H (aj.refl _) d⟩⟩
noncomputable def dO (K:PySem.W.Frag) (τ:List Sl) (c:Option Int):TO:=λσ H Q=>∃ A H₀ B,Sta K A H₀ τ B σ H/\∀ H',aj H H'->Q c H'
theorem BY {e:Option Expr} {t t':TO} (h:PO X e t) (f:∀ σ H Q,t' σ H Q->t σ H Q):PO X e t':=λpins s σ H Q I q=>h pins s σ H Q I (f σ H Q q)
theorem hX:PO X none (dO X.K τ none):=BY xK λσ H Q ⟨A,H₀,B,S,k⟩=>k H (aj.refl _)
theorem cI (h:PE X e (dE X.K false τ (.d (.int i)))):PO X (some e) (dO X.K τ (some i)):=BY (wk h) λσ H Q ⟨A,H₀,B,S,k⟩=>aO S λv H1 e1 d1=>by
 cases d1
 exact ⟨_,rfl,k H1 e1⟩
noncomputable def cutD (xs:List D) (lo hi:Option Int):List D:=(xs.drop (HT.sIx xs.length 0 lo)).take (HT.sIx xs.length xs.length hi - HT.sIx xs.length 0 lo)
theorem mC {lo hi:Option Expr} {l u:Option Int} {xs:List D} {p2:Pos} (ha:PE X a (dE X.K C τ (.d (.lst xs)))) (hl:PO X lo (dO X.K τ l)) (hu:PO X hi (dO X.K τ u)):PE X (.Subscript a (.Slice lo hi none p2) pos) (dE X.K C τ (.o (cutD xs l u))):=
 peW (uE xR ha hl hu) λσ H Q ⟨A,H₀,B,S,k⟩=>aO S λv H1 e1 d1=>⟨A,H₀,B,S.mono e1,λH2 e2=>⟨A,H₀,B,(S.mono e1).mono e2,λH3 e3=>by
   cases d1 with
   | @lst _ ws _ h r=>
     have h:=aI (e2.trans e3) (aI aL h)
     refine ⟨_,_,rfl,h,λp hp=>?_⟩
     have r:=r.mono (au (e2.trans e3) λ_ z=>z)
     have r':aq X.K (hd H3 (vw C A B)) (sS ws l u) (cutD xs l u):=by
       unfold sS cutD
       rw [r.length]
       exact (r.drop _).take _
     obtain ⟨z1,z2,z3⟩:=mq (K:=X.K) hp r'
     exact k _ _ [p] (e1.trans (e2.trans (e3.trans z1))) (λb hb=>⟨(e1.trans (e2.trans e3)).free (z2 b hb).1,(z2 b hb).2⟩) z3⟩⟩
inductive Ty where
 | int | bool | str | list | tuple
noncomputable def tyN:Ty->String
 | .int=>"int" | .bool=>"bool" | .str=>"str" | .list=>"list" | .tuple=>"tuple"
noncomputable def Bj:D->String
 | .non=>"NoneType" | .bl _=>"bool" | .int _=>"int" | .str _=>"str" | .tup _=>"tuple" | .lst _=>"list" | .box _=>"dict"
noncomputable def px:Ty->D->Bool
 | .int,.int _=>true
 | .int,.bl _=>true
 | .bool,.bl _=>true
 | .str,.str _=>true
 | .list,.lst _=>true
 | .tuple,.tup _=>true
 | _,_=>false
theorem zN (K:PySem.W.Frag) (d:D) (t:Ty):PySem.W.kitOne K (.type (Bj d)) (.type (tyN t))=some (px t d):=by
 cases d <;> cases t <;> (show PySem.W.kitOne K (.type _) (.type _)=some _) <;> with_unfolding_all rfl
theorem AG (t:Ty):eV X (.builtin "isinstance") (λxs H Q=>∃ G x d,aj G H/\xs=[x,.ty (tyN t)]/\Den X.K G x d/\Q (.bl (px t d)) H):=by
 intro pins s σ H xs us Q I r q
 obtain ⟨G,x,d,sg,rfl,dx,q⟩:=q
 obtain ⟨u,w,rfl,rx,rt⟩:∃ u w,us=[u,w]/\RelV x u/\RelV (.ty (tyN t)) w:=by
   cases r with
   | cons r1 r=>cases r with
     | cons r2 r=>cases r; exact ⟨_,_,rfl,r1,r2⟩
 cases (show w=Value.type (tyN t) from rt)
 have kt:=zN X.K d t
 have fin:∀ tk,EP X pins σ Q (.bool (px t d)) { s with toks:=tk }:=λtk=>⟨.bl _,H,I.tok _,rfl,q⟩
 cases dx with
 | non=>cases (show u=Value.none from rx); exact PySem.W.kia_one PySem.W.kitx_none I.kIn True.intro kt (λz=>nomatch z) fin
 | bl=>cases (show u=Value.bool _ from rx); exact PySem.W.kia_one PySem.W.kitx_bool I.kIn True.intro kt (λz=>nomatch z) fin
 | int=>obtain ⟨t',z⟩:=(show ∃ t,u=Value.int _ t from rx); cases z; exact PySem.W.kia_one PySem.W.kitx_int I.kIn True.intro kt (λz=>nomatch z) fin
 | str=>obtain ⟨t',z⟩:=(show ∃ t,u=Value.str _ t from rx); cases z; exact PySem.W.kia_one PySem.W.kitx_str I.kIn True.intro kt (λz=>nomatch z) fin
 | tup h r1=>
   cases (show u=Value.ref _ from rx)
   obtain ⟨its,_,⟨o,h1,h2,_⟩,_⟩:=I.tuple (aX sg h)
   exact PySem.W.kia_one PySem.W.kitx_tuple I.kIn ⟨o,h1,h2⟩ kt (λz=>nomatch z) fin
 | lst h r1=>
   cases (show u=Value.ref _ from rx)
   obtain ⟨its,_,⟨o,n,h1,h2,_⟩,_⟩:=I.list (aI sg h)
   exact PySem.W.kia_one PySem.W.kitx_list I.kIn ⟨o,h1,h2⟩ kt (λz=>nomatch z) fin
 | @box a x h=>
   cases (show u=Value.ref _ from rx)
   obtain ⟨o',h1,h2⟩:=x.isd h
   obtain ⟨o,h3,h4⟩:=h2 _ _ _ _ (I.hok a _ (sg _ _ h1))
   exact PySem.W.kia_one PySem.W.kitx_dict I.kIn ⟨o,h3,h4⟩ kt (λz=>nomatch z) fin
theorem jH {n:Str} {q:Pos} (t:Ty) (B:Bk X k) (ha:PE X a (dE X.K false τ (.d x))) (hn:n ∈ ah:=by decide) (ht:bootBuiltins n=some (.type (tyN t)):=by decide +kernel) (hg:Gl X "isinstance":=by rfl) (hg':Gl X n:=by rfl) (h1:n ≠ "__name__":=by decide) (hdb:(n == ("__debug__" : Str))=false:=by decide)
   (he:starEach [a,.Name n q] X.env=(false,eval a X.env) :: starEach [.Name n q] X.env:=by rfl) (hpl:(backTo pos (starEach [.Name n q] X.env)).any (·.1)=false:=by rfl):PE X (.Call (.Name "isinstance" p) [a,.Name n q] [] pos) (dE X.K C τ (.d (.bl (px t x)))):=by
 refine peW (pw (AG t) hg (B.blt _ (by decide)) (by decide +kernel) (bL ha (bL (we (v:=.ty (tyN t)) hg' (B.blt _ hn) ht rfl h1 hdb) dX) he) (by decide) (by decide) he hpl) λσ H Q q=>?_
 obtain ⟨A,H₀,B,S,k⟩:=dJ q
 exact aO S λv H1 e1 d1=>⟨_,v,x,aL,rfl,d1,k _ H1 e1 .bl⟩
end
section
variable {K:PySem.W.Frag} {A:Addr->Prop} {H₀ H H':Hp} {τ:List Sl} {B:Nat->List Addr} {σ:L2.St}
theorem Sta.put (S:Sta K A H₀ τ B σ H) {i:Nat} {a:Addr} {xs ys:List D} {vs:List V} (hi:τ[i]?=some (.o xs)) (hB:B i=[a]) (d:aq K (hd H (own A B)) vs ys):Sta K A H₀ (τ.set i (.o ys)) B σ (upd H a (.lst vs)):=by
 have ha:own A B a:=.inr ⟨i,by rw [hB]; exact List.mem_singleton.mpr rfl⟩
 have ne:∀ b,b ≠ a->upd H a (.lst vs) b=H b:=λb h=>ax h
 have sm:aj (hd H (own A B)) (hd (upd H a (.lst vs)) (own A B)):=λb o z=>by
   obtain ⟨z1,z2⟩:=ak.mp z
   exact ak.mpr ⟨z1,by rw [ne b (λe=>z1 (e ▸ ha))]; exact z2⟩
 have f0:H₀ a=none:=S.fr i a (by rw [hB]; exact List.mem_singleton.mpr rfl)
 have hs:aj H₀ (upd H a (.lst vs)):=λb o z=>by rw [ne b (λe=>by rw [e,f0] at z; cases z)]; exact S.same b o z
 refine ⟨hs,by rw [List.length_set,S.len],λj t hj=>?_,S.fr,S.uq,S.ad,λj b hb=>?_⟩
 · by_cases ej:j=i
   · subst ej
     have hl:=(List.getElem?_eq_some_iff.mp hi).1
     rw [List.getElem?_set_self hl] at hj
     cases hj
     obtain ⟨a',vs',e1,e2,_,_⟩:=S.sl j _ hi
     rw [hB] at e1
     cases e1
     exact ⟨a,vs,hB,e2,aF,d.mono sm⟩
   · rw [List.getElem?_set_ne (λz=>ej z.symm)] at hj
     have q:=S.sl j t hj
     have off:∀ b ∈ B j,b ≠ a:=λb hb e=>ej (S.uq j i a (e ▸ hb) (by rw [hB]; exact List.mem_singleton.mpr rfl))
     cases t with
     | un=>exact q
     | d x=>obtain ⟨z,u,e,d⟩:=q; exact ⟨z,u,e,d.mono sm⟩
     | o zs=>
       obtain ⟨c,ws,z1,z2,z3,z4⟩:=q
       exact ⟨c,ws,z1,z2,by rw [ne c (off c (by rw [z1]; exact List.mem_singleton.mpr rfl))]; exact z3,z4.mono sm⟩
     | n t=>
       obtain ⟨z0,u,z1,z2⟩:=q
       exact ⟨z0,u,z1,z2.frame sm λb hb=>ne b (off b hb)⟩
     | x E=>
       obtain ⟨c,o,z1,z2,z3,z4⟩:=q
       exact ⟨c,o,z1,z2,by rw [ne c (off c (by rw [z1]; exact List.mem_singleton.mpr rfl))]; exact z3,E.mono sm z4⟩
 · by_cases e:b=a
   · subst e; exact ⟨_,aF⟩
   · rw [ne b e]; exact S.bd j b hb
theorem Sta.fz (S:Sta K A H₀ τ B σ H) {i:Nat} {s:Sl} {x:D} (hi:τ[i]?=some s) (hx:fzD s=some x):Sta K A H₀ (τ.set i (.d x)) (upB B i []) σ H:=
 S.less (λ_ z=>nomatch z) λG g hv=>by
   obtain ⟨u,e,d⟩:=(S.sl i s hi).den (G':=G) g (λb hb o ho=>hv b o hb (λz=>nomatch z) ho) hx
   exact ⟨rfl,u,e,d⟩
end
section
variable {X:Cx} {C:Bool} {τ:List Sl} {x y z:D} {a b e c:Expr} {es:List Expr} {pos p:Pos} {k:Nat} {s:Sl} {ds:List D} {N:Po} {st:Stmt} {rest body els:List Stmt}
theorem aM (h:N.nx τ):PSs X [] (dS X.K τ N):=iY jb λD σ H ⟨A,H₀,B,S,M⟩=>M.nx τ B σ H h S
theorem a6 {M:List Sl->Prop} (h1:PS X st (dS X.K τ { N with nx:=M })) (h2:∀ τ',M τ'->PSs X rest (dS X.K τ' N)):PSs X (st :: rest) (dS X.K τ N):=by
 have h:PSs X rest λD σ H=>∃ τ',M τ'/\dS X.K τ' N D σ H:=λpins s σ H D I ⟨τ',m,q⟩=>h2 τ' m pins s σ H D I q
 exact iY (ft h1 h) λD σ H ⟨A,H₀,B,S,Me⟩=>⟨A,H₀,B,S,λτ' B' σ' H' m S'=>⟨τ',m,A,H₀,B',S',Me⟩,Me.bk,Me.ct,Me.rt,Me.xc⟩
theorem Az (i:Nat) {s:Sl} {x:D} (h:PSs X rest (dS X.K (τ.set i (.d x)) N)) (hi:τ[i]?=some s:=by rfl) (hx:fzD s=some x:=by rfl):PSs X rest (dS X.K τ N):=iY h λD σ H ⟨A,H₀,B,S,Me⟩=>⟨A,H₀,_,S.fz hi hx,Me⟩
theorem az (i:Nat) {n:Str} {p:Pos} (hN:X.N.Nodup) (he:PE X e (dE X.K true τ s)) (hr:PSs X rest (dS X.K (τ.set i s) N)) (hi:X.N[i]?=some n:=by rfl) (hx:Loc X.env.scope n:=by first | exact .inl rfl | exact .inr rfl) (hs:swapsWith e (some (.Name n p)) pos.line X.env=pure false:=by rfl)
   (hf:X.fn n=true\/X.env.scope.names.lookup n=some .local:=by first | exact .inl rfl | exact .inr rfl | assumption):PSs X (.Assign [.Name n p] e pos :: rest) (dS X.K τ N):=
 a6 (M:=(·=τ.set i s)) (psW (tY hN hi hx he hs hf) λD σ H ⟨A,H₀,B,S,Me⟩=>⟨A,H₀,B,S,λv H' bs e hf h=>Me.nx _ _ _ _ rfl (S.set e hf h)⟩) λ_ e=>e ▸ hr
theorem ku (he:PE X e (dE X.K true τ s)) (hr:PSs X rest (dS X.K τ N)) (hs:swapsWith e none pos.line X.env=pure false:=by rfl):PSs X (.Expr e pos :: rest) (dS X.K τ N):=
 a6 (M:=(·=τ)) (psW (fL he hs) λD σ H ⟨A,H₀,B,S,Me⟩=>⟨A,H₀,B,S,λv H' bs e hf h=>Me.nx _ _ _ _ rfl (S.mono e)⟩) λ_ e=>e ▸ hr
theorem aK (he:PE X e (dE X.K false τ s)) (h:N.rt s):PSs X (.Return (some e) pos :: rest) (dS X.K τ N):=
 a6 (M:=λ_=>False) (psW (pD he) λD σ H ⟨A,H₀,B,S,Me⟩=>⟨A,H₀,B,S,λv H' bs e hf q=>Me.rt v H' bs s h (S.same.trans e) (λb hb=>⟨S.same.free (hf b hb).1,(hf b hb).2⟩) q⟩) λ_ e=>e.elim
theorem iI (i:Nat) {n:Str} (h:N.rt s) (hi:τ[i]?=some s:=by rfl) (h0:s ≠ .un:=by exact nofun) (hN:X.N[i]?=some n:=by rfl) (hv:Vis X.env.scope n:=by first | exact Or.inl rfl | exact Or.inr (Or.inl rfl) | exact Or.inr (Or.inr rfl))
   (hd:(n == ("__debug__" : Str))=false:=by decide) (hcd:(n == ("__classdict__" : Str))=false:=by decide):PSs X (.Return (some (.Name n p)) pos :: rest) (dS X.K τ N):=
 a6 (M:=λ_=>False) (psW (pD (bN hN hv hd hcd)) λD σ H ⟨A,H₀,B,S,Me⟩=>by
   have q:=S.sl i s hi
   obtain ⟨u,e⟩:∃ u,(σ[i]?).join=some u:=by
     cases s with
     | un=>exact absurd rfl h0
     | d x=>obtain ⟨_,u,e,_⟩:=q; exact ⟨u,e⟩
     | o xs=>obtain ⟨_,_,_,e,_⟩:=q; exact ⟨_,e⟩
     | n t=>obtain ⟨_,u,e,_⟩:=q; exact ⟨u,e⟩
     | x E=>obtain ⟨_,_,_,e,_⟩:=q; exact ⟨_,e⟩
   rw [e] at q
   exact ⟨u,slot_of e,Me.rt u H (B i) s h S.same (λb hb=>⟨S.fr i b hb,S.bd i b hb⟩) (q.mono (au (aj.refl _) λb z=>z.elim .inl λz=>.inr ⟨i,z⟩) (aj.refl _))⟩) λ_ e=>e.elim
theorem yU {H H':Hp} {σ:L2.St} {D:Ends} {A:Addr->Prop} {H₀:Hp} {B:Nat->List Addr} (S:Sta X.K A H₀ τ B σ H) (Me:Meets X.K A H₀ N D) (e:aj H H'):dS X.K τ N D σ H':=⟨A,H₀,B,S.mono e,Me⟩
theorem Dl {t:Bool} (hc:PT X c (dT X.K τ t)) (ha:t=true->PSs X body (dS X.K τ N)) (hb:t=false->PSs X els (dS X.K τ N)):PS X (.If c body els pos) (dS X.K τ N):=by
 cases t with
 | true=>exact psW (r6 hc (ha rfl) dQ) λD σ H ⟨A,H₀,B,S,Me⟩=>⟨A,H₀,B,S,λH' e=>qi (yU S Me e)⟩
 | false=>exact psW (r6 hc dQ (hb rfl)) λD σ H ⟨A,H₀,B,S,Me⟩=>⟨A,H₀,B,S,λH' e=>sH (yU S Me e)⟩
theorem jK {t:Bool} {M:List Sl->Prop} (hc:PT X c (dT X.K τ t)) (ha:t=true->PSs X body (dS X.K τ { N with nx:=M })) (hb:t=false->PSs X els (dS X.K τ { N with nx:=M })) (hr:∀ τ',M τ'->PSs X rest (dS X.K τ' N)):PSs X (.If c body els pos :: rest) (dS X.K τ N):=
 a6 (Dl hc ha hb) hr
theorem eZ {t:Bool} (hc:PT X c (dT X.K τ t)) (ha:t=true->PSs X body (dS X.K τ { N with nx:=λ_=>False })) (hr:t=false->PSs X rest (dS X.K τ N)):PSs X (.If c body [] pos :: rest) (dS X.K τ N):=by
 cases t with
 | true=>exact jK (M:=λ_=>False) hc ha (λz=>nomatch z) λ_ z=>z.elim
 | false=>exact jK (M:=(·=τ)) hc (λz=>nomatch z) (λ_=>aM rfl) λ_ e=>e ▸ hr rfl
theorem cM {t:Bool} (hc:PT X c (dT X.K τ t)) (ht:t=false) (hr:PSs X rest (dS X.K τ N)):PSs X (.If c body [] pos :: rest) (dS X.K τ N):=eZ hc (λz=>by rw [ht] at z; cases z) λ_=>hr
theorem kX (i:Nat) {n:Str} {xs:List D} {ap cp:Pos} (he:PE X e (dE X.K true τ (.d x))) (hl:xs.length < 1000000) (hr:PSs X rest (dS X.K (τ.set i (.o (xs++[x]))) N)) (hi:τ[i]?=some (.o xs):=by rfl) (hN:X.N[i]?=some n:=by rfl)
   (hv:Vis X.env.scope n:=by first | exact Or.inl rfl | exact Or.inr (Or.inl rfl) | exact Or.inr (Or.inr rfl)) (hd:(n == ("__debug__" : Str))=false:=by decide) (hcd:(n == ("__classdict__" : Str))=false:=by decide)
   (hfew:((backTo cp (starEach [e] X.env)).all (λx=>!x.1) && (backToKw cp (keywordEach [] X.env)).all (λx=>x.1.isSome) && decide (([e]:List Expr).length + ([]:List Keyword).length + (if ([]:List Keyword).isEmpty then 0 else 1) < 30))=true:=by rfl)
   (hline:(ap.endLine == cp.line)=true:=by rfl) (hst:starEach [e] X.env=(false,eval e X.env) :: starEach [] X.env:=by rfl) (hpl:(backTo cp (starEach [] X.env)).any (·.1)=false:=by rfl)
   (hs:swapsWith (.Call (.Attribute (.Name n p) "append" ap) [e] [] cp) none pos.line X.env=pure false:=by rfl) (hbase:attributeBase (.Name n p) "append" X.env (eval (.Name n p) X.env)=eval (.Name n p) X.env:=by rfl) :
   PSs X (.Expr (.Call (.Attribute (.Name n p) "append" ap) [e] [] cp) pos :: rest) (dS X.K τ N):=
 a6 (M:=(·=τ.set i (.o (xs++[x])))) (psW (fL (n8 PySem.F.plainAttrs_list PySem.F.slot_list_append PySem.F.type_list_append fK (bN hN hv hd hcd) (bL he dX hst) hbase hfew hline hst hpl) hs) λD σ H ⟨A,H₀,B,S,Me⟩=>by
   obtain ⟨l,vs,hb,e1,e2,d⟩:=S.sl i _ hi
   refine ⟨_,slot_of e1,.inl ⟨rfl,_,SqL.of e2⟩,aO S λv H1 e3 d1=>⟨l,vs,v,rfl,rfl,e3 _ _ e2,by rw [d.length]; exact Nat.lt_trans hl (by decide),?_⟩⟩
   exact Me.nx _ _ _ _ rfl ((S.mono e3).put hi hb ((d.mono (au e3 λ_ z=>z)).append (.cons d1 .nil)))) λ_ e=>e ▸ hr
theorem je {K:PySem.W.Frag} {H:Hp}:∀ {vs:List V} {ds:List D} {v:V} {d:D} (j:Nat),aq K H vs ds->Den K H v d->aq K H (vs.set j v) (ds.set j d)
 | _,_,_,_,_,.nil,_=>.nil
 | _,_,_,_,0,.cons _ r,h=>.cons h r
 | _,_,_,_,j + 1,.cons h' r,h=>.cons h' (je j r h)
theorem Cz (i:Nat) {n:Str} {xs:List D} {m:Int} {j:Nat} {ix:Expr} {sp:Pos} (hx:PE X ix (dE X.K false τ (.d (.int m)))) (he:PE X e (dE X.K true τ (.d x))) (hj:ixN xs.length m=some j) (hr:PSs X rest (dS X.K (τ.set i (.o (xs.set j x))) N)) (hi:τ[i]?=some (.o xs):=by rfl) (hN:X.N[i]?=some n:=by rfl)
   (hv:Vis X.env.scope n:=by first | exact Or.inl rfl | exact Or.inr (Or.inl rfl) | exact Or.inr (Or.inr rfl)) (hd:(n == ("__debug__" : Str))=false:=by decide) (hcd:(n == ("__classdict__" : Str))=false:=by decide)
   (hs:swapsWithSole [.Subscript (.Name n p) ix sp] e pos.line X.env=pure false:=by rfl) (hw:swappedStores [.Subscript (.Name n p) ix sp] e X.env=pure none:=by rfl) (h1:(assignEach [.Subscript (.Name n p) ix sp] X.env).map (·.2)=[assign (.Subscript (.Name n p) ix sp) X.env]:=by rfl)
   (ha:∀ v,assign (.Subscript (.Name n p) ix sp) X.env v=(do
     let ov <- holding [v] (eval (.Name n p) X.env)
     let iv <- holding [v,ov] (eval ix X.env)
     standAt sp
     holding [v,ov,iv] (setItem ov iv v)
     release [v,ov,iv] []):=by intro _; rfl) :
   PSs X (.Assign [.Subscript (.Name n p) ix sp] e pos :: rest) (dS X.K τ N):=
 a6 (M:=(·=τ.set i (.o (xs.set j x)))) (psW (mU he (pX (bN hN hv hd hcd) hx set_list ha) hs hw h1) λD σ H ⟨A,H₀,B,S,Me⟩=>aO S λv H1 e1 d1=>by
   obtain ⟨l,vs,hb,f1,f2,d⟩:=(S.mono e1).sl i _ hi
   refine ⟨_,slot_of f1,aO (S.mono e1) λw H2 e2 d2=>?_⟩
   cases d2
   refine ⟨l,vs,m,j,rfl,rfl,e2 _ _ f2,by rw [d.length]; exact hj,?_⟩
   exact Me.nx _ _ _ _ rfl (((S.mono e1).mono e2).put hi hb (je j (d.mono (au e2 λ_ z=>z)) (d1.mono (au e2 λ_ z=>z))))) λ_ e=>e ▸ hr
end
end Hy
namespace Hy
open PySem PySem.Spec PyProof.Rows L2
open Ev (D Den aq ai aX aI Ite Itz AV Ah nF qm aH eJ di PTs cP dR)
noncomputable def Yl (K:PySem.W.Frag) (J:L2.It) (xs:List D) (G:Hp):Prop:=∀ H,aj G H->(∀ i,xs.length<=i->J.stop i H)/\∀ (i:Nat) (h:i < xs.length),J.go i H /\
 ∀ x H',J.yld i H x H'->aj H H'/\∀ M:Addr->Prop,(∀ b,M b->∃ o,H b=some o)->aj G (hd H M)->Den K (hd H' M) x xs[i]
noncomputable def dI (K:PySem.W.Frag) (τ:List Sl) (xs:List D):TI:=λσ H R=>∃ A H₀ B,Sta K A H₀ τ B σ H/\∀ J H',aj H H'->Yl K J xs (hd H' (own A B))->R J H'
noncomputable def dG (K:PySem.W.Frag) (τ:List Sl) (x:D) (τ':List Sl):TG:=λv σ H Q=>∃ A H₀ B,Sta K A H₀ τ B σ H/\Den K (hd H (own A B)) v x/\∀ σ' B',Sta K A H₀ τ' B' σ' H->Q σ' H
theorem piW {X:Cx} {tg e:Expr} {t t':TI} (h:PI X tg e t) (f:∀ σ H Q,t' σ H Q->t σ H Q):PI X tg e t':=λpins s σ H Q I q=>h pins s σ H Q I (f σ H Q q)
theorem pgW {X:Cx} {e:Expr} {t t':TG} (h:PG X e t) (f:∀ v σ H Q,t' v σ H Q->t v σ H Q):PG X e t':=λpins s σ H v u Q I r q=>h pins s σ H v u Q I r (f v σ H Q q)
section
variable {K:PySem.W.Frag} {G:Hp} {a:Addr} {vs:List V} {xs:List D}
theorem xp (h:SqL K G a vs) (r:aq K G vs xs):Yl K (Itl K a) xs G:=by
 intro H sg
 have hl:=r.length
 refine ⟨λi hi=>⟨vs,aI sg h,by omega⟩,λi hi=>?_⟩
 obtain ⟨v,hv,dv⟩:=r.get (List.getElem?_eq_getElem hi)
 refine ⟨⟨vs,v,aI sg h,hv⟩,λx H' ⟨e1,e2⟩=>?_⟩
 subst e1
 have ex:x=v:=by have:=e2 vs (aI sg h); rw [hv] at this; exact (Option.some.inj this).symm
 subst ex
 exact ⟨aj.refl _,λM _ sv=>dv.mono sv⟩
noncomputable def fP (lo:Int) (n:Nat):List D:=(List.range n).map λk=>D.int (lo + (k:Nat))
theorem av (lo:Int) (n:Nat):(fP lo n).length=n:=by simp [fP]
theorem fJ (lo:Int) (n i:Nat) (h:i < (fP lo n).length):(fP lo n)[i]=.int (lo + (i:Nat)):=by simp [fP]
theorem uD (lo:Int) (n:Nat):Yl K (Itr lo n) (fP lo n) G:=by
 intro H sg
 refine ⟨λi hi=>by rw [av] at hi; exact hi,λi hi=>?_⟩
 have hi':i < n:=by rw [av] at hi; exact hi
 refine ⟨hi',λx H' ⟨e1,e2⟩=>?_⟩
 subst e1 e2
 refine ⟨aj.refl _,λM _ sv=>?_⟩
 rw [fJ]
 exact .int
noncomputable def m8 (xs:List D):List D:=(List.range xs.length).map λi=>D.tup [.int (i:Nat),xs.getD i .non]
theorem cV (xs:List D):(m8 xs).length=xs.length:=by simp [m8]
theorem lZ (xs:List D) (i:Nat) (h:i < (m8 xs).length):(m8 xs)[i]=.tup [.int (i:Nat),xs.getD i .non]:=by simp [m8]
theorem AA (h:SqL K G a vs) (r:aq K G vs xs):Yl K (Ite K a) (m8 xs) G:=by
 intro H sg
 have hl:=r.length
 have el:=cV xs
 refine ⟨λi hi=>⟨vs,aI sg h,by omega⟩,λi hi=>?_⟩
 have hi':i < xs.length:=by omega
 obtain ⟨v,hv,dv⟩:=r.get (List.getElem?_eq_getElem hi')
 refine ⟨⟨vs,v,aI sg h,hv⟩,λy H' ⟨p,x,hp,e0,e1,e2⟩=>?_⟩
 subst e0 e1
 have ex:x=v:=by have:=e2 vs (aI sg h); rw [hv] at this; exact (Option.some.inj this).symm
 subst ex
 refine ⟨ai hp _,λM hM sv=>?_⟩
 rw [lZ,show xs.getD i .non=xs[i] by simp [List.getD,hi']]
 exact .tup (SqT.of (j6 hM hp)) (.cons .int (.cons (dv.mono (sv.trans (au (ai hp _) λ_ z=>z))) .nil))
end
section
variable {X:Cx} {C:Bool} {τ:List Sl} {x y z:D} {a b e c tg it:Expr} {es:List Expr} {pos p q:Pos} {k:Nat} {s:Sl} {xs:List D} {N:Po} {st:Stmt} {rest body els:List Stmt}
theorem aR (h:PE X it (dE X.K true τ (.d (.lst xs)))) (hc:X.calm=true:=by first | rfl | assumption):PI X tg it (dI X.K τ xs):=piW (yc hc h) λσ H R ⟨A,H₀,B,S,k⟩=>aO S λv H1 e1 d1=>by
 cases d1 with
 | lst h r=>exact ⟨_,rfl,⟨_,aI aL h⟩,k _ H1 e1 (xp h r)⟩
theorem cH {n:Int} (B:Bk X k) (h:PE X a (dE X.K false τ (.d (.int n)))) (h1:-(2 ^ 62)<=n) (h2:n < 2 ^ 62) (hg:Gl X "range":=by rfl) (hs:starEach [a] X.env=[(false,eval a X.env)]:=by rfl):PI X tg (.Call (.Name "range" p) [a] [] pos) (dI X.K τ (fP 0 n.toNat)):=
 piW (tM (.inl B.calm) hg (B.blt _ (by decide)) (ab h af hs) hs) λσ H R ⟨A,H₀,B,S,k⟩=>fq S λvs H1 e1 d1=>by
   cases d1 with
   | cons d r=>
     cases r
     cases d
     exact ⟨n,rfl,h1,h2,k _ H1 e1 (uD 0 _)⟩
theorem kf {m n:Int} (B:Bk X k) (h:PE X a (dE X.K false τ (.d (.int m)))) (h':PE X b (dE X.K false τ (.d (.int n)))) (h1:-(2 ^ 62)<=m/\m < 2 ^ 62/\-(2 ^ 62)<=n/\n < 2 ^ 62) (hg:Gl X "range":=by rfl) (hs:starEach [a,b] X.env=[(false,eval a X.env),(false,eval b X.env)]:=by rfl)
   (hs2:starEach [b] X.env=[(false,eval b X.env)]:=by rfl):PI X tg (.Call (.Name "range" p) [a,b] [] pos) (dI X.K τ (fP m (n - m).toNat)):=
 piW (sV (.inl B.calm) hg (B.blt _ (by decide)) (ab h (ab h' af hs2) (by rw [hs,hs2])) hs hs2) λσ H R ⟨A,H₀,B,S,k⟩=>fq S λvs H1 e1 d1=>by
   cases d1 with
   | cons d r=>
     cases r with
     | cons d' r=>
       cases r
       cases d
       cases d'
       exact ⟨m,n,rfl,h1,k _ H1 e1 (uD m _)⟩
theorem yz {ts:List Expr} {m:Nat} {tp:Pos} (B:Bk X k) (h:PE X a (dE X.K true τ (.d (.lst xs)))) (hg:Gl X "enumerate":=by rfl) (hs:starEach [a] X.env=[(false,eval a X.env)]:=by rfl):PI X (.Tuple ts m tp) (.Call (.Name "enumerate" p) [a] [] pos) (dI X.K τ (m8 xs)):=
 piW (nF B.calm hg (B.blt _ (by decide)) (ab h af hs) hs) λσ H R ⟨A,H₀,B,S,k⟩=>fq S λvs H1 e1 d1=>by
   cases d1 with
   | cons d r=>
     cases r
     cases d with
     | lst h r=>exact ⟨_,rfl,⟨_,aI aL h⟩,k _ H1 e1 (AA h r)⟩
theorem wy (i:Nat) {n:Str} (hN:X.N.Nodup) (hi:X.N[i]?=some n:=by rfl) (hx:Loc X.env.scope n:=by first | exact .inl rfl | exact .inr rfl) (hf:X.fn n=true\/X.env.scope.names.lookup n=some .local:=by first | exact .inl rfl | exact .inr rfl | assumption):PG X (.Name n p) (dG X.K τ x (τ.set i (.d x))):=
 pgW (da (i:=i) hN hi hx hf) λv σ H Q ⟨A,H₀,B,S,d,k⟩=>k _ _ (S.set (aj.refl _) (bs:=[]) (λ_ z=>nomatch z) (iU d))
theorem yw (i j:Nat) {n m:Str} {p2 pt:Pos} {md:Nat} (hc:X.calm=true) (hN:X.N.Nodup) (hi:X.N[i]?=some n:=by rfl) (hj:X.N[j]?=some m:=by rfl) (hx:Loc X.env.scope n:=by first | exact .inl rfl | exact .inr rfl) (hy:Loc X.env.scope m:=by first | exact .inl rfl | exact .inr rfl)
   (hf:X.fn n=true\/X.env.scope.names.lookup n=some .local:=by first | exact .inl rfl | exact .inr rfl | assumption) (hf':X.fn m=true\/X.env.scope.names.lookup m=some .local:=by first | exact .inl rfl | exact .inr rfl | assumption) :
   PG X (.Tuple [.Name n p,.Name m p2] md pt) (dG X.K τ (.tup [x,y]) ((τ.set i (.d x)).set j (.d y))):=by
 refine pgW (vL hc (j8 (da (i:=i) hN hi hx hf) (j8 (da (i:=j) hN hj hy hf') rW))) λv σ H Q ⟨A,H₀,B,S,d,k⟩=>?_
 cases d with
 | tup h r=>
   cases r with
   | cons d1 r=>
     cases r with
     | cons d2 r=>
       cases r
       have S1:=S.set (i:=i) (aj.refl _) (bs:=[]) (λ_ z=>nomatch z) (iU d1)
       have sub:∀ b,own A (upB B i []) b->own A B b:=λb z=>z.elim .inl λ⟨j,z⟩=>(aV z).elim (λz=>nomatch z.2) λz=>.inr ⟨j,z.2⟩
       exact ⟨_,_,rfl,aX aL h,rfl,_,_,rfl,_,_,rfl,rfl,k _ _ (S1.set (i:=j) (aj.refl _) (bs:=[]) (λ_ z=>nomatch z) (iU (d2.mono (au (aj.refl _) sub))))⟩
theorem Sta.base {K:PySem.W.Frag} {A:Addr->Prop} {H₀ H:Hp} {τ:List Sl} {B:Nat->List Addr} {σ:L2.St} (S:Sta K A H₀ τ B σ H):aj H₀ (hd H λb=>∃ i,b ∈ B i)/\Sta K A (hd H λb=>∃ i,b ∈ B i) τ B σ H:=by
 have s0:aj H₀ (hd H λb=>∃ i,b ∈ B i):=λb o h=>ak.mpr ⟨λ⟨i,z⟩=>(by rw [S.fr i b z] at h; cases h),S.same _ _ h⟩
 exact ⟨s0,aL,S.len,S.sl,λi b hb=>by
   cases e:hd H (λb=>∃ i,b ∈ B i) b with
   | none=>rfl
   | some o=>exact absurd ⟨i,hb⟩ (ak.mp e).1,S.uq,λb hb=>let ⟨o,q⟩:=S.ad b hb; ⟨o,s0 _ _ q⟩,S.bd⟩
theorem Sta.back {K:PySem.W.Frag} {A:Addr->Prop} {H₀ G H:Hp} {τ:List Sl} {B:Nat->List Addr} {σ:L2.St} (S:Sta K A G τ B σ H) (s:aj H₀ G) (ad:∀ b,A b->∃ o,H₀ b=some o):Sta K A H₀ τ B σ H:=
 ⟨s.trans S.same,S.len,S.sl,λi b hb=>s.free (S.fr i b hb),S.uq,ad,S.bd⟩
theorem yo {M:Nat->List Sl->Prop} {T:Nat->List Sl->List Sl} (B:Bk X k) (hi:PI X tg it (dI X.K τ xs)) (h0:M 0 τ) (hg:∀ i (h:i < xs.length) τ',M i τ'->PG X tg (dG X.K τ' xs[i] (T i τ')))
   (hb:∀ i,i < xs.length->∀ τ',M i τ'->PSs X body (dS X.K (T i τ') { N with nx:=M (i + 1),ct:=M (i + 1),bk:=N.nx })) (hn:∀ τ',M xs.length τ'->N.nx τ')
   (hs:∀ x,foldedSetIterable it X.env x=pure x:=by intro _; rfl):PS X (.For tg it body [] pos) (dS X.K τ N):=by
 have hg':PG X tg λv σ H Q=>∃ (i:Nat) (h:i < xs.length) (τ':List Sl),M i τ'/\dG X.K τ' xs[i] (T i τ') v σ H Q:=λpins s σ H v u Q I r ⟨i,h,τ',m,q⟩=>hg i h τ' m pins s σ H v u Q I r q
 have hb':PSs X body λD σ H=>∃ i τ',i < xs.length/\M i τ'/\dS X.K (T i τ') { N with nx:=M (i + 1),ct:=M (i + 1),bk:=N.nx } D σ H:=λpins s σ H D I ⟨i,τ',h,m,q⟩=>hb i h τ' m pins s σ H D I q
 refine psW (uK B.po hi hg' hb' hs) λD σ H ⟨A,H₀,B,S,Me⟩=>⟨A,H₀,B,S,λJ H1 e1 yl=>?_⟩
 obtain ⟨s0,S1⟩:=(S.mono e1).base
 have sub:∀ {H'},aj (hd H1 λb=>∃ i,b ∈ B i) H'->aj (hd H1 (own A B)) H':=λe=>(au (aj.refl _) λ_ z=>.inr z).trans e
 refine ⟨λi m σ' H'=>m=xs.length - i/\i<=xs.length/\∃ τ' B',M i τ'/\Sta X.K A (hd H1 λb=>∃ i,b ∈ B i) τ' B' σ' H',⟨xs.length,rfl,Nat.zero_le _,τ,B,h0,S1⟩,?_⟩
 rintro i m σ' H' ⟨rfl,hi,τ',B',hM,S'⟩
 obtain ⟨y1,y2⟩:=yl H' (sub S'.same)
 by_cases hlt:i < xs.length
 · obtain ⟨g,y⟩:=y2 i hlt
   refine .inr ⟨g,λσ2 H2=>∃ τ2 B2,M (i + 1) τ2/\Sta X.K A (hd H1 λb=>∃ i,b ∈ B i) τ2 B2 σ2 H2,λσ2 H2 q=>⟨xs.length - (i + 1),by omega,rfl,hlt,q⟩,λx H2 hy=>?_⟩
   obtain ⟨e2,dx⟩:=y x H2 hy
   have S2:=S'.mono e2
   refine ⟨i,hlt,τ',hM,A,_,B',S2,dx (own A B') S'.dm ?_,λσ3 B3 S3=>⟨i,τ',hlt,hM,A,_,B3,S3,?_⟩⟩
   · intro b o z
     obtain ⟨z1,z2⟩:=ak.mp z
     have z3:hd H1 (λb=>∃ i,b ∈ B i) b=some o:=ak.mpr ⟨λy=>z1 (.inr y),z2⟩
     refine ak.mpr ⟨λy=>?_,S'.same _ _ z3⟩
     rcases y with y | ⟨l,y⟩
     · exact z1 (.inl y)
     · rw [S'.fr l b y] at z3; cases z3
   · exact ⟨λτ3 B3 σ3 H3 m S3=>⟨τ3,B3,m,S3⟩,λτ3 B3 σ3 H3 m S3=>Me.nx τ3 B3 σ3 H3 m (S3.back s0 S.ad),λτ3 B3 σ3 H3 m S3=>⟨τ3,B3,m,S3⟩,
       λv H3 bs s3 hr e3 hf q=>Me.rt v H3 bs s3 hr (s0.trans e3) (λb hb=>⟨s0.free (hf b hb).1,(hf b hb).2⟩) q,λH3 e3=>Me.xc H3 (s0.trans e3)⟩
 · have e:i=xs.length:=by omega
   subst e
   exact .inl ⟨y1 _ (Nat.le_refl _),Me.nx τ' B' σ' H' (hn τ' hM) (S'.back s0 S.ad)⟩
theorem bE (j:Nat) {n:Str} (M:Nat->List Sl->Prop) {g:Nat->D} (B:Bk X k) (hN:X.N.Nodup) (hi:PI X (.Name n p) it (dI X.K τ xs)) (hx:∀ i (h:i < xs.length),xs[i]=g i) (h0:M 0 τ)
   (hb:∀ i,i < xs.length->∀ τ',M i τ'->PSs X body (dS X.K (τ'.set j (.d (g i))) { N with nx:=M (i + 1),ct:=M (i + 1),bk:=λ_=>False }))
   (hr:∀ τ',M xs.length τ'->PSs X rest (dS X.K τ' N)) (hs:∀ x,foldedSetIterable it X.env x=pure x:=by intro _; rfl) (hi':X.N[j]?=some n:=by rfl) (hl:Loc X.env.scope n:=by first | exact .inl rfl | exact .inr rfl)
   (hf:X.fn n=true\/X.env.scope.names.lookup n=some .local:=by first | exact .inl rfl | exact .inr rfl | assumption):PSs X (.For (.Name n p) it body [] pos :: rest) (dS X.K τ N):=
 a6 (M:=M xs.length) (yo (M:=M) (T:=λi τ'=>τ'.set j (.d (g i))) B hi h0 (λi h τ' m=>by rw [hx i h]; exact wy j hN hi' hl hf)
   (λi h τ' m=>iY (hb i h τ' m) λD σ H ⟨A,H₀,B,S,Me⟩=>⟨A,H₀,B,S,Me.nx,λ_ _ _ _ z=>z.elim,Me.ct,Me.rt,Me.xc⟩) (λ_ m=>m) hs) hr
theorem pF (j l:Nat) {n m:Str} {p2 pt:Pos} {md:Nat} (M:Nat->List Sl->Prop) {g g':Nat->D} (B:Bk X k) (hN:X.N.Nodup) (hi:PI X (.Tuple [.Name n p,.Name m p2] md pt) it (dI X.K τ xs)) (hx:∀ i (h:i < xs.length),xs[i]=.tup [g i,g' i]) (h0:M 0 τ)
   (hb:∀ i,i < xs.length->∀ τ',M i τ'->PSs X body (dS X.K ((τ'.set j (.d (g i))).set l (.d (g' i))) { N with nx:=M (i + 1),ct:=M (i + 1),bk:=λ_=>False }))
   (hr:∀ τ',M xs.length τ'->PSs X rest (dS X.K τ' N)) (hs:∀ x,foldedSetIterable it X.env x=pure x:=by intro _; rfl) (hi':X.N[j]?=some n:=by rfl) (hj':X.N[l]?=some m:=by rfl) (hl:Loc X.env.scope n:=by first | exact .inl rfl | exact .inr rfl) (hl':Loc X.env.scope m:=by first | exact .inl rfl | exact .inr rfl)
   (hf:X.fn n=true\/X.env.scope.names.lookup n=some .local:=by first | exact .inl rfl | exact .inr rfl | assumption) (hf':X.fn m=true\/X.env.scope.names.lookup m=some .local:=by first | exact .inl rfl | exact .inr rfl | assumption):PSs X (.For (.Tuple [.Name n p,.Name m p2] md pt) it body [] pos :: rest) (dS X.K τ N):=
 a6 (M:=M xs.length) (yo (M:=M) (T:=λi τ'=>(τ'.set j (.d (g i))).set l (.d (g' i))) B hi h0 (λi h τ' m=>by rw [hx i h]; exact yw j l B.calm hN hi' hj' hl hl' hf hf')
   (λi h τ' m=>iY (hb i h τ' m) λD σ H ⟨A,H₀,B,S,Me⟩=>⟨A,H₀,B,S,Me.nx,λ_ _ _ _ z=>z.elim,Me.ct,Me.rt,Me.xc⟩) (λ_ m=>m) hs) hr
theorem cE {n:Nat} (i:Nat) (h:i < (fP 0 n).length):(fP 0 n)[i]=.int (i:Nat):=by rw [fJ,Int.zero_add]
theorem k5 {bs:List Int} (i:Nat) (h:i < (bs.map D.int).length):(bs.map D.int)[i]=.int (bs.getD i 0):=by
 have:i < bs.length:=by simpa using h
 simp [this]
theorem Cp {bs:List Int} (i:Nat) (h:i < (m8 (bs.map D.int)).length):(m8 (bs.map D.int))[i]=.tup [.int (i:Nat),.int (bs.getD i 0)]:=by
 have:i < bs.length:=by rw [cV] at h; simpa using h
 rw [lZ]
 simp [this]
end
end Hy
namespace Ev
open PySem PySem.Spec PyProof.Rows L2
theorem gD {X:Cx} {gT:TG} {y:Str} {py spos:Pos} {elt tg iter:Expr} {ifs:List Expr} {scope:Scope} {N:List Str} {caps:List (Option Nat)} {pos:Pos} {wi:TI} {In:TG->TT->TE->Prop} (hT:PG X (.Name y py) gT) (c:di X scope N caps) (hi:PI X tg iter wi)
   (hs:∀ x,foldedSetIterable iter X.env x=pure x)
   (hin:∀ g tt te,In g tt te->∀ s H fp,PG (aH X s H scope N fp) tg g/\PTs (aH X s H scope N fp) ifs tt/\PE (aH X s H scope N fp) elt te)
   (hsw:swapsWith (.ListComp elt [⟨tg,iter,ifs,0⟩] scope pos) (some (.Name y py)) spos.line X.env=pure true) :
   PS X (.Assign [.Name y py] (.ListComp elt [⟨tg,iter,ifs,0⟩] scope pos) spos) (AM (dR In caps wi) gT):=by
 intro pins s σ H D I h
 rw [exec_Assign_Name_used _ _ _ _ hsw]
 refine wpAny_bind (wpAny_standAt (wpAny_bind ?_))
 show wpAny _ _ (do let _ <- comprehension (.ListComp elt [⟨tg,iter,ifs,0⟩] scope pos) scope X.env _ (newList []) false _ (some (assign (.Name y py) X.env))) _ _ s
 refine wpAny_bind ?_
 have hcl:=rB (gA I c)
 refine wpAny_comprehension_free (use:=some (assign (.Name y py) X.env)) (Q:=λ_ s'=>wpAny (model X.prog X.w) X.A (pure ()) (λ_ s''=>wpAny (model X.prog X.w) X.A (pure Flow.next) (SP X pins D) X.xe s'') X.xe s') (g:=⟨tg,iter,ifs,0⟩) (gs:=[]) rfl hs hcl c.kind c.loc ?_
 show wpAny _ _ (eval iter X.env) _ _ s
 refine thn (hi pins s σ H _ I h) λv s1 h1=>thn h1 λitv s2 h2=>?_
 obtain ⟨kd,it,fp,tn,J,H2,e,I2,hck,T,st2,f2,g,tt,te,hI,q⟩:=h2
 have hc:=rf (scope:=scope) (N:=N) (fp:=fp) hck I2
 subst e
 obtain ⟨Z,⟨m0,z0⟩,turn⟩:=q s2.heap.objs.size (I2.hok.fresh (Nat.le_refl _))
 have ho:∀ b ∈ fp,∃ o,s2.heap.get? b=some o:=λb hb=>let ⟨o,e,_⟩:=T.obj _ _ st2 b hb; ⟨o,e⟩
 have I4:=nH (scope:=scope) (N:=N) (caps:=caps) I2 f2 ho c
 obtain ⟨hg,ht,he⟩:=hin g tt te hI s2 H2 fp
 refine wpAny_newObj_type (kY ?_) (by show 0<=sizeLine; decide)
 have hC:(s2.heap.push { cls:=.type "list",dict:=none,data:=.seq ([]:List Value).toArray }).objs.size=s2.heap.objs.size + 1:=Heap.size_push ..
 dsimp only
 rw [hC]
 have kp:∀ b o,s2.heap.get? b=some o->(pushCells ((s2.heap.push { cls:=.type "list",data:=.seq ([]:List Value).toArray }).push { cls:=.type "dict",data:=.dict #[] }) scope.names).get? b=some o:=λb o e=>
   pushCells_keeps _ _ b o (Heap.get?_push_of_some _ (Heap.get?_push_of_some _ e))
 have st4:tn 0 (pushCells ((s2.heap.push { cls:=.type "list",data:=.seq ([]:List Value).toArray }).push { cls:=.type "dict",data:=.dict #[] }) scope.names):=T.keep _ _ _ st2 λb _ o e=>kp b o e
 have stat:∀ {H':Hp},(∀ b ∈ fp,H' b=none)->∀ b ∈ fp,kB (aH X s2 H2 scope N fp) [] H' b:=λhn b hb=>
   ⟨hn b hb,(I4.ok.exf b hb).1,I4.ok.exfs b hb,.inl hb,(I4.ok.exf b hb).2,λp hp=>absurd (show p ∈ ([]:List (Addr × Obj)) from hp) (by simp)⟩
 have fr4:∀ b ∈ fp,(upd H2 s2.heap.objs.size (.lst [])) b=none:=λb hb=>by
   obtain ⟨o,e⟩:=ho b hb
   rw [ax (Nat.ne_of_lt (Heap.lt_size e))]; exact (f2 b hb).1
 have loop:codeAny (model X.prog X.w) X.A (.compLoop (.ListComp elt [⟨tg,iter,ifs,0⟩] scope pos) 0 (.ref it) (.ref s2.heap.objs.size) (aH X s2 H2 scope N fp).env)
     (compPost (model X.prog X.w) X.A X.xe (some (assign (.Name y py) X.env)) (λ_ s'=>wpAny (model X.prog X.w) X.A (pure ()) (λ_ s''=>wpAny (model X.prog X.w) X.A (pure Flow.next) (SP X pins D) X.xe s'') X.xe s') (.ref s2.heap.objs.size) (s2.heap.objs.size + 1))
     { s2 with heap:=pushCells ((s2.heap.push { cls:=.type "list",data:=.seq ([]:List Value).toArray }).push { cls:=.type "dict",data:=.dict #[] }) scope.names }:=by
   refine jC (λn s'=>∃ i σ' H',Inv (aH X s2 H2 scope N fp) [] σ' H' s'/\tn i s'.heap/\(∀ b ∈ fp,H' b=none)/\Z i n σ' H') ?_ m0 ⟨0,_,_,I4,st4,fr4,z0⟩
   rintro n s3 ⟨i,σ3,H3,I3,st3,fr3,w3⟩
   rcases turn i n σ3 H3 w3 with ⟨stop,qn⟩ | ⟨go,step⟩
   · refine thn (T.done (aH X s2 H2 scope N fp) rfl rfl rfl hc i [] s3 σ3 H3 _ I3 (stat fr3) st3 stop) λr s5 ⟨hr,I5⟩=>?_
     subst hr
     obtain ⟨m,hn,_⟩:=id I5.loc
     have I6:Inv X pins σ H3 s5:=by
       have lt:∀ b o,s2.heap.get? b=some o->b ≠ s2.heap.objs.size + 1:=λb o e=>Nat.ne_of_lt (Nat.lt_succ_of_lt (Heap.lt_size e))
       have u:=I5.base
       have u':Un (frs X.stack) fp H2 H3 s2.heap s5.heap:=⟨λb o e n1 n2 n3=>u.keep b o e n1 n2 n3,λb o e n1 n2 n3=>u.slot b o e n1 n2 n3,u.free,λb o e n1=>u.there b o e n1,u.tups,u.frzs,u.tbls⟩
       exact I2.yn (s':=s5) I5.os u' I5.hok I5.bare λb hb=>⟨(f2 b hb).2.2.2.1,(f2 b hb).2.1,(f2 b hb).2.2.2.2.1,(f2 b hb).2.2.2.2.2⟩
     have fC:H3 (s2.heap.objs.size + 1)=none:=I5.free
     have fk:kB X pins H3 (s2.heap.objs.size + 1):=I2.oJ (Nat.le_succ _) fC
     obtain ⟨oC,es,ep,hoC,hdC,rC⟩:=id hn
     have hpin:=I6.pinned (fp:=[s2.heap.objs.size + 1]) (λb hb=>by rw [List.mem_singleton.mp hb]; exact fk) (λb hb=>by rw [List.mem_singleton.mp hb]; exact ⟨oC,hoC,λv z=>by rw [hdC] at z; cases z⟩)
     have hmem:(s2.heap.objs.size + 1,oC) ∈ gy [s2.heap.objs.size + 1] s5.heap:=bT (List.mem_singleton_self _) hoC
     refine thn (hT _ s5 σ H3 (.ref s2.heap.objs.size) (.ref s2.heap.objs.size) _ hpin rfl qn) λ_ s6 ⟨σ6,H6,I7,q7⟩=>?_
     obtain ⟨p1,p2,p3,p4,p5⟩:=I7.pin _ (List.mem_append_right _ (List.mem_append_right _ hmem))
     refine ⟨m,⟨oC,es,ep,p1,hdC,rC⟩,λh' sb=>wpAny_pure (wpAny_pure ?_)⟩
     refine ⟨σ6,H6,?_,q7⟩
     exact (I7.dN).turned (t':=s6.toks) (it:=s2.heap.objs.size + 1) (λb o hb e=>(sb.2 b hb).trans e) p2 p3 fk.2.2.2.1 fk.2.2.2.2.1 fk.2.2.2.2.2
   · refine thn (T.item (aH X s2 H2 scope N fp) rfl rfl rfl hc i [] s3 σ3 H3 _ I3 (stat fr3) st3 go) λr s4 ⟨u,hr,h4⟩=>?_
     subst hr
     refine thn h4 λ_ s5 ⟨x,H5,I5,r5,y5,st5,fr5⟩=>?_
     have I5':=I5.pinned (stat fr5) (T.obj _ _ st5)
     refine thn (hg _ s5 σ3 H5 x u _ I5' r5 (step x H5 y5)) λ_ s6 ⟨σ6,H6,I6,q6⟩=>?_
     have again:∀ {s7:Shared} {σ7:L2.St} {H7:Hp} {m':Nat},Inv (aH X s2 H2 scope N fp) ([]++gy fp s5.heap) σ7 H7 s7->m' < n->Z (i + 1) m' σ7 H7 ->
         ∃ m,m < n/\∃ i σ' H',Inv (aH X s2 H2 scope N fp) [] σ' H' s7/\tn i s7.heap/\(∀ b ∈ fp,H' b=none)/\Z i m σ' H':=λ{s7 σ7 H7 m'} I7 hm z7=>by
       refine ⟨m',hm,i + 1,σ7,H7,I7.dN,T.keep _ _ _ st5 λb hb o e=>(I7.pin (b,o) (List.mem_append_right _ (List.mem_append_right _ (bT hb e)))).1,λb hb=>?_,z7⟩
       obtain ⟨o,e,d⟩:=T.obj _ _ st5 b hb
       exact (I7.pin (b,o) (List.mem_append_right _ (List.mem_append_right _ (bT hb e)))).2.1
     refine thn (ht _ s6 σ6 H6 _ I6 q6) λok s7 ⟨H7,I7,q7⟩=>?_
     cases ok with
     | false=>
       rw [if_neg (by decide)] at q7
       obtain ⟨m',hm,z7⟩:=q7
       exact again I7 hm z7
     | true=>
       rw [if_pos rfl] at q7
       refine thn (he _ s7 σ6 H7 _ I7 q7) λv' s8 ⟨v,H8,I8,r8,vs,m',q8,l8,hm,z8⟩=>?_
       refine thn (fK (X:=aH X s2 H2 scope N fp) _ s8 σ6 H8 (.ref s2.heap.objs.size) [v] (.ref s2.heap.objs.size) [v'] (λ_ H9=>H9=upd H8 s2.heap.objs.size (.lst (vs++[v]))) I8 rfl (.cons r8 .nil) ⟨_,vs,v,rfl,rfl,q8,l8,rfl⟩) λ_ s9 ⟨_,H9,I9,_,e9⟩=>?_
       subst e9
       exact again I9 hm z8
 exact codeAny_compStart_list loop (T.self _ 0 _ _ _ st4 loop)
end Ev
namespace Hy
open PySem PySem.Spec PyProof.Rows L2
open Ev (D Den aq ai aX aI aH eJ di PTs cP dR gD)
noncomputable def slot:List Str->Str->Option Nat
 | [],_=>none
 | y :: r,x=>if x=y then some 0 else (slot r x).map (· + 1)
theorem slot_get:∀ {N:List Str} {x:Str} {i:Nat},slot N x=some i->N[i]?=some x
 | [],_,_,h=>by cases h
 | y :: r,x,i,h=>by
   unfold slot at h
   split at h
   · cases h; rename_i e; rw [e]; rfl
   · cases e:slot r x with
     | none=>rw [e] at h; cases h
     | some j=>rw [e] at h; cases h; simpa using slot_get e
noncomputable def v8 (scope sc:Scope):Scope:={ scope with names:=scope.names.map λ(n,k)=>if (k == .free && sc.kind == .function && sc.names.lookup n == some .cell) then (n,.cell) else (n,k) }
noncomputable def bNm (scope:Scope):List Str:=(scope.names.filter λp=>(p.2 == .local || p.2 == .cell || p.2 == .free) && p.1 != (".0" : Str)).map (·.1)
noncomputable def bCp (No:List Str) (scope:Scope):List (Option Nat):=(bNm scope).map λx=>if (x,NameKind.free) ∈ scope.names then slot No x else none
noncomputable def bOk (sc scope:Scope):Bool:=
 scope.kind == .function && scope.names.all (λp=>p.2 != .local || scope.names.lookup p.1 == some .local) && scope.names.all (λp=>p.2 != .free || sc.names.lookup p.1 == some .cell)
   && scope.names.all (λp=>p.2 != .free || (!decide ((p.1,NameKind.cell) ∈ scope.names) && !decide ((p.1,NameKind.local) ∈ scope.names))) && decide (bNm scope++[("#" : Str)]).Nodup
   && (v8 scope sc).names.all (λp=>p.1 != ("#" : Str))
theorem vA {a b:Bool} (h:(a && b)=true):a=true/\b=true:=by rw [Bool.and_eq_true] at h; exact h
theorem uY {x:Str} {q:NameKind}:∀ {names:List (Str × NameKind)},names.lookup x=some q->(x,q) ∈ names
 | (y,k) :: r,h=>by
   rw [List.lookup_cons] at h
   split at h
   · rename_i e; cases h; rw [eq_of_beq e]; exact List.mem_cons_self ..
   · exact List.mem_cons_of_mem _ (uY h)
theorem fM {X:Cx} {scope:Scope} (h:bOk X.env.scope scope=true):di X scope (bNm scope++[("#" : Str)]) (bCp X.N scope)/\(bNm scope++[("#" : Str)]).Nodup:=by
 unfold bOk at h
 obtain ⟨h,h6⟩:=vA h
 obtain ⟨h,h5⟩:=vA h
 obtain ⟨h,h4⟩:=vA h
 obtain ⟨h,h3⟩:=vA h
 obtain ⟨h1,h2⟩:=vA h
 rw [List.all_eq_true] at h2 h3 h4 h6
 refine ⟨⟨eq_of_beq h1,λx hx hk=>?_,λx hx hk=>?_,λx hx hm=>?_,λx hx hm=>?_,?_,λj i hj=>?_,?_⟩,of_decide_eq_true h5⟩
 · have:=h2 x hx; rw [hk] at this; simpa using this
 · have:=h3 x hx; rw [hk] at this; show X.env.scope.names.lookup x.1=_; simpa using this
 · have:=h4 _ hx; simp [hm] at this
 · have:=h4 _ hx; simp [hm] at this
 · unfold bCp; rw [List.length_append,List.length_map]; rfl
 · unfold bCp at hj
   rw [List.getElem?_map] at hj
   cases e:(bNm scope)[j]? with
   | none=>rw [e] at hj; cases hj
   | some x=>
     rw [e] at hj
     simp only [Option.map_some,Option.some.injEq] at hj
     split at hj
     · exact ⟨x,by rw [List.getElem?_append_left (List.getElem?_eq_some_iff.mp e).1]; exact e,slot_get hj,by assumption⟩
     · cases hj
 · refine ⟨("#" : Str),?_,λhv=>?_⟩
   · unfold bCp; rw [List.length_map,List.getElem?_append_right (Nat.le_refl _),Nat.sub_self]; rfl
   · have key:∀ q,(v8 scope X.env.scope).names.lookup ("#" : Str) ≠ some q:=λq hq=>by
       have:=h6 _ (uY hq)
       simp at this
     rcases hv with hv | hv | hv <;> exact key _ hv
noncomputable abbrev cpX (X:Cx) (s:Shared) (H:Hp) (scope:Scope) (fp:List Addr):Cx:=aH X s H scope (bNm scope++[("#" : Str)]) fp
theorem Bk.comp {X:Cx} {k:Nat} (B:Bk X k) (s:Shared) (H:Hp) (scope:Scope) (fp:List Addr):Bk (cpX X s H scope fp) k:=⟨B.room,B.calm,B.blt,PassesOwn.never⟩
noncomputable def bo (τ:List Sl) (caps:List (Option Nat)):List Sl:=caps.map λo=>match o with
 | some i=>match τ[i]? with
   | some (.d x)=>.d x
   | _=>.un
 | none=>.un
theorem mS {X:Cx}:PTs X [] λ_ H Q=>Q true H:=λpins s σ H Q I q=>by
 show wpAny _ _ (pure true) _ _ _
 exact wpAny_pure ⟨H,I,q⟩
section
variable {X:Cx} {C:Bool} {τ:List Sl} {x y z:D} {a b e c tg it elt:Expr} {es ifs:List Expr} {pos p q:Pos} {k:Nat} {xs:List D} {scope:Scope}
structure Cmp (X:Cx) (elt tg it:Expr) (ifs:List Expr) (scope:Scope) (τ:List Sl) (ys:List D):Prop where
 ex:∃ (In:TG->TT->TE->Prop) (caps:List (Option Nat)) (N:List Str) (wi:TI),di X scope N caps/\PI X tg it wi/\(∀ g tt te,In g tt te->∀ s H fp,PG (aH X s H scope N fp) tg g/\PTs (aH X s H scope N fp) ifs tt/\PE (aH X s H scope N fp) elt te) /\
   ∀ C σ H Q,dE X.K C τ (.o ys) σ H Q->dR In caps wi σ H Q
 hs:∀ x,foldedSetIterable it X.env x=pure x
theorem bZ {ys:List D} (h:Cmp X elt tg it ifs scope τ ys):PE X (.ListComp elt [⟨tg,it,ifs,0⟩] scope pos) (dE X.K C τ (.o ys)):=by
 obtain ⟨In,caps,N,wi,h1,h2,h3,h4⟩:=h.ex
 exact peW (cP h1 h2 h.hs h3) (h4 C)
theorem iz (i:Nat) {n:Str} {p spos:Pos} {rest:List Stmt} {N:Po} {ys:List D} {s:Sl} (hN:X.N.Nodup) (h:Cmp X elt tg it ifs scope τ ys) (hz:s=.o ys\/s=.d (.lst ys)) (hr:PSs X rest (dS X.K (τ.set i s) N)) (hi:X.N[i]?=some n:=by rfl) (hx:Loc X.env.scope n:=by first | exact .inl rfl | exact .inr rfl)
   (hsw:swapsWith (.ListComp elt [⟨tg,it,ifs,0⟩] scope pos) (some (.Name n p)) spos.line X.env=pure true:=by rfl) (hf:X.fn n=true\/X.env.scope.names.lookup n=some .local:=by first | exact .inl rfl | exact .inr rfl | assumption) :
   PSs X (.Assign [.Name n p] (.ListComp elt [⟨tg,it,ifs,0⟩] scope pos) spos :: rest) (dS X.K τ N):=by
 obtain ⟨In,caps,N',wi,h1,h2,h3,h4⟩:=h.ex
 have h5:∀ σ H Q,dE X.K true τ s σ H Q->dR In caps wi σ H Q:=by
   rcases hz with rfl | rfl
   · exact h4 true
   · intro σ H Q q
     obtain ⟨A,H₀,B,S,k⟩:=dJ q
     refine h4 true σ H Q ⟨A,H₀,B,S,λv H' bs e hf q=>?_⟩
     obtain ⟨u,e1,d⟩:=q.den (G':=Hy.hd H' (vw true A B)) (au (aj.refl _) λ_ z=>.inl z) (λb hb o ho=>ak.mpr ⟨λz=>(by obtain ⟨_,q⟩:=S.vd (C:=true) b z; rw [(hf b hb).1] at q; cases q),ho⟩) rfl
     cases e1
     exact k v H' e d
 exact a6 (M:=(·=τ.set i s)) (psW (gD (da (i:=i) hN hi hx hf) h1 h2 h.hs h3 hsw) λD σ H ⟨A,H₀,B,S,Me⟩=>h5 _ _ _ ⟨A,H₀,B,S,λv H' bs e hf h=>Me.nx _ _ _ _ rfl (S.set e hf h)⟩) λ_ e=>e ▸ hr
theorem p8 {T:Nat->List Sl} {t:Nat->Bool} {f:Nat->D} (hc:bOk X.env.scope scope=true) (hi:PI X tg it (dI X.K τ xs)) (hT:∀ i,(T i).length=(bo τ (bCp X.N scope)++[Sl.un]).length/\∀ (l:Nat) (x:D),(bo τ (bCp X.N scope)++[Sl.un])[l]?=some (.d x)->(T i)[l]?=some (.d x))
   (hg:∀ i (h:i < xs.length) s H fp,PG (cpX X s H scope fp) tg (dG X.K (bo τ (bCp X.N scope)++[Sl.un]) xs[i] (T i)))
   (ht:∀ i,i < xs.length->∀ s H fp,PTs (cpX X s H scope fp) ifs (dT X.K (T i) (t i)))
   (he:∀ i,i < xs.length->t i=true->∀ s H fp,PE (cpX X s H scope fp) elt (dE X.K true (T i) (.d (f i)))) (hl:xs.length < 1000000) (hs:∀ x,foldedSetIterable it X.env x=pure x:=by intro _; rfl) :
   Cmp X elt tg it ifs scope τ (((List.range xs.length).filter t).map f):=by
 obtain ⟨cap,_⟩:=fM hc
 generalize hτ:bo τ (bCp X.N scope)++[Sl.un]=τb at *
 refine ⟨⟨λg tt te=>g=(λv σ H Q=>∃ (i:Nat) (h:i < xs.length),dG X.K τb xs[i] (T i) v σ H Q)/\tt=(λσ H Q=>∃ i,i < xs.length/\dT X.K (T i) (t i) σ H Q)/\te=(λσ H Q=>∃ i,i < xs.length/\t i=true/\dE X.K true (T i) (.d (f i)) σ H Q),_,_,_,cap,hi,?_,?_⟩,hs⟩
 · rintro g tt te ⟨rfl,rfl,rfl⟩ s H fp
   exact ⟨λpins s' σ H' v u Q I r ⟨i,h,q⟩=>hg i h s H fp pins s' σ H' v u Q I r q,λpins s' σ H' Q I ⟨i,h,q⟩=>ht i h s H fp pins s' σ H' Q I q,λpins s' σ H' Q I ⟨i,h,h',q⟩=>he i h h' s H fp pins s' σ H' Q I q⟩
 rintro C σ H Q ⟨A,H₀,B,S,kk⟩
 refine ⟨A,H₀,B,S,λJ H1 e1 yl=>⟨_,_,_,⟨rfl,rfl,rfl⟩,λD hD=>?_⟩⟩
 have S1:=S.mono e1
 have nD:¬ own A B D:=λz=>by obtain ⟨o,q⟩:=S1.dm D z; rw [hD] at q; cases q
 have noN:∀ (l:Nat) (t:Nd),τb[l]?=some (.n t)->0 ≠ 0:=λl t h=>by
   exfalso
   rw [<- hτ] at h
   have:=List.mem_of_getElem? h
   rcases List.mem_append.mp this with z | z
   · unfold bo at z
     obtain ⟨o,_,ho⟩:=List.mem_map.mp z
     split at ho
     · split at ho <;> cases ho
     · cases ho
   · cases List.mem_singleton.mp z
 have slots:∀ {σ':L2.St} {H':Hp},aj H1 H'->(∃ o,H' D=some o)->σ'.length=τb.length->(∀ (l:Nat) (s:Sl),τb[l]?=some s->bR X.K (hd H' λb=>own A B b\/b=D) H' (σ'[l]?).join [] s)->Sta X.K (λb=>own A B b\/b=D) H' τb (λ_=>[]) σ' H':=λ{σ' H'} e1 e2 e3 e4=>
   ⟨aj.refl _,e3,λl s h=>(e4 l s h).mono (au (aj.refl _) λ_ z=>z.elim id λ⟨_,z⟩=>(nomatch z)) (aj.refl _),λ_ _ z=>(nomatch z),λ_ _ _ z=>(nomatch z),λb z=>z.elim (λz=>let ⟨o,q⟩:=S1.dm b z; ⟨o,e1 _ _ q⟩) λz=>z ▸ e2,λ_ _ z=>(nomatch z)⟩
 refine ⟨λi m σ' H'=>m=xs.length - i/\i<=xs.length/\aj H1 H'/\(∃ vs,H' D=some (.lst vs)/\vs.length<=i/\aq X.K (hd H' λb=>own A B b\/b=D) vs (((List.range i).filter t).map f)) /\
   σ'.length=τb.length/\∀ (l:Nat) (s:Sl),τb[l]?=some s->bR X.K (hd H' λb=>own A B b\/b=D) H' (σ'[l]?).join [] s,⟨xs.length,rfl,Nat.zero_le _,ai hD _,⟨[],aF,Nat.le_refl _,.nil⟩,?_,λl s h=>?_⟩,?_⟩
 · rw [<- hτ]; unfold eJ bo; rw [List.length_append,List.length_append,List.length_map,List.length_map]; rfl
 · have hv:aj (hd H (own A B)) (hd (upd H1 D (.lst [])) λb=>own A B b\/b=D):=λb o z=>by
     obtain ⟨z1,z2⟩:=ak.mp z
     have z2:=e1 _ _ z2
     have ne:b ≠ D:=λz=>by rw [z,hD] at z2; cases z2
     exact ak.mpr ⟨λy=>y.elim z1 ne,by rw [ax ne]; exact z2⟩
   cases s with
   | un=>rfl
   | d x=>
     rw [<- hτ] at h
     have hlt:l < (bCp X.N scope).length:=by
       rcases Nat.lt_or_ge l (bCp X.N scope).length with h' | h'
       · exact h'
       · exfalso
         rw [List.getElem?_append_right (by unfold bo; rw [List.length_map]; exact h')] at h
         cases e:l - (bo τ (bCp X.N scope)).length with
         | zero=>rw [e] at h; cases h
         | succ n=>rw [e] at h; cases h
     rw [List.getElem?_append_left (by unfold bo; rw [List.length_map]; exact hlt)] at h
     rw [List.getElem?_append_left (by unfold eJ; rw [List.length_map]; exact hlt)]
     unfold bo at h
     unfold eJ
     rw [List.getElem?_map] at h ⊢
     cases e:(bCp X.N scope)[l]? with
     | none=>rw [e] at h; cases h
     | some o=>
       rw [e] at h
       cases o with
       | none=>cases h
       | some i=>
         simp only [Option.map_some,Option.some.injEq] at h
         split at h
         · rename_i x' hx'
           cases h
           obtain ⟨_,u,eu,d⟩:=S.sl i _ hx'
           exact ⟨rfl,u,by simpa using eu,d.mono hv⟩
         · cases h
   | o xs'=>
     exfalso
     rw [<- hτ] at h
     have:=List.mem_of_getElem? h
     rcases List.mem_append.mp this with z | z
     · unfold bo at z
       obtain ⟨o,_,ho⟩:=List.mem_map.mp z
       split at ho
       · split at ho <;> cases ho
       · cases ho
     · cases List.mem_singleton.mp z
   | n t'=>
     exfalso
     rw [<- hτ] at h
     have:=List.mem_of_getElem? h
     rcases List.mem_append.mp this with z | z
     · unfold bo at z
       obtain ⟨o,_,ho⟩:=List.mem_map.mp z
       split at ho
       · split at ho <;> cases ho
       · cases ho
     · cases List.mem_singleton.mp z
   | x E'=>
     exfalso
     rw [<- hτ] at h
     have:=List.mem_of_getElem? h
     rcases List.mem_append.mp this with z | z
     · unfold bo at z
       obtain ⟨o,_,ho⟩:=List.mem_map.mp z
       split at ho
       · split at ho <;> cases ho
       · cases ho
     · cases List.mem_singleton.mp z
 rintro i m σ' H' ⟨rfl,hi,e2,⟨vs,hv1,hv2,hv3⟩,hlen,hsl⟩
 obtain ⟨y1,y2⟩:=yl H' (aL.trans e2)
 by_cases hlt:i < xs.length
 · obtain ⟨g,y⟩:=y2 i hlt
   refine .inr ⟨g,λx H2 hy=>?_⟩
   obtain ⟨e3,dx⟩:=y x H2 hy
   have S2:Sta X.K (λb=>own A B b\/b=D) H' τb (λ_=>[]) σ' H':=slots e2 ⟨_,hv1⟩ hlen hsl
   have o0:∀ b,own (λb=>own A B b\/b=D) (λ_=>([]:List Addr)) b->own A B b\/b=D:=λb z=>z.elim id λ⟨_,z⟩=>(nomatch z)
   have dx':=dx _ S2.dm (λb o z=>by
     obtain ⟨z1,z2⟩:=ak.mp z
     exact ak.mpr ⟨λy=>(o0 b y).elim z1 λy=>(by rw [y,hD] at z2; cases z2),e2 _ _ z2⟩)
   refine ⟨i,hlt,_,_,_,S2.mono e3,dx',λσ2 B2 S3=>?_⟩
   have hB2:∀ j b,b ∈ B2 j->b ≠ D:=λj b hb z=>by
     have:=S3.fr j b hb
     rw [z,hv1] at this
     cases this
   have back:∀ {H5:Hp},aj H2 H5->σ2.length=τb.length/\∀ (l:Nat) (s:Sl),τb[l]?=some s->bR X.K (hd H5 λb=>own A B b\/b=D) H5 (σ2[l]?).join [] s:=λ{H5} e5=>by
     refine ⟨S3.len.trans (hT i).1,λl s h=>?_⟩
     cases s with
     | un=>rfl
     | d x=>
       obtain ⟨_,u,eu,d⟩:=S3.sl l _ ((hT i).2 l x h)
       exact ⟨rfl,u,eu,d.mono (au e5 λ_ z=>.inl z)⟩
     | o xs'=>exact absurd (hsl l _ h) (λ⟨_,_,z,_⟩=>(nomatch z))
     | n t'=>exact absurd rfl (noN l t' h)
     | x E'=>exact absurd (hsl l _ h) (λ⟨_,_,z,_⟩=>(nomatch z))
   refine ⟨i,hlt,_,_,_,S3,λH4 e4=>?_⟩
   cases ht:t i with
   | false=>
     rw [if_neg Bool.false_ne_true]
     obtain ⟨b1,b2⟩:=back e4
     refine ⟨xs.length - (i + 1),by omega,rfl,hlt,e2.trans (e3.trans e4),⟨vs,e4 _ _ (e3 _ _ hv1),by omega,?_⟩,b1,b2⟩
     rw [List.range_succ,List.filter_append,List.map_append,List.filter_cons,ht]
     simpa using hv3.mono (au (e3.trans e4) λ_ z=>z)
   | true=>
     rw [if_pos rfl]
     refine ⟨i,hlt,ht,aO (S3.mono e4) λv H5 e5 d5=>?_⟩
     have e6:=e3.trans (e4.trans e5)
     have hv5:=e6 _ _ hv1
     refine ⟨vs,xs.length - (i + 1),hv5,Nat.lt_trans (Nat.lt_of_le_of_lt hv2 (Nat.lt_trans hlt hl)) (by decide),by omega,rfl,hlt,?_,?_⟩
     · intro b o z
       have ne:b ≠ D:=λy=>by rw [y,hD] at z; cases z
       rw [ax ne]
       exact e6 _ _ (e2 _ _ z)
     have sm:aj (hd H5 λb=>own A B b\/b=D) (hd (upd H5 D (.lst (vs++[v]))) λb=>own A B b\/b=D):=λb o z=>by
       obtain ⟨z1,z2⟩:=ak.mp z
       exact ak.mpr ⟨z1,by rw [ax λy=>z1 (.inr y)]; exact z2⟩
     obtain ⟨b1,b2⟩:=back (e4.trans e5)
     refine ⟨⟨vs++[v],aF,by rw [List.length_append]; exact Nat.succ_le_succ hv2,?_⟩,b1,λl s h=>?_⟩
     · rw [List.range_succ,List.filter_append,List.map_append,List.filter_cons,ht,if_pos rfl]
       refine aq.append (hv3.mono ((au e6 λ_ z=>z).trans sm)) (.cons (d5.mono ((au (aj.refl _) λ_ z=>.inl z).trans sm)) .nil)
     · cases s with
       | un=>rfl
       | d x=>obtain ⟨z1,u,eu,d⟩:=b2 l _ h; exact ⟨z1,u,eu,d.mono sm⟩
       | o xs'=>exact absurd (hsl l _ h) (λ⟨_,_,z,_⟩=>(nomatch z))
       | n t'=>exact absurd rfl (noN l t' h)
       | x E'=>exact absurd (hsl l _ h) (λ⟨_,_,z,_⟩=>(nomatch z))
 · have e:i=xs.length:=by omega
   subst e
   refine .inl ⟨y1 _ (Nat.le_refl _),kk _ _ [D] (e1.trans e2) (λb hb=>?_) ⟨D,vs,rfl,rfl,hv1,hv3.mono (au (aj.refl _) λb z=>z.elim (λz=>.inl (iK z)) λz=>.inr (List.mem_singleton.mp z))⟩⟩
   obtain rfl:=List.mem_singleton.mp hb
   exact ⟨e1.free hD,_,hv1⟩
theorem cmp (j:Nat) {n:Str} {g f:Nat->D} (B:Bk X k) (hi:PI X (.Name n p) it (dI X.K τ xs)) (hx:∀ i (h:i < xs.length),xs[i]=g i) (hl:xs.length < 1000000)
   (he:∀ i,i < xs.length->∀ s H fp,PE (cpX X s H scope fp) elt (dE X.K true ((bo τ (bCp X.N scope)++[Sl.un]).set j (.d (g i))) (.d (f i))))
   (hc:bOk X.env.scope scope=true:=by kernel_rfl) (hu:(bo τ (bCp X.N scope)++[Sl.un])[j]?=some .un:=by rfl) (hN:(bNm scope++[("#" : Str)])[j]?=some n:=by rfl) (hv:∀ s H fp,Loc (cpX X s H scope fp).env.scope n:=by intro _ _ _; first | exact .inl rfl | exact .inr rfl)
   (hf:∀ s H fp,(cpX X s H scope fp).fn n=true\/(cpX X s H scope fp).env.scope.names.lookup n=some .local:=by intro _ _ _; first | exact .inr rfl | exact .inl rfl) (hs:∀ x,foldedSetIterable it X.env x=pure x:=by intro _; rfl) :
   Cmp X elt (.Name n p) it [] scope τ ((List.range xs.length).map f):=by
 have h:=p8 (T:=λi=>(bo τ (bCp X.N scope)++[Sl.un]).set j (.d (g i))) (t:=λ_=>true) (f:=f) (elt:=elt) (ifs:=[]) hc hi (λi=>⟨List.length_set,λl x h=>?_⟩) (λi h s H fp=>?_) (λi h s H fp=>?_) (λi h _ s H fp=>he i h s H fp) hl hs
 · rwa [List.filter_eq_self.mpr λ_ _=>rfl] at h
 · rw [List.getElem?_set_ne (λz=>by rw [<- z,hu] at h; cases h)]
   exact h
 · rw [hx i h]
   exact wy j (fM hc).2 hN (hv s H fp) (hf s H fp)
 · exact λpins s' σ H' Q I ⟨A,H₀,B,S,q⟩=>mS pins s' σ H' Q I (q H' (aj.refl _))
end
section
variable {P:Program} {w:World} {K:PySem.W.Frag} {mg:Str->Option Value} {base:Heap}
noncomputable def Ac (N:List Str) (ds:List D):List Sl:=ds.map .d++List.replicate (N.length - ds.length) .un
noncomputable abbrev Xc (P:Program) (w:World) (K:PySem.W.Frag) (mg:Str->Option Value) (base:Heap) (N:List Str) (qual:Str) (st:Stmt) (f:Addr) (cdv:Value) (A:Around) (outer:List Env) (s:Shared) (H:Hp) (E:XK):Cx:=(qh CX0 P w K mg base N qual (ag st) f cdv A outer s H E).nox
theorem fnD {x qual:Str} {st:Stmt} {f:Addr} {fd:FuncData} {N ps:List Str} {k:Nat} {Φ:List D->Sl->Prop} (F:Fun K x qual st f fd) (S:ao N ps (ag st)) (hb:∀ x ∈ ah,mg x=none) (len:∀ ds r,Φ ds r->ds.length=ps.length)
   (body:∀ ds r,Φ ds r->∀ cdv A outer s H E,Bk (Xc P w K mg base N qual st f cdv A outer s H E) k->PSs (Xc P w K mg base N qual st f cdv A outer s H E) (bK st) (dS K (Ac N ds) { nx:=λ_=>r=.d .non,rt:=λr'=>r'=r })) :
   aN P w K mg base CX0 (k + 1) f fd ps (spD K Φ):=by
 refine F.ok S (λvs H Q E ⟨A,ds,r,_,d,h,_⟩=>d.length.trans (len ds r h)) λcdv A outer s H vs Q E hr ⟨A',ds,r,ha,d,h,q⟩=>⟨_,body ds r h cdv A outer s H E ⟨hr,rfl,hb,PassesOwn.never⟩,A',H,λ_=>[],⟨aj.refl _,?_,λi s hi=>?_,λ_ _ z=>(nomatch z),λ_ _ _ z=>(nomatch z),ha,λ_ _ z=>(nomatch z)⟩,λτ B σ H' h S=>?_,λ_ _ _ _ h=>h.elim,λ_ _ _ _ h=>h.elim,λv H' bs s h e hf z=>?_,λ_ _=>trivial⟩
 · unfold L2.start Ac
   simp [d.length]
 · have hl:=d.length
   unfold Ac at hi
   unfold L2.start
   by_cases hlt:i < ds.length
   · rw [List.getElem?_append_left (by simpa using hlt),List.getElem?_map,List.getElem?_eq_getElem hlt] at hi
     cases hi
     obtain ⟨v,e,dv⟩:=d.get (List.getElem?_eq_getElem hlt)
     refine ⟨rfl,v,?_,dv.mono (au (aj.refl _) λ_ z=>z.elim id λ⟨_,z⟩=>(nomatch z))⟩
     rw [List.getElem?_append_left (by simpa [hl] using hlt),List.getElem?_map,e]
     rfl
   · rw [List.getElem?_append_right (by simpa using hlt),List.getElem?_replicate] at hi
     split at hi
     · cases hi; rfl
     · cases hi
 · obtain rfl:=(h:r=_)
   exact q .non H' [] S.same gh (iU .non)
 · obtain rfl:=(h:s=r)
   exact q v H' bs e hf z
theorem wL {K:PySem.W.Frag} {Φ:List D->Sl->Prop} (hΦ:∀ ns:List Int,ns.length<=63->Φ [.lst (ns.map .int)] (.d (.bl true))) (H:Hp) (a:Addr) (ns:List Int) (hl:ns.length<=63) (hS:SqL K H a (ns.map V.int)):spD K Φ [.ref a] H (λv _=>v=.bl true) λ_ _ _=>False:=by
 have hh:hd H (λ_=>False)=H:=by funext b; unfold hd; rw [if_neg id]
 refine ⟨λ_=>False,_,_,λ_ z=>z.elim,.cons (.lst (vs:=ns.map V.int) (by rw [hh]; exact hS) ?_) .nil,hΦ ns hl,λv H' bs _ _ h=>?_⟩
 · clear hl hS
   induction ns with
   | nil=>exact .nil
   | cons n ns ih=>exact .cons .int ih
 · obtain ⟨_,u,e,d⟩:=h
   cases e
   cases d
   rfl
end
end Hy
namespace K54
open PySem PySem.Spec PyProof.Rows L2 Hy
noncomputable def top (i:Nat):Stmt:=PySem.Challenge.pw_signsmooth_k54_whole_standing.main.body.getD i (.Pass ⟨0,0,0,0⟩)
theorem gC:ao ["_law_cell_here","_law_bases","_law_row","_law_base","_law_k","_law_mixed"] ["_law_cell_here","_law_bases"] (ag (top 55)):=⟨rfl,rfl,rfl,by decide +kernel,rfl,by decide +kernel,by decide +kernel⟩
theorem lM:ao ["_law_cell_here","_law_parts"] ["_law_cell_here"] (ag (top 58)):=⟨rfl,rfl,rfl,by decide +kernel,rfl,by decide +kernel,by decide +kernel⟩
theorem gM:ao ["_law_clear","_law_found","_law_first","_law_some","_law_one","_law_longer","_law_row"] ["_law_clear"] (ag (top 66)):=⟨rfl,rfl,rfl,by decide +kernel,rfl,by decide +kernel,by decide +kernel⟩
theorem ko:ao ["_law_cell_here","_law_many","_law_wide","_law_marks","_law_clear","_law_part_here","_law_some","_law_row"] ["_law_cell_here","_law_many","_law_wide"] (ag (top 67)):=⟨rfl,rfl,rfl,by decide +kernel,rfl,by decide +kernel,by decide +kernel⟩
theorem iM:ao ["_law_rows_here","_law_wide","_law_made_here","_law_i","_law_lines","_law_longer","_law_mask","_law_behind_it","_law_j","_law_key","_law_part_here"] ["_law_rows_here"] (ag (top 60)):=⟨rfl,rfl,rfl,by decide +kernel,rfl,by decide +kernel,by decide +kernel⟩
theorem sY:ao ["_law_script","_law_k"] ["_law_script","_law_k"] (ag (top 54)):=⟨rfl,rfl,rfl,by decide +kernel,rfl,by decide +kernel,by decide +kernel⟩
theorem kh:ao ["_law_cell_here","_law_many","_law_wide","_law_found","_law_one","_law_parts"] ["_law_cell_here","_law_many","_law_wide"] (ag (top 69)):=⟨rfl,rfl,rfl,by decide +kernel,rfl,by decide +kernel,by decide +kernel⟩
theorem gB:ao ["_law_one","_law_other","_law_rest"] ["_law_one","_law_other"] (ag (top 56)):=⟨rfl,rfl,rfl,by decide +kernel,rfl,by decide +kernel,by decide +kernel⟩
theorem lD:ao ["_law_table","_law_rows_here","_law_all_bottoms","_law_row","_law_factor","_law_number"] ["_law_table"] (ag (top 59)):=⟨rfl,rfl,rfl,by decide +kernel,rfl,by decide +kernel,by decide +kernel⟩
theorem lh:ao ["_law_top","_law_bottom","_law_common"] ["_law_top","_law_bottom"] (ag (top 57)):=⟨rfl,rfl,rfl,by decide +kernel,rfl,by decide +kernel,by decide +kernel⟩
theorem lG:ao ["_law_one","_law_other","_law_third","_law_top","_law_bottom"] ["_law_one","_law_other","_law_third"] (ag (top 62)):=⟨rfl,rfl,rfl,by decide +kernel,rfl,by decide +kernel,by decide +kernel⟩
theorem sA:ao ["_law_one","_law_other"] ["_law_one","_law_other"] (ag (top 61)):=⟨rfl,rfl,rfl,by decide +kernel,rfl,by decide +kernel,by decide +kernel⟩
theorem iL:ao ["_law_table","_law_places_here","_law_sign","_law_rows_here","_law_j","_law_b","_law_i","_law_a","_law_part_here"] ["_law_table","_law_places_here","_law_sign"] (ag (top 63)):=⟨rfl,rfl,rfl,by decide +kernel,rfl,by decide +kernel,by decide +kernel⟩
theorem iR:ao ["_law_table","_law_wide"] ["_law_table"] (ag (top 64)):=⟨rfl,rfl,rfl,by decide +kernel,rfl,by decide +kernel,by decide +kernel⟩
theorem pY:ao ["_law_table"] ["_law_table"] (ag (top 65)):=⟨rfl,rfl,rfl,by decide +kernel,rfl,by decide +kernel,by decide +kernel⟩
theorem nR:ao ["_law_mask","_law_most","_law_some"] ["_law_mask","_law_most"] (ag (top 70)):=⟨rfl,rfl,rfl,by decide +kernel,rfl,by decide +kernel,by decide +kernel⟩
theorem iq:ao ["thing"] ["thing"] (ag (top 19)):=⟨rfl,rfl,rfl,by decide +kernel,rfl,by decide +kernel,by decide +kernel⟩
theorem lX:ao ["table","j"] ["table","j"] (ag (top 28)):=⟨rfl,rfl,rfl,by decide +kernel,rfl,by decide +kernel,by decide +kernel⟩
theorem i4:ao ["marks","i","j"] ["marks","i","j"] (ag (top 48)):=⟨rfl,rfl,rfl,by decide +kernel,rfl,by decide +kernel,by decide +kernel⟩
theorem g8:ao ["marks","i"] ["marks","i"] (ag (top 47)):=⟨rfl,rfl,rfl,by decide +kernel,rfl,by decide +kernel,by decide +kernel⟩
theorem oQ:ao ["thing"] ["thing"] (ag (top 8)):=⟨rfl,rfl,rfl,by decide +kernel,rfl,by decide +kernel,by decide +kernel⟩
theorem kP:ao ["thing","least","most"] ["thing","least","most"] (ag (top 9)):=⟨rfl,rfl,rfl,by decide +kernel,rfl,by decide +kernel,by decide +kernel⟩
theorem gj:ao ["thing"] ["thing"] (ag (top 46)):=⟨rfl,rfl,rfl,by decide +kernel,rfl,by decide +kernel,by decide +kernel⟩
theorem i3:ao ["thing"] ["thing"] (ag (top 45)):=⟨rfl,rfl,rfl,by decide +kernel,rfl,by decide +kernel,by decide +kernel⟩
theorem jr:ao ["thing"] ["thing"] (ag (top 49)):=⟨rfl,rfl,rfl,by decide +kernel,rfl,by decide +kernel,by decide +kernel⟩
theorem de:ao ["one","other","greater","lesser","rest"] ["one","other"] (ag (top 11)):=⟨rfl,rfl,rfl,by decide +kernel,rfl,by decide +kernel,by decide +kernel⟩
theorem jv:ao ["thing"] ["thing"] (ag (top 10)):=⟨rfl,rfl,rfl,by decide +kernel,rfl,by decide +kernel,by decide +kernel⟩
theorem sF:ao ["thing"] ["thing"] (ag (top 20)):=⟨rfl,rfl,rfl,by decide +kernel,rfl,by decide +kernel,by decide +kernel⟩
theorem oP:ao ["thing"] ["thing"] (ag (top 21)):=⟨rfl,rfl,rfl,by decide +kernel,rfl,by decide +kernel,by decide +kernel⟩
theorem kA:ao ["thing"] ["thing"] (ag (top 24)):=⟨rfl,rfl,rfl,by decide +kernel,rfl,by decide +kernel,by decide +kernel⟩
theorem m5:ao ["numbers"] ["numbers"] (ag (top 23)):=⟨rfl,rfl,rfl,by decide +kernel,rfl,by decide +kernel,by decide +kernel⟩
theorem mx:ao ["thing","many"] ["thing","many"] (ag (top 22)):=⟨rfl,rfl,rfl,by decide +kernel,rfl,by decide +kernel,by decide +kernel⟩
theorem i6:ao ["rows","columns","many_rows","many_columns"] ["rows","columns","many_rows","many_columns"] (ag (top 25)):=⟨rfl,rfl,rfl,by decide +kernel,rfl,by decide +kernel,by decide +kernel⟩
theorem jU:ao ["table"] ["table"] (ag (top 32)):=⟨rfl,rfl,rfl,by decide +kernel,rfl,by decide +kernel,by decide +kernel⟩
theorem cY:ao ["top","bottom","divisor"] ["top","bottom"] (ag (top 12)):=⟨rfl,rfl,rfl,by decide +kernel,rfl,by decide +kernel,by decide +kernel⟩
theorem oy:ao ["top","bottom"] ["top","bottom"] (ag (top 13)):=⟨rfl,rfl,rfl,by decide +kernel,rfl,by decide +kernel,by decide +kernel⟩
theorem iP:ao ["row","scale","number"] ["row"] (ag (top 33)):=⟨rfl,rfl,rfl,by decide +kernel,rfl,by decide +kernel,by decide +kernel⟩
theorem fD:ao ["grid","k","i"] ["grid","k"] (ag (top 38)):=⟨rfl,rfl,rfl,by decide +kernel,rfl,by decide +kernel,by decide +kernel⟩
theorem jP:ao ["row","pivot_row","k","last","pivot","factor"] ["row","pivot_row","k","last"] (ag (top 39)):=⟨rfl,rfl,rfl,by decide +kernel,rfl,by decide +kernel,by decide +kernel⟩
theorem cG:ao ["rows","grid","many","sign","last","k","at","i"] ["rows"] (ag (top 37)):=⟨rfl,rfl,rfl,by decide +kernel,rfl,by decide +kernel,by decide +kernel⟩
theorem dg:ao ["numbers","found","number"] ["numbers"] (ag (top 36)):=⟨rfl,rfl,rfl,by decide +kernel,rfl,by decide +kernel,by decide +kernel⟩
theorem mL:ao ["row","scale"] ["row","scale"] (ag (top 34)):=⟨rfl,rfl,rfl,by decide +kernel,rfl,by decide +kernel,by decide +kernel⟩
theorem kC:ao ["table","scales"] ["table","scales"] (ag (top 35)):=⟨rfl,rfl,rfl,by decide +kernel,rfl,by decide +kernel,by decide +kernel⟩
theorem cg:ao ["table","scales"] ["table"] (ag (top 31)):=⟨rfl,rfl,rfl,by decide +kernel,rfl,by decide +kernel,by decide +kernel⟩
theorem sE:ao ["things","places"] ["things","places"] (ag (top 26)):=⟨rfl,rfl,rfl,by decide +kernel,rfl,by decide +kernel,by decide +kernel⟩
theorem sW:ao ["table","rows","columns"] ["table","rows","columns"] (ag (top 27)):=⟨rfl,rfl,rfl,by decide +kernel,rfl,by decide +kernel,by decide +kernel⟩
theorem tR:ao ["table","rows","columns"] ["table","rows","columns"] (ag (top 30)):=⟨rfl,rfl,rfl,by decide +kernel,rfl,by decide +kernel,by decide +kernel⟩
theorem gY:ao ["table","places","j"] ["table"] (ag (top 42)):=⟨rfl,rfl,rfl,by decide +kernel,rfl,by decide +kernel,by decide +kernel⟩
theorem fV:ao ["one","other","first","second"] ["one","other"] (ag (top 15)):=⟨rfl,rfl,rfl,by decide +kernel,rfl,by decide +kernel,by decide +kernel⟩
theorem jL:ao ["one","other"] ["one","other"] (ag (top 16)):=⟨rfl,rfl,rfl,by decide +kernel,rfl,by decide +kernel,by decide +kernel⟩
theorem lU:ao ["one","other","shared","top","divisor"] ["one","other"] (ag (top 14)):=⟨rfl,rfl,rfl,by decide +kernel,rfl,by decide +kernel,by decide +kernel⟩
theorem hJ:ao ["grid","j","b","sign","i","share","factor","a"] ["grid","j","b","sign"] (ag (top 43)):=⟨rfl,rfl,rfl,by decide +kernel,rfl,by decide +kernel,by decide +kernel⟩
theorem hR:ao ["table","grid","place"] ["table"] (ag (top 41)):=⟨rfl,rfl,rfl,by decide +kernel,rfl,by decide +kernel,by decide +kernel⟩
theorem fW:ao ["row"] ["row"] (ag (top 51)):=⟨rfl,rfl,rfl,by decide +kernel,rfl,by decide +kernel,by decide +kernel⟩
theorem fG:ao ["marks"] ["marks"] (ag (top 50)):=⟨rfl,rfl,rfl,by decide +kernel,rfl,by decide +kernel,by decide +kernel⟩
theorem kW:ao ["marks","rows","columns"] ["marks","rows","columns"] (ag (top 52)):=⟨rfl,rfl,rfl,by decide +kernel,rfl,by decide +kernel,by decide +kernel⟩
theorem jO:ao ["_law_marks","_law_one","_law_other","_law_masks_here","_law_rows_here","_law_columns","_law_handed","_law_found","_law_mask"] ["_law_marks","_law_one","_law_other","_law_masks_here"] (ag (top 71)):=⟨rfl,rfl,rfl,by decide +kernel,rfl,by decide +kernel,by decide +kernel⟩
theorem fX:ao ["_law_marks","_law_cell_here","_law_wide","_law_parts","_law_rows_here","_law_i","_law_row","_law_numbers_here"] ["_law_marks","_law_cell_here"] (ag (top 68)):=⟨rfl,rfl,rfl,by decide +kernel,rfl,by decide +kernel,by decide +kernel⟩
theorem vK:ao ["_law_script","_law_many","_law_wide","_law_marks","_law_one","_law_other","_law_cells","_law_cell_here","_law_masks_here"] ["_law_script"] (ag (top 72)):=⟨rfl,rfl,rfl,by decide +kernel,rfl,by decide +kernel,by decide +kernel⟩
end K54
namespace L2
open PySem PySem.Spec PyProof.Rows
section
variable {κ:Type} [DecidableEq κ]
noncomputable def eB (kvs:List (κ × V)) (k:κ):Option V:=(kvs.find? λkv=>decide (kv.1=k)).map (·.2)
noncomputable def putK (kvs:List (κ × V)) (k:κ) (v:V):List (κ × V):=
 if (kvs.any λkv=>decide (kv.1=k))=true then kvs.map (λkv=>if kv.1=k then (kv.1,v) else kv) else kvs++[(k,v)]
theorem bF {p:κ × V} {r:List (κ × V)} {k:κ} (e:p.1=k):eB (p :: r) k=some p.2:=by simp [eB,List.find?_cons,e]
theorem bC {p:κ × V} {r:List (κ × V)} {k:κ} (e:¬ p.1=k):eB (p :: r) k=eB r k:=by simp [eB,List.find?_cons,e]
theorem jf (k:κ):∀ kvs:List (κ × V),(kvs.any λkv=>decide (kv.1=k))=(eB kvs k).isSome
 | []=>rfl
 | p :: r=>by
   rw [List.any_cons]
   by_cases e:p.1=k
   · simp only [bF e,decide_eq_true e,Bool.true_or,Option.isSome_some]
   · rw [bC e,decide_eq_false e,Bool.false_or]; exact jf k r
theorem oZ (k j:κ) (y:V):∀ kvs:List (κ × V),eB (kvs.map λkv=>if kv.1=k then (kv.1,y) else kv) j=(eB kvs j).map λx=>if j=k then y else x
 | []=>rfl
 | p :: r=>by
   have ih:=oZ k j y r
   rw [List.map_cons]
   by_cases h:p.1=k
   · rw [if_pos h]
     by_cases e:p.1=j
     · rw [bF (p:=(p.1,y)) e,bF e,Option.map_some,if_pos (e.symm.trans h)]
     · rw [bC (p:=(p.1,y)) e,bC e,ih]
   · rw [if_neg h]
     by_cases e:p.1=j
     · rw [bF (p:=p) e,bF e,Option.map_some,if_neg (λz=>h (e.trans z))]
     · rw [bC (p:=p) e,bC e,ih]
theorem lK (k j:κ) (y:V):∀ kvs:List (κ × V),eB kvs k=none->eB (kvs++[(k,y)]) j=if j=k then some y else eB kvs j
 | [],_=>by
   by_cases e:k=j
   · rw [if_pos e.symm]; exact bF (p:=(k,y)) e
   · rw [if_neg (λz=>e z.symm)]; exact bC (p:=(k,y)) e
 | p :: r,hn=>by
   rw [List.cons_append]
   have hk:¬ p.1=k:=λz=>by rw [bF z] at hn; cases hn
   rw [bC hk] at hn
   have ih:=lK k j y r hn
   by_cases e:p.1=j
   · rw [bF e,bF e,if_neg (λz=>hk (e.trans z))]
   · rw [bC e,bC e,ih]
theorem uR (kvs:List (κ × V)) (k j:κ) (y:V):eB (putK kvs k y) j=if j=k then some y else eB kvs j:=by
 unfold putK
 by_cases a:(kvs.any λkv=>decide (kv.1=k))=true
 · rw [if_pos a,oZ]
   rw [jf] at a
   by_cases e:j=k
   · obtain ⟨x,hx⟩:=Option.isSome_iff_exists.mp a
     rw [if_pos e,e,hx,Option.map_some,if_pos rfl]
   · rw [if_neg e]
     cases eB kvs j with
     | none=>rfl
     | some x=>rw [Option.map_some,if_neg e]
 · rw [if_neg a]
   refine lK k j y kvs ?_
   rw [jf] at a
   cases q:eB kvs k with
   | none=>rfl
   | some x=>rw [q] at a; exact (a rfl).elim
theorem iS (kvs:List (κ × V)) (k:κ) (v:V):(putK kvs k v).length<=kvs.length + 1:=by
 unfold putK
 split
 · rw [List.length_map]; omega
 · rw [List.length_append,List.length_cons,List.length_nil]; omega
theorem nO.getD {o:Option V} {u:Option Value} {d:V} {d':Value} (r:nO o u) (rd:RelV d d'):RelV (o.getD d) (u.getD d'):=by
 cases o with
 | none=>cases u with
   | none=>exact rd
   | some _=>exact (show False from r).elim
 | some _=>cases u with
   | none=>exact (show False from r).elim
   | some _=>exact r
theorem KV.val {kvs:List (κ × V)} {vs:List (κ × Value)} (r:KV kvs vs) (k:κ):nO (eB kvs k) (valueAt vs k):=by
 unfold KV at r
 induction r with
 | nil=>exact True.intro
 | @cons p q ps qs h t ih=>
   obtain ⟨h1,h2⟩:=h
   by_cases e:p.1=k
   · have e':q.1=k:=h1.symm.trans e
     have b:valueAt (q :: qs) k=some q.2:=by simp [valueAt,List.find?_cons,e']
     rw [bF e,b]; exact h2
   · have e':¬ q.1=k:=λz=>e (h1.trans z)
     have b:valueAt (q :: qs) k=valueAt qs k:=by simp [valueAt,List.find?_cons,e']
     rw [bC e,b]; exact ih
theorem KV.any {kvs:List (κ × V)} {vs:List (κ × Value)} (r:KV kvs vs) (k:κ):(kvs.any λkv=>decide (kv.1=k))=vs.any λkv=>decide (kv.1=k):=by
 unfold KV at r
 induction r with
 | nil=>rfl
 | cons h t ih=>rw [List.any_cons,List.any_cons,ih,h.1]
theorem KV.C2 {kvs:List (κ × V)} {vs:List (κ × Value)} (r:KV kvs vs) (k:κ) {y:V} {u:Value} (ry:RelV y u) :
   KV (kvs.map λkv=>if kv.1=k then (kv.1,y) else kv) (vs.map λkv=>if kv.1=k then (kv.1,u) else kv):=by
 unfold KV at r ⊢
 induction r with
 | nil=>exact .nil
 | @cons p q ps qs h t ih=>
   rw [List.map_cons,List.map_cons]
   refine .cons ?_ ih
   obtain ⟨h1,h2⟩:=h
   by_cases e:p.1=k
   · rw [if_pos e,if_pos (h1.symm.trans e)]; exact ⟨h1,ry⟩
   · rw [if_neg e,if_neg (λz=>e (h1.trans z))]; exact ⟨h1,h2⟩
theorem KV.put {kvs:List (κ × V)} {vs:List (κ × Value)} (r:KV kvs vs) (k:κ) {y:V} {u:Value} (ry:RelV y u):KV (putK kvs k y) (stored vs k u):=by
 unfold putK stored
 rw [r.any k]
 by_cases e:(vs.any λkv=>decide (kv.1=k))=true
 · rw [if_pos e,if_pos e]; exact r.C2 k ry
 · rw [if_neg e,if_neg e]; exact Paired.snoc r ⟨rfl,ry⟩
theorem KV.keys {kvs:List (κ × V)} {vs:List (κ × Value)} (r:KV kvs vs):kvs.map (·.1)=vs.map (·.1):=by
 unfold KV at r
 induction r with
 | nil=>rfl
 | cons h t ih=>rw [List.map_cons,List.map_cons,ih,h.1]
theorem KV.length {kvs:List (κ × V)} {vs:List (κ × Value)} (r:KV kvs vs):kvs.length=vs.length:=Paired.length r
end
theorem qH {P:Program} {w:World} {k:Key} {u:Value} (r:RelV (kV k) u):(bw P w).is k u=true:=by
 cases k with
 | inl i=>obtain ⟨t,e⟩:=(show ∃ t,u=Value.int i t from r); subst e; exact oz P w i t
 | inr x=>obtain ⟨t,e⟩:=(show ∃ t,u=Value.str x t from r); subst e; exact oA P w x t
section
variable {P:Program} {w:World} {H:Hp} {h:Heap} {a:Addr}
theorem B8 {u:HO} (ok:HOk P w H h) (e:Rd H a u):bh P w H h a u:=e.ok ok
theorem oT {kvs:List (Key × V)} (ok:HOk P w H h) (e:Rd H a (.dK kvs)):kvs.length<=sizeLine/\(a == sysModules)=false/\∃ vs,KV kvs vs/\h.DictOf (bw P w) a vs:=
 show bh P w H h a (.dK kvs) from B8 ok e
theorem rD {kvs:List (Key × V)} (ok:HOk P w H h) (e:H a=some (.dK kvs)):kvs.length<=sizeLine/\(a == sysModules)=false/\∃ vs,KV kvs vs/\h.DictOf (bw P w) a vs:=oT ok (.inl e)
end
noncomputable def vy (H:Hp) (a:Addr) (y:V) (r:Option V):Prop:=∃ kvs k,Rd H a (.dK kvs)/\y=kV k/\r=eB kvs k
noncomputable def B7 (H:Hp) (a:Addr) (y v:V) (H':Hp):Prop:=∃ kvs k,H a=some (.dK kvs)/\y=kV k/\kvs.length < sizeLine/\H'=upd H a (.dK (putK kvs k v))
section
variable {X:Cx} {pins:List (Addr × Obj)} {σ:St} {H:Hp} {s:Shared} {a:Addr} {y v:V} {u r:Value} {o:Option V} {A:Around} {E:Value->Shared->Prop}
theorem Inv.big (I:Inv X pins σ H s):sysModules < s.heap.objs.size:=by
 have h:mainGlobals < s.heap.objs.size:=(I.mod.glob.keeps I.bk).lt
 exact Nat.lt_trans (by decide) h
theorem so {Q:Value->Shared->Prop} (hu:A.units + 1 < cLine) (I:Inv X pins σ H s) (g:vy H a y (some v)) (ry:RelV y u) (h:∀ w' s',Inv X pins σ H s'->RelV v w'->Q w' s') :
   wpAny (model X.prog X.w) A (getItem (.ref a) u) Q E s:=by
 obtain ⟨kvs,k,e,ey,l⟩:=g
 subst ey
 obtain ⟨z,hd,vs,rel,dd⟩:=oT I.hok e
 obtain ⟨w',hw,rw'⟩:=nO.some_of (v:=v) (o:=valueAt vs k) (by rw [l]; exact rel.val k)
 exact wpAny_getItem_of (qH ry) dd.mapOf hw (h w' _ (I.tok _) rw')
theorem d8 {h':Heap} {t':Nat} {ob:HO} (I:Inv X pins σ H s) (mu:Mut (H a)) (hs:Heap.SameBut a s.heap h') (he:∃ q,h'.get? a=some q) (new:bh X.prog X.w (upd H a ob) h' a ob) :
   Inv X pins σ (upd H a ob) { s with heap:=h',toks:=t' }:=
 I.write (x:=a) (e:=a) mu (.inl rfl) (λb q hb z=>(hs.2 b hb).trans z) he new
theorem mD {P:Program} {w:World} {H':Hp} {h':Heap} {kvs:List (Key × V)} {vs:List (Key × Value)} (z:kvs.length<=sizeLine) (hd:(a == sysModules)=false) (rel:KV kvs vs) (dd:h'.DictOf (bw P w) a vs) :
   bh P w H' h' a (.dK kvs):=⟨z,hd,vs,rel,dd⟩
theorem tD {H':Hp} {Q:Unit->Shared->Prop} (hu:A.units + 1 < cLine) (I:Inv X pins σ H s) (g:B7 H a y v H') (ry:RelV y u) (rv:RelV v r) (h:∀ s',Inv X pins σ H' s'->Q () s') :
   wpAny (model X.prog X.w) A (setItem (.ref a) u r) Q E s:=by
 obtain ⟨kvs,k,e,ey,l,eH⟩:=g
 subst ey eH
 obtain ⟨z,hd,vs,rel,dd⟩:=rD I.hok e
 have hz:vs.length<=sizeLine:=by rw [<- rel.length]; exact z
 have hl:(putK kvs k v).length<=sizeLine:=by have:=iS kvs k v; omega
 refine wpAny_setItem_pairs (hsz:=hz) (qH ry) dd λh' dd' hs=>h _ ?_
 have he:∃ q,h'.get? a=some q:=let ⟨q,_,_,hq,_⟩:=dd'; ⟨q,hq⟩
 exact d8 I (by rw [e]; exact True.intro) hs he (mD hl hd (rel.put k rv) dd')
end
section
variable {X:Cx} {pins:List (Addr × Obj)} {σ:St} {H:Hp} {s:Shared} {a:Addr} {kvs:List (Key × V)} {k:Key} {u:Value} {A:Around} {E:Value->Shared->Prop}
end
noncomputable def oK (i:Expr):Prop:=∀ ov iv,subscripted i false ov iv=operate [ov,iv] (getItem ov iv)
theorem mr {prog:Program} {w:World} {A:Around} {E:Value->Shared->Prop} {s:Shared} {env:Env} {value slice:Expr} {pos:Pos} {T id:String} {Q:Value->Shared->Prop}
   (hl:typeLookup (.type T) "__getitem__" = pure (some (.builtin id))) (hs:oK slice)
   (h:wpAny (model prog w) A (eval value env) (λo s₁=>wpAny (model prog w) A (eval slice env) (λi s₂=>s₂.TypeIs o T/\wpAny (model prog w) A (getItem o i) Q E s₂) E s₁) E s) :
   wpAny (model prog w) A (eval (.Subscript value slice pos) env) Q E s:=by
 refine Subscript_ (wpAny_mono h (λo s₁ h₁=>wpAny_mono h₁ (λi s₂ h₂=>?_) λ_ _ x=>x) λ_ _ x=>x)
 obtain ⟨hT,h₂⟩:=h₂
 unfold subscriptTail
 refine wpAny_bind ?_
 rw [getitemInPython_of_ne hT.not_modules]
 refine wpAny_bind (wpAny_specialOf hT hl ?_)
 have fin:wpAny (model prog w) A (subscripted slice false o i) (λr s₃=>wpAny (model prog w) A (letTemporaryGo value o r >>= λ_=>pure r) Q E s₃) E s₂:=by
   rw [hs o i]
   exact wpAny_operating (wpAny_mono h₂ (λr s₃ h₃=>wpAny_bind (wpAny_letTemporaryGo (wpAny_pure h₃))) λ_ _ x=>x)
 first
   | exact wpAny_pure (wpAny_bind fin)
   | exact wpAny_bind (wpAny_pure (wpAny_bind fin))
   | exact wpAny_bind fin
theorem nW {X:Cx} {pins:List (Addr × Obj)} {σ:St} {H:Hp} {s:Shared} {a:Addr} {y:V} {o:Option V} (I:Inv X pins σ H s) (g:vy H a y o):s.TypeIs (.ref a) "dict":=by
 obtain ⟨kvs,k,e,_,_⟩:=g
 obtain ⟨_,_,vs,_,dd⟩:=oT I.hok e
 exact dd.typeIs
noncomputable def Cu (td ty:TE):TE:=λσ H Q=>td σ H λx H1=>ty σ H1 λy H2=>∃ a v,x=.ref a/\vy H2 a y (some v)/\Q v H2
noncomputable def BV (td ty tv:TE):TS:=λD σ H=>tv σ H λv H1=>td σ H1 λx H2=>ty σ H2 λy H3=>∃ a H4,x=.ref a/\B7 H3 a y v H4/\D.nx σ H4
section
variable {X:Cx} {o i e value:Expr} {pos pos' tpos:Pos} {td ty tv:TE}
theorem wR (hu:X.A.units + 1 < cLine) (ho:PE X o td) (hi:PE X i ty) (hs:oK i):PE X (.Subscript o i pos) (Cu td ty):=by
 intro pins s σ H Q I h
 refine mr PySem.F.slot_dict_getitem.lookup hs (thn (ho pins s σ H _ I h) λu s1 ⟨x,H1,I1,rx,q1⟩=>thn (hi pins s1 σ H1 _ I1 q1) λiv s2 ⟨y,H2,I2,ry,a,v,ex,g,q2⟩=>?_)
 subst ex
 obtain rfl:u=Value.ref a:=rx
 exact ⟨nW I2 g,so hu I2 g ry λw' s3 I3 rw'=>⟨v,H2,I3,rw',q2⟩⟩
theorem xY (hu:X.A.units + 1 < cLine) (ho:PE X o td) (hi:PE X i ty) (hv:PE X value tv) (hs:swapsWith value (some (.Subscript o i pos')) pos.line X.env=pure false) :
   PS X (.Assign [.Subscript o i pos'] value pos) (BV td ty tv):=by
 intro pins s σ H D I h
 refine wpAny_Assign_Subscript (thn (hv pins s σ H _ I h) λr s1 ⟨v,H1,I1,rv,q1⟩=>thn (ho pins s1 σ H1 _ I1 q1) λu s2 ⟨x,H2,I2,rx,q2⟩=>thn (hi pins s2 σ H2 _ I2 q2) λiv s3 ⟨y,H3,I3,ry,a,H4,ex,g,q3⟩=>?_) hs
 subst ex
 obtain rfl:u=Value.ref a:=rx
 exact tD hu I3 g ry rv λs4 I4=>⟨σ,H4,I4,q3⟩
end
theorem pf {P:Program} {w:World} {H:Hp} (h:Heap) (hb:sysModules < h.objs.size):bh P w H (h.push { cls:=.type "dict",data:=.dict #[] }) h.objs.size (.dK []):=
 ⟨Nat.zero_le _,beq_eq_false_iff_ne.mpr (Ne.symm (Nat.ne_of_lt hb)),[],.nil,Heap.DictOf.new h⟩
noncomputable def AX:TE:=λ_ H Q=>∀ p,H p=none->Q (.ref p) (upd H p (.dK []))
section
variable {X:Cx} {pos:Pos}
theorem tU:PE X (.Dict [] [] pos) AX:=λpins s σ H Q I h=>
 wpAny_Dict_empty ⟨.ref s.heap.objs.size,_,I.laid (a:=s.heap.objs.size) (o:=.dK []) (t':=s.toks) (λ_ _ q=>Heap.get?_push_of_some _ q) (Nat.le_refl _) (pf s.heap I.big),rfl,h _ (I.hok.fresh (Nat.le_refl _))⟩
end
noncomputable def pH:List (TE × TE)->St->Hp->(List (V × V)->Hp->Prop)->Prop
 | [],_,H,Q=>Q [] H
 | (tk,tv) :: r,σ,H,Q=>tk σ H λx H1=>tv σ H1 λy H2=>pH r σ H2 λps H3=>Q ((x,y) :: ps) H3
noncomputable abbrev VV:List (V × V)->List (Value × Value)->Prop:=Paired λp q=>RelV p.1 q.1/\RelV p.2 q.2
noncomputable def PPs (X:Cx) (pos:Pos) (keys:List (Option Expr)) (values:List Expr) (trs:List (TE × TE)):Prop:=
 ∀ (pins:List (Addr × Obj)) (s:Shared) (σ:St) (H:Hp) (Q:List (V × V)->Hp->Prop),Inv X pins σ H s->pH trs σ H Q ->
   wpAny (model X.prog X.w) X.A (evalPairs (pairTrees keys values X.env pos)) (λvs s'=>∃ ps H',Inv X pins σ H' s'/\VV ps vs/\Q ps H') X.xe s
theorem wJ {X:Cx} {pos:Pos}:PPs X pos [] [] []:=λpins s σ H Q I h=>pairTrees_nil_walk ⟨[],H,I,.nil,h⟩
theorem uG {X:Cx} {pos:Pos} {k v:Expr} {ks:List (Option Expr)} {vs:List Expr} {tk tv:TE} {trs:List (TE × TE)} (hk:PE X k tk) (hv:PE X v tv) (hr:PPs X pos ks vs trs) :
   PPs X pos (some k :: ks) (v :: vs) ((tk,tv) :: trs):=λpins s σ H Q I h=>
 pairTrees_cons_walk (thn (hk pins s σ H _ I h) λu s1 ⟨x,H1,I1,rx,q1⟩=>thn (hv pins s1 σ H1 _ I1 q1) λw2 s2 ⟨y,H2,I2,ry,q2⟩=>
   thn (hr pins s2 σ H2 _ I2 q2) λws s3 ⟨ps,H3,I3,rel,q3⟩=>⟨(x,y) :: ps,H3,I3,.cons ⟨rx,ry⟩ rel,q3⟩)
noncomputable def hV (kvs more:List (Key × V)):List (Key × V):=more.foldl (λacc kv=>putK acc kv.1 kv.2) kvs
theorem KV.merge:∀ {more:List (Key × V)} {rs:List (Key × Value)} {kvs:List (Key × V)} {vs:List (Key × Value)},KV more rs->KV kvs vs->KV (hV kvs more) (merged vs rs):=by
 intro more rs kvs vs r
 unfold KV at r
 induction r generalizing kvs vs with
 | nil=>intro q; exact q
 | @cons p q ps qs h t ih=>
   intro r0
   have e:KV (putK kvs p.1 p.2) (stored vs q.1 q.2):=by
     have:=r0.put p.1 h.2
     rw [<- h.1]; exact this
   exact ih e
theorem fY:∀ (more kvs:List (Key × V)),(hV kvs more).length<=kvs.length + more.length
 | [],kvs=>by show kvs.length<=kvs.length + 0; omega
 | p :: r,kvs=>by
   have h1:=fY r (putK kvs p.1 p.2)
   have h2:=iS kvs p.1 p.2
   show (hV (putK kvs p.1 p.2) r).length<=_
   rw [List.length_cons]; omega
theorem ji {P:Program} {w:World}:∀ {kvs:List (Key × V)} {ws:List (Value × Value)},VV (kvs.map λkv=>(kV kv.1,kv.2)) ws->∃ rs,Carries (bw P w) ws rs/\KV kvs rs
 | [],_,r=>by rw [List.map_nil] at r; cases r; exact ⟨[],True.intro,.nil⟩
 | p :: kvs,_,r=>by
   rw [List.map_cons] at r
   cases r with
   | @cons a b as bs h t=>
     obtain ⟨rs,c,q⟩:=ji (P:=P) (w:=w) t
     obtain ⟨b1,b2⟩:=b
     exact ⟨(p.1,b2) :: rs,⟨qH h.1,rfl,c⟩,.cons ⟨rfl,h.2⟩ q⟩
noncomputable def Cv (trs:List (TE × TE)):TE:=λσ H Q=>∀ p,H p=none->pH trs σ (upd H p (.dK [])) λps H2=>H2 p=some (.dK [])/\∃ kvs:List (Key × V),ps=kvs.map (λkv=>(kV kv.1,kv.2))/\kvs.length<=15/\Q (.ref p) (upd H2 p (.dK (hV [] kvs)))
theorem xF {X:Cx} {pos:Pos} {keys:List (Option Expr)} {values:List Expr} {trs:List (TE × TE)} (h:PPs X pos keys values trs) (hall:keys.all (·.isSome)=true) (hl:keys.length=values.length) (h0:keys ≠ [])
   (h15:keys.length<=15):PE X (.Dict keys values pos) (Cv trs):=by
 intro pins s σ H Q I q
 have hn:=I.hok.fresh (Nat.le_refl s.heap.objs.size)
 have I1:=I.laid (a:=s.heap.objs.size) (o:=.dK []) (h':=s.heap.push { cls:=.type "dict",data:=.dict #[] }) (t':=s.toks) (λ_ _ q=>Heap.get?_push_of_some _ q) (Nat.le_refl _) (pf s.heap I.big)
 refine wpAny_Dict_walk (knd:=bw X.prog X.w) hall hl h0 h15 (thn (h pins _ σ _ _ I1 (q _ hn)) λws s2 ⟨ps,H2,I2,rel,e,kvs,ep,lk,q2⟩=>?_)
 subst ep
 obtain ⟨rs,c,rk⟩:=ji (P:=X.prog) (w:=X.w) rel
 obtain ⟨z,hd,vs0,r0,dd⟩:=rD I2.hok e
 cases r0
 refine ⟨rs,c,dd,λh' dd' hs=>⟨.ref s.heap.objs.size,_,?_,rfl,q2⟩⟩
 have hz:(hV [] kvs).length<=sizeLine:=by
   have h1:=fY kvs []
   rw [List.length_nil] at h1
   rw [sizeLine_eq]; omega
 have he:∃ q,h'.get? s.heap.objs.size=some q:=let ⟨q,_,_,hq,_⟩:=dd'; ⟨q,hq⟩
 exact d8 I2 (by rw [e]; exact True.intro) hs he (mD hz hd (rk.merge .nil) dd')
structure M2 (X:Cx) (o:Expr) (m:Str) (apos:Pos) (e f:Expr) (cpos:Pos):Prop where
 base:attributeBase o m X.env (eval o X.env)=eval o X.env
 few:((backTo cpos (starEach [e,f] X.env)).all (λx=>!x.1) && (backToKw cpos (keywordEach [] X.env)).all (λx=>x.1.isSome)
   && decide (([e,f]:List Expr).length + ([]:List Keyword).length + (if ([]:List Keyword).isEmpty then 0 else 1) < 30))=true
 line:(apos.endLine == cpos.line)=true
 trees:backTo cpos (starEach [e,f] X.env)=[(false,eval e X.env),(false,eval f X.env)]
noncomputable def IsD (H:Hp) (a:Addr):Prop:=∃ kvs,Rd H a (.dK kvs)
theorem Ap {X:Cx} {pins:List (Addr × Obj)} {σ:St} {H:Hp} {s:Shared} {a:Addr} (I:Inv X pins σ H s) (d:IsD H a) :
   s.TypeIs (.ref a) "dict" /\ (∀ b,Value.ref a=.ref b->∃ ob,s.heap.get? b=some ob/\ob.dict=none)/\(a == sysModules)=false:=by
 obtain ⟨kvs,e⟩:=d
 obtain ⟨_,hd,vs,_,dd⟩:=oT I.hok e
 refine ⟨dd.typeIs,λb q=>?_,hd⟩
 cases q
 obtain ⟨ob,_,_,h1,h2,_⟩:=dd
 exact ⟨ob,h1,h2.2.1⟩
section
variable {X:Cx} {pins:List (Addr × Obj)} {σ:St} {H:Hp} {s:Shared} {a:Addr} {y d:V} {u r:Value} {o:Option V} {A:Around} {E:Value->Shared->Prop}
theorem AU {Q:Value->Shared->Prop} (hu:A.units + 1 < cLine) (I:Inv X pins σ H s) (g:vy H a y o) (ry:RelV y u) (rd:RelV d r) (h:∀ w' s',Inv X pins σ H s'->RelV (o.getD d) w'->Q w' s') :
   wpAny (model X.prog X.w) A (call (.builtin "dict.get") [.ref a,u,r]) Q E s:=by
 obtain ⟨kvs,k,e,ey,l⟩:=g
 subst ey
 obtain ⟨z,hd,vs,rel,dd⟩:=oT I.hok e
 refine call_meetsIn PySem.F.slot_dict_get dd.typeIs PySem.F.entry_dict_get (PySem.F.args_dict_get_3 _ _ _) (meets_dict_get_default (bw X.prog X.w) a (qH ry) hd r) ⟨_,dd.mapOf,h _ _ (I.tok _) ?_⟩
 rw [l]
 exact (rel.val k).getD rd
end
noncomputable def AY (td ty tx:TE):TE:=λσ H Q=>td σ H λx H1=>∃ a,x=.ref a/\IsD H1 a/\ty σ H1 λy H2=>tx σ H2 λz H3=>∃ o,vy H3 a y o/\Q (o.getD z) H3
section
variable {X:Cx} {o e f:Expr} {apos cpos:Pos} {td ty tx:TE}
theorem uz (hu:X.A.units + 1 < cLine) (ho:PE X o td) (he:PE X e ty) (hf:PE X f tx) (m:M2 X o "get" apos e f cpos):PE X (.Call (.Attribute o "get" apos) [e,f] [] cpos) (AY td ty tx):=by
 intro pins s σ H Q I h
 refine wpAny_Call_method m.base m.few m.line PySem.F.plainAttrs_dict PySem.F.slot_dict_get PySem.F.type_dict_get (thn (ho pins s σ H _ I h) λu s1 ⟨x,H1,I1,rx,a,ex,d,q1⟩=>?_)
 subst ex
 obtain rfl:u=Value.ref a:=rx
 obtain ⟨t1,t2,_⟩:=Ap I1 d
 refine ⟨t1,t2,?_⟩
 rw [m.trees]
 refine Calls.callWith_builtin rfl (Calls.evalArgs_plain (Calls.spliced_cons (thn (he pins s1 σ H1 _ I1 q1) λiv s2 ⟨y,H2,I2,ry,q2⟩=>
   Calls.spliced_cons (thn (hf pins s2 σ H2 _ I2 q2) λfv s3 ⟨z,H3,I3,rz,ov,g,q3⟩=>Calls.spliced_nil ?_))))
 exact AU hu I3 g ry rz λw' s4 I4 rw'=>⟨_,H3,I4,rw',q3⟩
end
end L2
namespace Ev
open PySem PySem.Spec PyProof.Rows L2
open PySem.Builtin.Range (rangeFitsLong rangeSize)
noncomputable def gI (n:Int):Obj:={ cls:=.type "range_iterator",data:=.fields #[rawInt (0 + (rangeSize 0 n 1 - 1) * 1),rawInt (rangeSize 0 n 1),rawInt (-1)] }
theorem fits_of {i:Int} (h1:-(2 ^ 62)<=i) (h2:i<=2 ^ 62):rangeFitsLong i=true:=by
 unfold rangeFitsLong
 rw [Bool.and_eq_true,decide_eq_true_iff,decide_eq_true_iff]
 omega
theorem v9 {n:Int} (h:0<=n):rangeSize 0 n 1=n:=by
 rw [rangeSize_one]
 split <;> omega
theorem yX {n:Int} (h0:0<=n) (h1:n < 2 ^ 62):(rangeFitsLong 0 && rangeFitsLong n && rangeFitsLong 1 && rangeFitsLong (-1) && rangeFitsLong (0 - 1) && rangeFitsLong (rangeSize 0 n 1))=true:=by
 rw [v9 h0,fits_of (i:=n) (by omega) (by omega)]
 decide
theorem sx (r:Addr) (n:Int) (t u v:Tok) (hs:(rangeFitsLong 0 && rangeFitsLong n && rangeFitsLong 1 && rangeFitsLong (-1) && rangeFitsLong (0 - 1) && rangeFitsLong (rangeSize 0 n 1))=true) :
   Meets (Builtin.«range.__reversed__» ⟨[.ref r],[]⟩) (λ_ R s=>IsRange s.heap r 0 n 1 t u v/\R (.ok (.ret (Value.ref s.heap.objs.size))) { s with heap:=s.heap.push (gI n),toks:=s.toks }):=
 .of_wp λprog w A R s h=>by
   obtain ⟨hp,g,d,tk,os⟩:=s
   obtain ⟨hl,h⟩:=h
   have hs':(!(rangeFitsLong 0 && rangeFitsLong n && rangeFitsLong 1 && rangeFitsLong (-1) && rangeFitsLong (0 - 1) && rangeFitsLong (rangeSize 0 n 1)))=false:=by rw [hs]; rfl
   wp_walk
   rw [if_neg (by rw [hs]; decide),if_pos hs]
   exact wpAny_bind (wpAny_newObj_type (wpAny_pure ⟨_,rfl,h⟩))
section
variable {prog:Program} {w:World} {A:Around} {E:Value->Shared->Prop} {s:Shared}
theorem ke {r:Addr} {n:Int} {t u v:Tok} {Q:Value->Shared->Prop} (hr:IsRange s.heap r 0 n 1 t u v) (h0:0<=n) (h1:n < 2 ^ 62)
   (h:Q (.ref s.heap.objs.size) { s with heap:=s.heap.push (gI n) }):wpAny (model prog w) A (call (.builtin "range.__reversed__") [.ref r]) Q E s:=
 call_meets F.slot_range_reversed ⟨_,hr,rfl⟩ F.entry_range_reversed (F.args_range_reversed_1 _) (sx r n t u v (yX h0 h1)) ⟨hr,h⟩
theorem mh {r:Addr} {n:Int} {t u v:Tok} {Q₁:Value->Shared->Prop} (hr:IsRange s.heap r 0 n 1 t u v) (h0:0<=n) (h1:n < 2 ^ 62)
   (h:Q₁ (.ref s.heap.objs.size) { s with heap:=s.heap.push (gI n) }) :
   codeAny (model prog w) A (.call (.builtin "reversed.__new__") ⟨[.type "reversed",.ref r],[]⟩) (wants Q₁ E) s:=by
 have hT:s.TypeIs (.ref r) "range":=⟨_,hr,rfl⟩
 refine codeAny_of_tree ?_
 refine wpAny_bind (wpAny_of_eq (F.newCall_reversed_1 _) (wpAny_pure ⟨plainId_quiet F.plain_reversed_new _,codeAny_builtin F.entry_reversed_new ?_⟩))
 rw [Around.under_plainId F.plain_reversed_new _]
 unfold Builtin.«reversed.__new__»
 refine wpAny_bind (wpAny_of_eq (newClass_reversed _) ?_)
 try dsimp only
 refine wpAny_bind (wpAny_of_eq (a:=()) (by first | rfl | kernel_rfl) ?_)
 refine wpAny_bind (wpAny_of_eq (a:=()) (by first | rfl | kernel_rfl) ?_)
 try dsimp only
 refine wpAny_bind (wpAny_specialOf hT F.slot_range_reversed.lookup ?_)
 try dsimp only
 refine wpAny_bind (wpAny_of_eq (F.slot_range_reversed.bind _) ?_)
 try dsimp only
 first
 | rw [if_neg (show ¬ ((Value.builtin "range.__reversed__" == Value.none)=true) from Bool.false_ne_true)]
 | (show wpAny _ _ (if (Value.builtin "range.__reversed__" == Value.none)=true then _ else _) _ _ _; rw [if_neg (show ¬ ((Value.builtin "range.__reversed__" == Value.none)=true) from Bool.false_ne_true)])
 refine wpAny_bind (wpAny_rule ?_)
 refine wpAny_bind (m:=runValue (.call (.builtin "range.__reversed__") ⟨[.ref r],[]⟩)) (show wpAny _ _ (call (.builtin "range.__reversed__") [.ref r]) _ _ _ from ke hr h0 h1 ?_)
 first
 | exact wpAny_pure h
 | exact wpAny_bind (wpAny_pure (wpAny_pure h))
theorem iW:isSubtype (.type "range_iterator") (.type "reversed")=pure false:=by rw [isSubtype_type]; kernel_rfl
theorem j9 {r:Addr} {n:Int} {t u v:Tok} {Q:Value->Shared->Prop} (hr:IsRange s.heap r 0 n 1 t u v) (h0:0<=n) (h1:n < 2 ^ 62)
   (h:Q (.ref s.heap.objs.size) { s with heap:=s.heap.push (gI n) }):wpAny (model prog w) A (call (.type "reversed") [.ref r]) Q E s:=by
 refine callType_other (U:="range_iterator") (Q₁:=λobj s₁=>obj=.ref s.heap.objs.size/\s₁={ s with heap:=s.heap.push (gI n) }) (by decide +kernel) F.create_reversed ⟨_,_,F.mro_reversed⟩ F.made_reversed iW (F.typeCall_reversed_1 _) (mh hr h0 h1 ⟨rfl,rfl⟩) ?_
 rintro obj s₁ ⟨rfl,rfl⟩
 exact ⟨⟨_,Heap.get?_push_size _ rfl,rfl⟩,h⟩
end
noncomputable def Itd (n:Nat):L2.It:=⟨λi _=>i < n,λi H x H'=>H'=H/\x=.int ((n:Int) - 1 - i),λi _=>n<=i⟩
theorem xU {P:Program} {w:World} {K:PySem.W.Frag} {tg:Expr} (it:Addr) (n:Nat):Turn P w K false tg (Itd n) [it] it (λi h=>i<=n/\IsRangeIter h it ((n:Int) - 1 + (i:Nat) * (-1)) ((n:Int) - (i:Nat)) (-1)) where
 mem:=by simp
 obj:=λi h st b hb=>by
   have e:b=it:=by simpa using hb
   subst e
   exact ⟨_,st.2,λv z=>by
     have z':Data.fields _=Data.cell v:=z
     cases z'⟩
 keep:=λi h h' st k=>⟨st.1,k it (by simp) _ st.2⟩
 item:=by
   intro X hP hw hK hc i pins s σ H E I hf st hg
   subst hP hw hK
   obtain ⟨f0,f1,f2,f3,f4,f5⟩:=hf it (by simp)
   have W:=Walks.range (prog:=X.prog) (w:=X.w) (I.ok.hd hc.calm) it ((n:Int) - 1) (-1) n
   refine W.item i s _ _ hg st.2 λv h' tk hv st' kk=>?_
   obtain ⟨t,rfl⟩:=hv
   have I1:Inv X pins σ H { s with heap:=h',toks:=tk }:=I.turned (λb o hb e=>kk b o (by simpa using hb) e) f0 f1 f3 f4 f5
   refine ⟨_,rfl,qC (s:={ s with heap:=h',toks:=tk }) (n:="range_iterator") st' rfl rfl (by decide) ⟨.int ((n:Int) - 1 - i),H,I1,⟨t,?_⟩,⟨rfl,rfl⟩,⟨hg,st'⟩,λb hb=>(hf b hb).1⟩⟩
   rw [Int.mul_neg,Int.mul_one,<- Int.sub_eq_add_neg]
 done:=by
   intro X hP hw hK hc i pins s σ H E I hf st hg
   subst hP hw hK
   obtain ⟨f0,f1,f2,f3,f4,f5⟩:=hf it (by simp)
   have hg:n<=i:=hg
   obtain rfl:i=n:=Nat.le_antisymm st.1 hg
   have W:=Walks.range (prog:=X.prog) (w:=X.w) (I.ok.hd hc.calm) it ((i:Int) - 1) (-1) i
   exact W.done s _ _ st.2 λh' tk kk=>⟨rfl,I.turned (λb o hb e=>kk b o (by simpa using hb) e) f0 f1 f3 f4 f5⟩
 self:=λ_ _ _ _ _ st h=>wpAny_pyIter_rangeiter st.2 h
section
variable {X:Cx} {tg:Expr}
noncomputable def iDn (ta:TA):TI:=λσ H R=>ta σ H λvs H1=>∃ n:Nat,vs=[.int n]/\n < 1000/\R (Itd n) H1
theorem yM {a:Expr} {ta:TA} {p p' pos pos':Pos} (hc:X.calm=true) (hg:Gl X "reversed") (hm:X.mg "reversed" = none) (hg':Gl X "range") (hm':X.mg "range" = none) (ha:PA X [a] ta) (hs':starEach [a] X.env=[(false,eval a X.env)]:=by rfl)
   (hs:starEach [.Call (.Name "range" p') [a] [] pos'] X.env=[(false,eval (.Call (.Name "range" p') [a] [] pos') X.env)]:=by rfl):PI X tg (.Call (.Name "reversed" p) [.Call (.Name "range" p') [a] [] pos'] [] pos) (iDn ta):=by
 intro pins s σ H R I h
 refine Call_ (d9 I hg hm vB (PyProof.Rows.callWith_type1 ?_ hs rfl))
 rw [hs]
 refine Calls.spliced_cons (Call_ (d9 I hg' hm' boot_range (PyProof.Rows.callWith_type1 (thn (ha pos' pins s σ H _ I h) λus s1 ⟨vs,H1,I1,r1,n,e,hn,q⟩=>?_) hs' rfl)))
 subst e
 cases r1 with
 | cons r rr=>
   cases rr
   obtain ⟨t,rfl⟩:=r
   refine call_range_1 (Calls.spliced_nil ?_)
   have I2:Inv X pins σ H1 { s1 with heap:=s1.heap.push { cls:=.type "range",data:=.fields #[.int 0 s1.toks,.int n t,.int 1 (s1.toks + 1)] },toks:=s1.toks + 1 + 1 }:=I1.kept λb o e=>Heap.get?_push_of_some _ e
   refine j9 (IsRange.new ..) (by omega) (by omega) ?_
   have z:rangeSize 0 (n:Int) 1=n:=v9 (by omega)
   have st:(Heap.push (s1.heap.push { cls:=.type "range",data:=.fields #[.int 0 s1.toks,.int n t,.int 1 (s1.toks + 1)] }) (gI n)).get? (s1.heap.push { cls:=.type "range",data:=.fields #[.int 0 s1.toks,.int n t,.int 1 (s1.toks + 1)] }).objs.size=some (gI n):=Heap.get?_push_size _ rfl
   have st':IsRangeIter (Heap.push (s1.heap.push { cls:=.type "range",data:=.fields #[.int 0 s1.toks,.int n t,.int 1 (s1.toks + 1)] }) (gI n)) (s1.heap.push { cls:=.type "range",data:=.fields #[.int 0 s1.toks,.int n t,.int 1 (s1.toks + 1)] }).objs.size ((n:Int) - 1 + ((0:Nat):Int) * (-1)) ((n:Int) - ((0:Nat):Int)) (-1):=by
     unfold IsRangeIter
     rw [st,gI,z]
     congr 6
     all_goals (simp)
   refine wpAny_pyIter_rangeiter (x:=(n:Int) - 1 + ((0:Nat):Int) * (-1)) (left:=(n:Int) - ((0:Nat):Int)) (step:=-1) st' ?_
   refine ⟨false,_,[(s1.heap.push { cls:=.type "range",data:=.fields #[.int 0 s1.toks,.int n t,.int 1 (s1.toks + 1)] }).objs.size],_,_,H1,rfl,I2.kept (t':=s1.toks + 1 + 1) λb o e=>Heap.get?_push_of_some _ e,.inl hc,xU _ n,⟨Nat.zero_le _,st'⟩,λb hb=>?_,q⟩
   have e:b=(s1.heap.push { cls:=.type "range",data:=.fields #[.int 0 s1.toks,.int n t,.int 1 (s1.toks + 1)] }).objs.size:=by simpa using hb
   subst e
   exact I2.oJ (Nat.le_refl _) (I2.hok.fresh (Nat.le_refl _))
end
end Ev
namespace Ev
open PySem PySem.Spec PyProof.Rows L2
noncomputable def b9 (kv:List (Int × Int)):List (Key × V):=kv.map λp=>(.inl p.1,.int p.2)
noncomputable def Itk (a:Addr) (o:Obj) (kv:List (Int × Int)):L2.It:=
 ⟨λi H=>i < kv.length/\H a=some (.frz o (.dK (b9 kv))),λi H x H'=>H'=H/\∃ p,kv[i]?=some p/\x=.int p.1,λi H=>kv.length<=i/\H a=some (.frz o (.dK (b9 kv)))⟩
theorem uA {X:Cx} {pins:List (Addr × Obj)} {σ:L2.St} {H:Hp} {s:Shared} {a:Addr} {o:Obj} {kvs:List (Key × V)} {es:Array DictEntry} {ep:Nat} (I:Inv X pins σ H s) (h:H a=some (.frz o (.dK kvs))) (hd:o.data=.dict es ep) :
   ∃ vs,KV kvs vs/\s.heap.DictAt (bw X.prog X.w) a vs ep:=by
 obtain ⟨e,_,_,vs,rel,o',es',ep',e',r⟩:=(show bh X.prog X.w H s.heap a (.frz o (.dK kvs)) from I.hok a _ h)
 rw [e] at e'; cases e'
 have z:=r.2.1
 rw [hd] at z
 injection z with z1 z2
 subst z1 z2
 exact ⟨vs,rel,o,es,e,r⟩
theorem tF {P:Program} {w:World} {K:PySem.W.Frag} {tg:Expr} (a it:Addr) (o:Obj) (kv:List (Int × Int)) (es:Array DictEntry) (ep:Nat) (hd:o.data=.dict es ep) :
   Turn P w K false tg (Itk a o kv) [it] it (λi h=>i<=kv.length/\h.IsKeyIter it a i kv.length ep) where
 mem:=by simp
 obj:=λi h st b hb=>by
   have e:b=it:=by simpa using hb
   subst e
   obtain ⟨o,e,c,d⟩:=st.2
   exact ⟨o,e,λv z=>by rw [d] at z; cases z⟩
 keep:=λi h h' st k=>⟨st.1,st.2.at λo e=>k it (by simp) o e⟩
 item:=by
   intro X hP hw hK hc i pins s σ H E I hf st hg
   subst hP hw hK
   obtain ⟨hi,ha⟩:=hg
   obtain ⟨f0,f1,f2,f3,f4,f5⟩:=hf it (by simp)
   obtain ⟨vs,rel,dd⟩:=uA I ha hd
   have hl:kv.length=vs.length:=by rw [<- rel.length,b9,List.length_map]
   have st2:=st.2
   rw [hl] at st2
   have hx:vs[i]?=some vs[i]:=by simp [show i < vs.length by omega]
   have kk:=congrArg (λl=>l[i]?) rel.keys
   simp only [b9,List.map_map,List.getElem?_map,hx,List.getElem?_eq_getElem hi,Option.map_some,Function.comp] at kk
   have kk:=Option.some.inj kk
   refine wpAny_pyNext_dict_item st2 dd hx λkey h' hk st' sb=>?_
   have hk:(bw X.prog X.w).is (Sum.inl kv[i].fst) key=true:=by rw [kk]; exact hk
   obtain ⟨t,rfl⟩:=Value.isInt_shape (show Value.isInt _ key=true from hk)
   have I1:Inv X pins σ H { s with heap:=h' }:=I.turned (t':=s.toks) (λb o hb e=>(sb.2 b hb).trans e) f0 f1 f3 f4 f5
   obtain ⟨o',e,c,d⟩:=id st'
   refine ⟨_,rfl,qC (s:={ s with heap:=h' }) e c d (by decide) ⟨.int kv[i].1,H,I1,⟨t,rfl⟩,⟨rfl,_,List.getElem?_eq_getElem hi,rfl⟩,⟨hi,by rw [hl]; exact st'⟩,λb hb=>(hf b hb).1⟩⟩
 done:=by
   intro X hP hw hK hc i pins s σ H E I hf st hg
   subst hP hw hK
   obtain ⟨hi,ha⟩:=hg
   obtain ⟨f0,f1,f2,f3,f4,f5⟩:=hf it (by simp)
   obtain ⟨vs,rel,dd⟩:=uA I ha hd
   have hl:kv.length=vs.length:=by rw [<- rel.length,b9,List.length_map]
   have st2:=st.2
   rw [hl] at st2
   exact wpAny_pyNext_dict_end (I.ok.hd hc.calm) st2 dd (List.getElem?_eq_none (by omega)) λh' eb=>⟨rfl,I.turned (t':=s.toks) (λb o hb e=>eb b o hb e) f0 f1 f3 f4 f5⟩
 self:=λ_ _ _ _ _ st h=>wpAny_pyIter_keyiter st.2 h
section
variable {X:Cx} {tg:Expr}
noncomputable def vT (tl:TE):TI:=λσ H R=>tl σ H λx H1=>∃ a o kv,x=.ref a/\H1 a=some (.frz o (.dK (b9 kv)))/\R (Itk a o kv) H1
theorem o9 {l:Expr} {tl:TE} (hc:X.calm=true) (hl:PE X l tl):PI X tg l (vT tl):=by
 intro pins s σ H R I h
 refine thn (hl pins s σ H _ I h) λu s1 ⟨x,H1,I1,r1,a,o,kv,ex,ha,q⟩=>?_
 subst ex
 cases r1
 obtain ⟨e,ok⟩:=(show bh X.prog X.w H1 s1.heap a (.frz o (.dK (b9 kv))) from I1.hok a _ ha)
 obtain ⟨z,hd,vs,rel,o',es,ep,e',r⟩:=ok
 rw [e] at e'
 cases e'
 refine wpAny_pyIter_dict hd (show s1.heap.DictAt (bw X.prog X.w) a vs ep from ⟨o,es,e,r⟩) ?_
 have hv:vs.length=kv.length:=by rw [<- rel.length,b9,List.length_map]
 refine ⟨false,s1.heap.objs.size,[s1.heap.objs.size],_,_,H1,rfl,I1.kept (t':=s1.toks) λb o e=>Heap.get?_push_of_some _ e,.inl hc,tF a _ o kv es ep r.2.1,⟨Nat.zero_le _,?_⟩,λb hb=>?_,q⟩
 · rw [<- hv]
   exact ⟨_,Heap.get?_push_size _ rfl,rfl,rfl⟩
 · have e:b=s1.heap.objs.size:=by simpa using hb
   subst e
   exact I1.oJ (Nat.le_refl _) (I1.hok.fresh (Nat.le_refl _))
end
end Ev
namespace Hy
open PySem PySem.Spec PyProof.Rows L2
open Ev (D Den aq ay aA ai aX aI)
section
variable {X:Cx} {C:Bool} {τ:List Sl} {x y z:D} {a b e:Expr} {es:List Expr} {pos p:Pos} {k:Nat} {s:Sl} {ds:List D} {i j:Int}
theorem j0 {K:PySem.W.Frag} {H:Hp}:∀ {vs:List V} {ns:List Int},aq K H vs (ns.map .int)->vs=ns.map V.int
 | _,[],h=>by cases h; rfl
 | _,n :: ns,h=>by
   cases h with
   | cons d r=>cases d; rw [j0 r]; rfl
theorem kn:∀ {ns:List Int} {us:List Value},Vals (ns.map V.int) us->∃ xs:List (Int × Tok),us=xs.map (λp=>Value.int p.1 p.2)/\xs.map (·.1)=ns
 | [],_,h=>by cases h; exact ⟨[],rfl,rfl⟩
 | n :: ns,_,h=>by
   cases h with
   | cons rv rs=>
     obtain ⟨xs,rfl,rfl⟩:=kn rs
     obtain ⟨t,rfl⟩:=(show ∃ t,_=Value.int n t from rv)
     exact ⟨(n,t) :: xs,rfl,rfl⟩
theorem u5 (hc:X.calm=true):eV X (.builtin "sum") (λxs H Q=>∃ (p:Addr) (ns:List Int),xs=[.ref p]/\SqL X.K H p (ns.map V.int)/\Q (.int ns.sum) H):=by
 intro pins s σ H xs us Q I r q
 obtain ⟨p,ns,rfl,h,q⟩:=q
 obtain ⟨u,rfl,ru⟩:∃ u,us=[u]/\RelV (.ref p) u:=by
   cases r with
   | cons r1 r=>cases r; exact ⟨_,rfl,r1⟩
 cases (show u=Value.ref _ from ru)
 obtain ⟨its,rv,pl,hz⟩:=I.list h
 obtain ⟨xs,rfl,hx⟩:=kn rv
 refine sum_intListG (xs:=xs.toArray) (I.ok.hd hc) (by have:=pl.isList; simpa [intItems] using this) λh' tk t' k=>?_
 refine ⟨.int ns.sum,H,I.kept k,⟨t',?_⟩,q⟩
 rw [List.size_toArray,preSum_eq,List.take_of_length_le (by simp),hx]
theorem A8 (hc:X.calm=true) (ns:List Int) {xs:List D} (hx:xs=ns.map .int):jI X (.builtin "sum") [.lst xs] (.d (.int ns.sum)):=⟨_,u5 hc,λM vs H Q _ d q=>by
 subst hx
 cases d with
 | cons d r=>
   cases r
   cases d with
   | lst h r=>
     cases j0 r
     exact ⟨_,_,rfl,aI aL h,q _ H [] (aj.refl _) gh (iU .int)⟩⟩
theorem xH:OpR X (binaryOp .Add) (λx y H Q=>∃ l b xs zs,x=.ref l/\y=.ref b/\SqL X.K H l xs/\SqL X.K H b zs/\xs.length + zs.length<=sizeLine/\∀ p,H p=none->Q (.ref p) (upd H p (.lst (xs++zs)))):=by
 intro pins s σ H x y v u Q I rx ry h
 obtain ⟨l,b,xs,zs,rfl,rfl,hH,hB,hz,q⟩:=h
 cases rx
 cases ry
 obtain ⟨its,r,pl,_⟩:=I.list hH
 obtain ⟨its2,r2,pl2,_⟩:=I.list hB
 have hl:=r.length
 have hl2:=r2.length
 obtain ⟨⟨cls,dd,data,sl⟩,ho,hc,n,hd⟩:=pl.isList
 obtain ⟨⟨cls2,dd2,data2,sl2⟩,ho2,hc2,n2,hd2⟩:=pl2.isList
 simp only at hc hd hc2 hd2
 subst hc hd hc2 hd2
 have e:its.toArray++its2.toArray=(its++its2).toArray:=by simp
 refine concat_meets ⟨_,ho,rfl⟩ ⟨_,ho2,rfl⟩ noFill_list_add seq_list_add PySem.F.slot_list_add PySem.F.entry_list_add (PySem.F.args_list_add_2 _ _) (list_addW l b its.toArray its2.toArray n n2 dd dd2 sl sl2 (by rw [List.size_toArray,List.size_toArray]; omega)) ⟨ho,ho2,?_⟩
 rw [e]
 exact ⟨.ref _,_,I.CS (t':=s.toks) (r.append r2) (by rw [List.length_append]; omega),rfl,q _ I.fresh⟩
theorem k9 {xs ys:List D} (ha:PE X a (dE X.K C τ (.d (.lst xs)))) (hb:PE X b (dE X.K C τ (.d (.lst ys)))) (hl:xs.length + ys.length < 1000000):PE X (.BinOp a .Add b pos) (dE X.K C τ (.o (xs++ys))):=peW (yj xH ha hb) λσ H Q ⟨A,H₀,B,S,k⟩=>
 aO S λv H1 e1 d1=>aO (S.mono e1) λw H2 e2 d2=>by
   cases d1 with
   | lst h1 r1=>cases d2 with
     | lst h2 r2=>
       refine ⟨_,_,_,_,rfl,rfl,aI (aL.trans e2) h1,aI aL h2,by rw [r1.length,r2.length]; exact Nat.le_of_lt (Nat.lt_trans hl (by decide)),λp hp=>?_⟩
       obtain ⟨z1,z2,z3⟩:=mq (K:=X.K) hp ((r1.mono (au e2 λ_ z=>z)).append r2)
       exact k _ _ [p] (e1.trans (e2.trans z1)) (λb hb=>⟨(e1.trans e2).free (z2 b hb).1,(z2 b hb).2⟩) z3
theorem mkL (h:i.natAbs < 2 ^ 60):ay i j:=.inl (by
 rcases Nat.eq_zero_or_pos i.natAbs with z | z
 · rw [z]; decide
 · exact Nat.lt_trans ((Nat.log2_lt (by omega)).mpr h) (by decide))
theorem mkR (h:j.natAbs < 2 ^ 60):ay i j:=.inr (.inl (by
 rcases Nat.eq_zero_or_pos j.natAbs with z | z
 · rw [z]; decide
 · exact Nat.lt_trans ((Nat.log2_lt (by omega)).mpr h) (by decide)))
theorem mkD (h0:j ≠ 0) (h:j.natAbs < 2 ^ 62):aA j:=⟨h0,Nat.lt_trans ((Nat.log2_lt (by omega)).mpr h) (by decide)⟩
end
theorem aw {α:Type} {xs:List α} {i:Nat} {x:α} (h:xs[i]?=some x):atI xs (i:Int)=some x:=by
 unfold atI ixN
 have:=(List.getElem?_eq_some_iff.mp h).1
 rw [if_pos (by omega),if_pos (by omega)]
 simpa using h
theorem gc {ns:List Int} {i:Int} (h0:0<=i) (h:i.toNat < ns.length):atI (ns.map D.int) i=some (.int (ns.getD i.toNat 0)):=by
 obtain ⟨n,rfl⟩:=Int.eq_ofNat_of_zero_le h0
 exact aw (by
   have h:n < ns.length:=h
   simp [h])
theorem mI {xs:List D} (n:Nat):cutD xs none (some (n:Int))=xs.take n:=by
 unfold cutD
 rw [HT.ja,HT.ot,List.drop_zero,Nat.sub_zero]
 rcases Nat.le_total n xs.length with h | h
 · rw [Nat.min_eq_left h]
 · rw [Nat.min_eq_right h,List.take_of_length_le (Nat.le_refl _),List.take_of_length_le h]
theorem qD {xs:List D} (m n:Nat):cutD xs (some (m:Int)) (some (n:Int))=(xs.take n).drop m:=by
 unfold cutD
 rw [HT.ja,HT.ja]
 rw [<- List.drop_take]
 rcases Nat.le_total n xs.length with h | h
 · rw [Nat.min_eq_left h]
   rcases Nat.le_total m xs.length with h' | h'
   · rw [Nat.min_eq_left h']
   · rw [Nat.min_eq_right h',List.drop_eq_nil_of_le (by simp; omega),List.drop_eq_nil_of_le (by simp; omega)]
 · rw [Nat.min_eq_right h,List.take_of_length_le (Nat.le_refl _),List.take_of_length_le h]
   rcases Nat.le_total m xs.length with h' | h'
   · rw [Nat.min_eq_left h']
   · rw [Nat.min_eq_right h',List.drop_eq_nil_of_le (Nat.le_refl _),List.drop_eq_nil_of_le h']
theorem getD_none {α:Type} {xs:List α} {i:Nat} {d:α} (h:xs.length<=i):xs.getD i d=d:=by simp [List.getD,h]
theorem ex1 {α:Type} {p:α->Prop} {a:α} (h:p a):∃ a,p a:=⟨a,h⟩
theorem ex3 {α:Type} {p:α->α->α->Prop} {a b c:α} (h:p a b c):∃ a b c,p a b c:=⟨a,b,c,h⟩
end Hy
namespace L2
open PySem PySem.Spec PyProof.Rows PySem.SeqAt
section
variable {P:Program} {w:World} {A:Around} {E:Value->Shared->Prop} {s:Shared}
noncomputable def HK (P:Program) (w:World) (A:Around) (h:Heap) (v:Value) (x:Int) (d:Nat):Prop:=
 ∀ (s:Shared) (E:Value->Shared->Prop) (Q:Int->Shared->Prop),s.heap=h->Q x { s with toks:=s.toks + d }->wpAny (model P w) A (pyHash v) Q E s
end
theorem rb {h:Heap} {a:Addr} {x y:Array Value} (p:IsTup h a x) (q:IsTup h a y):x=y:=by
 obtain ⟨o,ho,_,n,hd⟩:=p
 obtain ⟨o',ho',_,n',hd'⟩:=q
 rw [ho] at ho'; cases ho'
 rw [hd] at hd'; cases hd'; rfl
theorem xG {h h':Heap} {a d:Addr} {x:Array Value} {o:Obj} {es ep} (p:IsTup h a x) (ho:h.get? d=some o) (hd:o.data=.dict es ep) (hs:Heap.SameBut d h h'):IsTup h' a x:=by
 obtain ⟨o',ho',hc,n,hd'⟩:=p
 have hne:a ≠ d:=by
   rintro rfl
   rw [ho] at ho'; cases ho'
   rw [hd] at hd'; exact nomatch hd'
 exact ⟨o',(hs.2 a hne).trans ho',hc,n,hd'⟩
structure IK (P:Program) (w:World) (K:Type) [DecidableEq K] where
 is:Heap->K->Value->Prop
 hash:K->Int
 draws:K->Nat
 dep:Nat
 inj:∀ {h:Heap} {v:Value} {x y:K},is h x v->is h y v->x=y
 keeps:∀ {h h':Heap} {k:K} {v:Value} {d:Addr} {o:Obj} {es ep},is h k v->h.get? d=some o->o.data=.dict es ep->Heap.SameBut d h h'->is h' k v
 hk:∀ {A:Around} {h:Heap} {k:K} {v:Value},is h k v->A.units + dep < cLine->HK P w A h v (hash k) (draws k)
 eq:∀ {A:Around} {s:Shared} {x y:K} {u v:Value},is s.heap x u->is s.heap y v->A.units + dep < cLine->EqAt A s u v (decide (x=y))
 quiet:∀ {s:Shared} {k:K} {v:Value} {n:Nat},dep < n->is s.heap k v->∀ A E Q,Q true s->wpAny (model P w) A (eqIsQuiet n v) Q E s
section
variable {P:Program} {w:World}
noncomputable def BN:IK P w Int where
 is:=λ_ k v=>∃ t,v=.int k t
 hash:=hashInt
 draws:=λ_=>1
 dep:=0
 inj:=λ⟨_,e⟩ ⟨_,g⟩=>by rw [e] at g; cases g; rfl
 keeps:=λh _ _ _=>h
 hk:=λ⟨_,e⟩ _ s E Q _ hq=>by rw [e]; exact wpAny_pyHash_int hq
 eq:=λ{A s x y u v} ⟨_,e⟩ ⟨_,g⟩ _=>by
   rw [e,g]
   have:decide (x=y)=(x == y):=by by_cases h:x=y <;> simp [h]
   rw [this]
   exact .int_int _ _ _ _
 quiet:=λ{s k v n} hn ⟨_,e⟩ A E Q q=>by
   obtain ⟨m,rfl⟩:∃ m,n=m + 1:=⟨n - 1,by omega⟩
   rw [e]
   exact wpAny_pure q
variable {K K':Type} [DecidableEq K] [DecidableEq K']
noncomputable def kindOf (a:IK P w K) (hd:a.dep<=7):HeapKind P w K where
 is:=λh k p=>a.is h k (.ref p)
 hash:=a.hash
 draws:=a.draws
 room:=λA=>A.units + 8 < cLine
 inj:=a.inj
 keeps:=a.keeps
 pyHash:=λ{A E s k p Q} hu hk h=>a.hk hk (by omega) s E Q rfl h
 eqBool:=λ{A E s x y p p' Q} hu hx hy h=>a.eq hx hy (by omega) _ _ _ _ h
 quiet:=λ{A E s k p Q} hk h=>a.quiet (by omega) hk A E Q h
end
inductive dC {K:Type} (R:K->Value->Prop):List K->List Value->Prop where
 | nil:dC R [] []
 | cons {x:K} {v:Value} {xs:List K} {vs:List Value} (h:R x v) (r:dC R xs vs):dC R (x :: xs) (v :: vs)
section
variable {K:Type}
theorem dC.mono {R S:K->Value->Prop} (f:∀ x v,R x v->S x v):∀ {xs:List K} {vs:List Value},dC R xs vs->dC S xs vs
 | _,_,.nil=>.nil
 | _,_,.cons h r=>.cons (f _ _ h) (r.mono f)
theorem dC.inj {R:K->Value->Prop} (f:∀ x y v,R x v->R y v->x=y):∀ {xs ys:List K} {vs:List Value},dC R xs vs->dC R ys vs->xs=ys
 | _,_,_,.nil,.nil=>rfl
 | _,_,_,.cons h r,.cons g q=>by rw [f _ _ _ h g,r.inj f q]
theorem dC.length {R:K->Value->Prop}:∀ {xs:List K} {vs:List Value},dC R xs vs->xs.length=vs.length
 | _,_,.nil=>rfl
 | _,_,.cons _ r=>congrArg (· + 1) r.length
theorem dC.at {R:K->Value->Prop}:∀ {xs:List K} {vs:List Value},dC R xs vs->∀ (j:Nat) (h1:j < xs.length) (h2:j < vs.length),R xs[j] vs[j]
 | _,_,.nil,_,h1,_=>absurd h1 (Nat.not_lt_zero _)
 | _,_,.cons h _,0,_,_=>h
 | _,_,.cons _ r,j + 1,h1,h2=>r.at j (Nat.lt_of_succ_lt_succ h1) (Nat.lt_of_succ_lt_succ h2)
theorem dC.mem {R:K->Value->Prop}:∀ {xs:List K} {vs:List Value},dC R xs vs->∀ v ∈ vs,∃ x,R x v
 | _,_,.nil,_,h=>nomatch h
 | _,_,.cons h r,v,hv=>(List.mem_cons.mp hv).elim (λz=>⟨_,z ▸ h⟩) (r.mem v)
theorem all_eq [DecidableEq K] {xs ys:List K}:((List.range (min xs.length ys.length)).all (λj=>decide (xs[j]?=ys[j]?)) && xs.length == ys.length)=decide (xs=ys):=by
 rw [Bool.eq_iff_iff]
 simp only [Bool.and_eq_true,List.all_eq_true,List.mem_range,decide_eq_true_eq,beq_iff_eq]
 constructor
 · rintro ⟨h1,h2⟩
   refine List.ext_getElem? λj=>?_
   by_cases hj:j < xs.length
   · exact h1 j (by omega)
   · rw [List.getElem?_eq_none (by omega),List.getElem?_eq_none (by omega)]
 · rintro rfl
   exact ⟨λ_ _=>rfl,rfl⟩
end
section
variable {P:Program} {w:World} {K:Type} [DecidableEq K]
theorem sP {a:IK P w K} {A:Around} {E:Value->Shared->Prop} {s:Shared} {p:Addr} {its:List Value} {xs:List K} {Q:Int->Shared->Prop} (hu:A.units + (a.dep + 1) < cLine) (hk:IsTup s.heap p its.toArray) (hs:dC (a.is s.heap) xs its)
   (h:Q (reduceHash (Builtin.Tuple.tupleHashOf (xs.map a.hash))) { s with toks:=s.toks + ((xs.map a.draws).sum + 1) }):wpAny (model P w) A (pyHash (.ref p)) Q E s:=by
 obtain ⟨o,ho,hc,k,hd⟩:=hk
 have hT:s.TypeIs (.ref p) "tuple":=⟨o,ho,hc⟩
 unfold pyHash
 refine wpAny_bind (wpAny_cRoomFor_or (.inr (by omega)) ?_)
 refine wpAny_bind (wpAny_specialOf hT F.slot_tuple_hash.lookup ?_)
 show wpAny _ _ (if (some (Value.builtin "tuple.__hash__") == some Value.none)=true then _ else _) Q E s
 rw [if_neg (by rw [beq_builtin_none]; exact Bool.false_ne_true)]
 refine wpAny_bind (wpAny_specialOf hT F.slot_tuple_hash.lookup ?_)
 show wpAny _ _ (callSpecialIfBoundUnlessNone? (.ref p) "__hash__" _ >>= _) Q E s
 refine wpAny_bind (wpAny_callSpecialIfBoundUnlessNone?_slot hT F.slot_tuple_hash (wpAny_call_entry F.slot_tuple_hash hT F.entry_tuple_hash ?_ (F.args_tuple_hash_1 _)))
 show wpAny _ _ (Builtin.Tuple.tupleItemsOf (.ref p) >>= _) _ _ s
 refine wpAny_bind (wpAny_tupleItemsOf ho hd ?_)
 refine wpAny_bind ?_
 rw [<- Array.forIn_toList]
 refine wpAny_forIn_list _
   (λrest (b:Array Int) s'=>∃ (ks:List K) (n:Nat),dC (a.is s.heap) ks rest/\b.toList++ks.map a.hash=xs.map a.hash/\n + (ks.map a.draws).sum=(xs.map a.draws).sum/\s'={ s with toks:=s.toks + n })
   _ ?_ ?_ _ _ ⟨xs,0,hs,rfl,by omega,rfl⟩
 · rintro z rest b s' ⟨ks,n,hr,e1,e2,rfl⟩
   cases hr with
   | @cons x _ ks' _ hx hr=>
     refine wpAny_bind (a.hk hx (show A.units + 1 + a.dep < cLine by omega) _ _ _ rfl ?_)
     refine wpAny_pure ⟨ks',n + a.draws x,hr,?_,?_,by simp [Nat.add_assoc]⟩
     · simpa using e1
     · rw [List.map_cons,List.sum_cons] at e2
       omega
 · rintro b s' ⟨ks,n,hr,e1,e2,rfl⟩
   cases hr
   rw [List.map_nil,List.append_nil] at e1
   rw [List.map_nil,List.sum_nil,Nat.add_zero] at e2
   subst e2
   show wpAny _ _ (retInt (Builtin.Tuple.tupleHashOf b.toList)) _ _ _
   rw [e1]
   refine wpAny_ret_mkInt ?_
   show wpAny _ _ (if (decide (-(2:Int) ^ 63<=Builtin.Tuple.tupleHashOf (xs.map a.hash)) && decide (Builtin.Tuple.tupleHashOf (xs.map a.hash) < 2 ^ 63))=true then _ else _) Q E _
   unfold reduceHash at h
   by_cases hr:(decide (-(2:Int) ^ 63<=Builtin.Tuple.tupleHashOf (xs.map a.hash)) && decide (Builtin.Tuple.tupleHashOf (xs.map a.hash) < 2 ^ 63))=true
   · rw [if_pos hr]
     rw [if_pos hr] at h
     exact wpAny_pure (by simpa [Nat.add_assoc] using h)
   · rw [if_neg hr]
     rw [if_neg hr] at h
     exact wpAny_bind (wpAny_rule (wpAny_pure (by simpa [Nat.add_assoc] using h)))
theorem pW {A:Around} {E:Value->Shared->Prop} {s:Shared} {p:Addr} {its:List Value} {n:Nat} {Q:Bool->Shared->Prop} (hk:IsTup s.heap p its.toArray) (h1:∀ z ∈ its,∀ A E Q,Q true s->wpAny (model P w) A (eqIsQuiet n z) Q E s) (h:Q true s) :
   wpAny (model P w) A (eqIsQuiet (n + 1) (.ref p)) Q E s:=by
 obtain ⟨o,ho,hc,k,hd⟩:=hk
 have hT:s.TypeIs (.ref p) "tuple":=⟨o,ho,hc⟩
 unfold eqIsQuiet
 refine wpAny_bind (wpAny_specialOf hT F.slot_tuple_eq.lookup ?_)
 show wpAny _ _ (isInstance (.ref p) (.type "tuple") >>= _) _ _ s
 refine wpAny_bind (wpAny_isInstance hT isSubtype_tuple_tuple ?_)
 simp only [Bool.not_true,Bool.false_eq_true,if_false]
 refine wpAny_bind (wpAny_seqItems ho hd ?_)
 refine wpAny_bind ?_
 show wpAny _ _ (forIn its.toArray _ _) _ _ s
 rw [<- Array.forIn_toList]
 refine wpAny_forIn_list _ (λrest r s'=>r.1=none/\s'=s/\∀ z ∈ rest,z ∈ its) _ ?_ ?_ _ _ ⟨rfl,rfl,λz hz=>by simpa using hz⟩
 · rintro z rest r s' ⟨hr,rfl,hall⟩
   refine wpAny_bind (h1 z (hall z List.mem_cons_self) _ _ _ ?_)
   simp only [Bool.not_true,Bool.false_eq_true,if_false]
   exact wpAny_pure ⟨rfl,rfl,λx hx=>hall x (List.mem_cons_of_mem _ hx)⟩
 · rintro ⟨r1,r2⟩ s' ⟨hr,rfl,_⟩
   simp only at hr
   subst hr
   exact wpAny_pure h
noncomputable def zI (a:IK P w K):IK P w (List K) where
 is:=λh ks v=>∃ p its,v=.ref p/\IsTup h p its.toArray/\dC (a.is h) ks its
 hash:=λks=>reduceHash (Builtin.Tuple.tupleHashOf (ks.map a.hash))
 draws:=λks=>(ks.map a.draws).sum + 1
 dep:=a.dep + 1
 inj:=λ{h v x y} ⟨p,its,e,t,r⟩ ⟨p',its',e',t',r'⟩=>by
   rw [e] at e'
   cases e'
   have q:its=its':=congrArg Array.toList (rb t t')
   subst q
   exact dC.inj (R:=a.is h) (λ_ _ _ z1 z2=>a.inj z1 z2) r r'
 keeps:=λ⟨p,its,e,t,r⟩ ho hd hs=>⟨p,its,e,xG t ho hd hs,r.mono λ_ _ z=>a.keeps z ho hd hs⟩
 hk:=λ{A h k v} ⟨p,its,e,t,r⟩ hu s E Q eh hq=>by
   rw [e]
   subst eh
   exact sP hu t r hq
 eq:=λ{A s x y u v} hx hy hu=>by
   obtain ⟨p,its,e,t,r⟩:=id hx
   obtain ⟨p',its',e',t',r'⟩:=id hy
   rw [e,e']
   by_cases z:p=p'
   · subst z
     have q:its=its':=congrArg Array.toList (rb t t')
     subst q
     rw [decide_eq_true (dC.inj (R:=a.is s.heap) (λ_ _ _ z1 z2=>a.inj z1 z2) r r')]
     exact .same _
   · have:=EqAt.of_refs z (RcAt.tuples (e:=λj=>decide (x[j]?=y[j]?)) t t' (show A.units < cLine by omega) λj j1 j2=>by
       have l1:j < x.length:=by rw [r.length]; simpa using j1
       have l2:j < y.length:=by rw [r'.length]; simpa using j2
       rw [List.getElem?_eq_getElem l1,List.getElem?_eq_getElem l2]
       have:=a.eq (A:=A.in1) (r.at j l1 (by simpa using j1)) (r'.at j l2 (by simpa using j2)) (show A.units + 1 + a.dep < cLine by omega)
       simpa using this)
     have el:(its.toArray.size,its'.toArray.size)=(x.length,y.length):=by rw [r.length,r'.length]; simp
     have e1:its.toArray.size=x.length:=congrArg Prod.fst el
     have e2:its'.toArray.size=y.length:=congrArg Prod.snd el
     rw [e1,e2,all_eq] at this
     exact this
 quiet:=λ{s k v n} hn ⟨p,its,e,t,r⟩ A E Q q=>by
   obtain ⟨m,rfl⟩:∃ m,n=m + 1:=⟨n - 1,by omega⟩
   rw [e]
   refine pW t (λz hz=>?_) q
   obtain ⟨x,hx⟩:=r.mem z hz
   exact a.quiet (by omega) hx
end
end L2
namespace Ev
open PySem PySem.Spec PyProof.Rows L2
structure KD (K:Type) [DecidableEq K] where
 ik:∀ (P:Program) (w:World),IK P w K
 dep:Nat
 dep_ok:∀ P w,(ik P w).dep=dep
 toD:K->D
 den:∀ {X:Cx} {pins:List (Addr × Obj)} {σ:L2.St} {H:Hp} {s:Shared} {v:V} {u:Value} {k:K},Inv X pins σ H s->Den X.K H v (toD k)->RelV v u->(ik X.prog X.w).is s.heap k u
noncomputable def BH:KD Int where
 ik:=λ_ _=>BN
 dep:=0
 dep_ok:=λ_ _=>rfl
 toD:=.int
 den:=λ_ d r=>by cases d; exact r
section
variable {K K':Type} [DecidableEq K] [DecidableEq K']
theorem nU (a:KD K) {X:Cx} {pins:List (Addr × Obj)} {σ:L2.St} {H:Hp} {s:Shared} (I:Inv X pins σ H s):∀ {ks:List K} {vs:List V} {us:List Value},aq X.K H vs (ks.map a.toD)->Vals vs us->dC ((a.ik X.prog X.w).is s.heap) ks us
 | [],_,_,.nil,.nil=>.nil
 | _ :: _,_,_,.cons d r,.cons q t=>.cons (a.den I d q) (nU a I r t)
noncomputable def zr (a:KD K):KD (List K) where
 ik:=λP w=>zI (a.ik P w)
 dep:=a.dep + 1
 dep_ok:=λP w=>by show (a.ik P w).dep + 1=_; rw [a.dep_ok]
 toD:=λks=>.tup (ks.map a.toD)
 den:=λ{X pins σ H s v u k} I d r=>by
   generalize e:D.tup (k.map a.toD)=x at d
   cases d with
   | tup h q=>
     cases e
     cases (show u=Value.ref _ from r)
     obtain ⟨its,rv,t,_⟩:=I.tuple h
     exact ⟨_,its,rfl,t,nU a I q rv⟩
   | _=>cases e
noncomputable abbrev NEs (K:Type):=List (K × Addr × Value)
noncomputable def kd (a:KD K) (hd:a.dep<=7) (P:Program) (w:World):HeapKind P w K:=kindOf (a.ik P w) (by rw [a.dep_ok]; exact hd)
variable {a:KD K} {hd:a.dep<=7}
noncomputable def dNk (a:KD K) (hd:a.dep<=7) (P:Program) (w:World) (p:Addr) (xs:NEs K):HO:=.ext λh=>(p == sysModules)=false/\∃ o es ep,h.get? p=some o/\o.ExactDict/\o.data=.dict es ep/\es.toList=xs.map (entryOfKey (kd a hd P w))/\(xs.map (·.1)).Nodup
structure fU (a:KD K) (hd:a.dep<=7) (P:Program) (w:World) (F:PySem.W.Frag) (H:Hp) (d:Addr) (xs:NEs K):Prop where
 at_:H d=some (dNk a hd P w d xs)
 key:∀ x ∈ xs,Den F H (.ref x.2.1) (a.toD x.1)
variable {X:Cx} {pins:List (Addr × Obj)} {σ:L2.St} {H:Hp} {s:Shared} {d b:Addr} {xs:NEs K} {k:K} {A:Around} {E:Value->Shared->Prop}
theorem key_is (I:Inv X pins σ H s) (q:Den X.K H (.ref b) (a.toD k)):(kd a hd X.prog X.w).is s.heap k b:=a.den I q rfl
theorem vG (I:Inv X pins σ H s) (D:fU a hd X.prog X.w X.K H d xs):(d == sysModules)=false/\s.heap.DictOfH (kd a hd X.prog X.w) d xs:=by
 obtain ⟨⟨h0,o,es,ep,h1,h2,h3,h4,h5⟩,_⟩:=(show bh X.prog X.w H s.heap d (dNk a hd X.prog X.w d xs) from I.hok d _ D.at_)
 exact ⟨h0,o,es,ep,h1,h2,h3,h4,λx hx=>key_is I (D.key x hx),h5⟩
noncomputable def BR (a:KD K) (hd:a.dep<=7) (P:Program) (w:World) (F:PySem.W.Frag) (td ty:TE):TE:=λσ H Q=>td σ H λx H1=>ty σ H1 λy H2=>∃ d b k xs p v,x=.ref d/\y=.ref b/\fU a hd P w F H2 d xs/\Den F H2 (.ref b) (a.toD k)/\atKey xs k=some p/\RelV v p.2/\Q v H2
noncomputable def Cf (a:KD K) (hd:a.dep<=7) (P:Program) (w:World) (F:PySem.W.Frag) (td ty tv:TE):TS:=λD σ H=>tv σ H λv H1=>td σ H1 λx H2=>ty σ H2 λy H3=>∃ d b k xs,x=.ref d/\y=.ref b/\fU a hd P w F H3 d xs/\Den F H3 (.ref b) (a.toD k)/\xs.length<=sizeLine/\∀ u,RelV v u->D.nx σ (upd H3 d (dNk a hd P w d (storedH xs k b u)))
variable {o i e value:Expr} {pos pos':Pos} {td ty tv:TE}
theorem jd (hu:X.A.units + 16 < cLine) (ho:PE X o td) (hi:PE X i ty) (hs:oK i):PE X (.Subscript o i pos) (BR a hd X.prog X.w X.K td ty):=by
 intro pins s σ H Q I h
 refine mr PySem.F.slot_dict_getitem.lookup hs (thn (ho pins s σ H _ I h) λu s1 ⟨x,H1,I1,rx,q1⟩=>thn (hi pins s1 σ H1 _ I1 q1) λiv s2 ⟨y,H2,I2,ry,d,b,k,xs,p,v,ex,ey,D,g,hp,rv,q2⟩=>?_)
 subst ex ey
 obtain rfl:u=Value.ref d:=rx
 obtain rfl:iv=Value.ref b:=ry
 obtain ⟨_,dd⟩:=vG I2 D
 exact ⟨dd.typeIs,wpAny_getItem_heap (show X.A.units + 1 + 8 < cLine by omega) (key_is I2 g) dd hp ⟨v,H2,I2.tok _,rv,q2⟩⟩
theorem me (hu:X.A.units + 16 < cLine) (ho:PE X o td) (hi:PE X i ty) (hv:PE X value tv) (hs:swapsWith value (some (.Subscript o i pos')) pos.line X.env=pure false) :
   PS X (.Assign [.Subscript o i pos'] value pos) (Cf a hd X.prog X.w X.K td ty tv):=by
 intro pins s σ H D I h
 refine wpAny_Assign_Subscript (thn (hv pins s σ H _ I h) λr s1 ⟨v,H1,I1,rv,q1⟩=>thn (ho pins s1 σ H1 _ I1 q1) λu s2 ⟨x,H2,I2,rx,q2⟩=>thn (hi pins s2 σ H2 _ I2 q2) λiv s3 ⟨y,H3,I3,ry,d,b,k,xs,ex,ey,D',g,hl,q3⟩=>?_) hs
 subst ex ey
 obtain rfl:u=Value.ref d:=rx
 obtain rfl:iv=Value.ref b:=ry
 obtain ⟨hd',dd⟩:=vG I3 D'
 refine wpAny_setItem_heap (hsz:=hl) (show X.A.units + 1 + 8 < cLine by omega) (key_is I3 g) dd λh' dd' hs=>⟨σ,_,?_,q3 r rv⟩
 obtain ⟨q,es,ep,hq,h2,h3,h4,_,h5⟩:=dd'
 refine d8 I3 (by rw [D'.at_]; exact True.intro) hs ⟨q,hq⟩ ⟨⟨hd',q,es,ep,hq,h2,h3,h4,h5⟩,⟨q,hq⟩,λa1 a2 ⟨z0,o,es,ep,z1,z2⟩ hk=>⟨z0,o,es,ep,hk o z1,z2⟩⟩
end
end Ev
namespace Hy
open PySem PySem.Spec PyProof.Rows L2
open Ev (D Den aq KD NEs dNk fU)
section
variable {K:Type} [DecidableEq K]
inductive EnK (a:KD K) (F:PySem.W.Frag) (G:Hp):NEs K->List (K × D)->Prop where
 | nil:EnK a F G [] []
 | cons {k:K} {b:Addr} {u:Value} {v:V} {x:D} {xs:NEs K} {m:List (K × D)} (hk:Den F G (.ref b) (a.toD k)) (hr:RelV v u) (hv:Den F G v x) (r:EnK a F G xs m):EnK a F G ((k,b,u) :: xs) ((k,x) :: m)
variable {a:KD K} {F:PySem.W.Frag} {G G':Hp}
theorem EnK.mono (e:aj G G'):∀ {xs:NEs K} {m:List (K × D)},EnK a F G xs m->EnK a F G' xs m
 | _,_,.nil=>.nil
 | _,_,.cons h1 h2 h3 r=>.cons (h1.mono e) h2 (h3.mono e) (r.mono e)
theorem EnK.length:∀ {xs:NEs K} {m:List (K × D)},EnK a F G xs m->xs.length=m.length
 | _,_,.nil=>rfl
 | _,_,.cons _ _ _ r=>congrArg (· + 1) r.length
theorem EnK.key:∀ {xs:NEs K} {m:List (K × D)},EnK a F G xs m->∀ x ∈ xs,Den F G (.ref x.2.1) (a.toD x.1)
 | _,_,.nil,_,h=>nomatch h
 | _,_,.cons h _ _ r,x,hx=>(List.mem_cons.mp hx).elim (λz=>z ▸ h) (r.key x)
noncomputable def getM (m:List (K × D)) (k:K):Option D:=(m.find? λx=>decide (x.1=k)).map (·.2)
noncomputable def fO (m:List (K × D)) (k:K) (x:D):List (K × D):=if (getM m k).isSome then m.map λy=>if y.1=k then (y.1,x) else y else m++[(k,x)]
theorem EnK.at:∀ {xs:NEs K} {m:List (K × D)},EnK a F G xs m->∀ k,match getM m k with
   | none=>atKey xs k=none
   | some x=>∃ p v,atKey xs k=some p/\RelV v p.2/\Den F G v x
 | _,_,.nil,_=>rfl
 | _,_,.cons (k:=k') (x:=y) (m:=m) (xs:=xs) h1 h2 h3 r,k=>by
   have ih:=r.at k
   unfold getM atKey at *
   by_cases e:k'=k
   · simp only [List.find?_cons,e,decide_true,Option.map_some]
     exact ⟨_,_,rfl,h2,h3⟩
   · simp only [List.find?_cons,e,decide_false]
     exact ih
theorem EnK.isSome {xs:NEs K} {m:List (K × D)} (h:EnK a F G xs m) (k:K):(atKey xs k).isSome=(getM m k).isSome:=by
 have:=h.at k
 cases e:getM m k with
 | none=>rw [e] at this; simp only at this; rw [this]; rfl
 | some x=>rw [e] at this; obtain ⟨p,v,h1,_⟩:=this; rw [h1]; rfl
theorem EnK.snoc {k:K} {b:Addr} {u:Value} {v:V} {x:D} (h1:Den F G (.ref b) (a.toD k)) (h2:RelV v u) (h3:Den F G v x):∀ {xs:NEs K} {m:List (K × D)},EnK a F G xs m->EnK a F G (xs++[(k,b,u)]) (m++[(k,x)])
 | _,_,.nil=>.cons h1 h2 h3 .nil
 | _,_,.cons g1 g2 g3 r=>.cons g1 g2 g3 (r.snoc h1 h2 h3)
theorem EnK.over {k:K} {u:Value} {v:V} {x:D} (h2:RelV v u) (h3:Den F G v x):∀ {xs:NEs K} {m:List (K × D)},EnK a F G xs m->EnK a F G (xs.map (putAt k u)) (m.map λy=>if y.1=k then (y.1,x) else y)
 | _,_,.nil=>.nil
 | _,_,.cons (k:=k') g1 g2 g3 r=>by
   rw [List.map_cons,List.map_cons]
   unfold putAt
   by_cases e:k'=k
   · simp only [e,if_true]
     rw [e] at g1
     exact .cons g1 h2 h3 (r.over h2 h3)
   · simp only [e,if_false]
     exact .cons g1 g2 g3 (r.over h2 h3)
theorem EnK.put {k:K} {b:Addr} {u:Value} {v:V} {x:D} {xs:NEs K} {m:List (K × D)} (h:EnK a F G xs m) (h1:Den F G (.ref b) (a.toD k)) (h2:RelV v u) (h3:Den F G v x):EnK a F G (storedH xs k b u) (fO m k x):=by
 unfold storedH fO
 rw [h.isSome k]
 split
 · exact h.over h2 h3
 · exact h.snoc h1 h2 h3
noncomputable def exK (a:KD K) (hd:a.dep<=7) (P:Program) (w:World) (m:List (K × D)):Ex where
 p:=λF G o p=>∃ xs,o=dNk a hd P w p xs/\EnK a F G xs m
 mono:=λe ⟨xs,h1,h2⟩=>⟨xs,h1,h2.mono e⟩
 ext:=λ⟨xs,h1,_⟩=>.inl ⟨_,h1⟩
end
end Hy
namespace Hy
open PySem PySem.Spec PyProof.Rows L2
open Ev (D Den aq KD NEs dNk fU ai jd me)
section
variable {K:Type} [DecidableEq K] {a:KD K} {hd:a.dep<=7} {X:Cx} {C:Bool} {τ:List Sl} {x:D} {b e ix:Expr} {pos p q:Pos} {k:Nat} {N:Po} {rest:List Stmt} {m:List (K × D)} {key:K}
theorem Sta.dct {F:PySem.W.Frag} {P:Program} {w:World} {A:Addr->Prop} {H₀ H:Hp} {B:Nat->List Addr} {σ:L2.St} {i:Nat} (S:Sta F A H₀ τ B σ H) (hi:τ[i]?=some (.x (exK a hd P w m))):∃ d xs,(σ[i]?).join=some (.ref d)/\B i=[d]/\H d=some (dNk a hd P w d xs)/\EnK a F (Hy.hd H (own A B)) xs m:=by
 obtain ⟨d,o,h1,h2,h3,xs,rfl,h5⟩:=S.sl i _ hi
 exact ⟨d,xs,h2,h1,h3,h5⟩
theorem va (i:Nat) {n:Str} (hu:X.A.units + 16 < cLine) (hi:τ[i]?=some (.x (exK a hd X.prog X.w m))) (hk:PE X ix (dE X.K false τ (.d (a.toD key)))) (hx:getM m key=some x) (hr:∀ H v,Den X.K H v (a.toD key)->∃ b,v=.ref b) (hs:oK ix) (hN:X.N[i]?=some n:=by rfl)
   (hv:Vis X.env.scope n:=by first | exact Or.inl rfl | exact Or.inr (Or.inl rfl) | exact Or.inr (Or.inr rfl)) (hd1:(n == ("__debug__" : Str))=false:=by decide) (hcd:(n == ("__classdict__" : Str))=false:=by decide):PE X (.Subscript (.Name n p) ix pos) (dE X.K C τ (.d x)):=
 peW (jd (a:=a) (hd:=hd) hu (bN (i:=i) hN hv hd1 hcd) hk hs) λσ H Q q=>by
   obtain ⟨A,H₀,B,S,kk⟩:=dJ q
   obtain ⟨d,xs,e1,e2,e3,e4⟩:=S.dct hi
   refine ⟨_,slot_of e1,aO S λy H2 e5 dy=>?_⟩
   obtain ⟨b,rfl⟩:=hr _ _ dy
   have S2:=S.mono e5
   obtain ⟨d',xs',g1,g2,g3,g4⟩:=S2.dct hi
   rw [e1] at g1
   cases g1
   have:=g4.at key
   rw [hx] at this
   obtain ⟨pp,v,h1,h2,h3⟩:=this
   exact ⟨d,b,key,xs',pp,v,rfl,rfl,⟨g3,λz hz=>(g4.key z hz).mono aL⟩,dy.mono aL,h1,h2,kk v H2 e5 (h3.mono (au (aj.refl _) λ_ z=>iK z))⟩
end
section
variable {K:PySem.W.Frag} {A:Addr->Prop} {H₀ H H':Hp} {τ:List Sl} {B:Nat->List Addr} {σ:L2.St}
theorem Sta.xC (S:Sta K A H₀ τ B σ H) {i:Nat} {a:Addr} {E E':Ex} {o':HO} (hi:τ[i]?=some (.x E)) (hB:B i=[a]) (d:E'.p K (hd H (own A B)) o' a):Sta K A H₀ (τ.set i (.x E')) B σ (upd H a o'):=by
 have ha:own A B a:=.inr ⟨i,by rw [hB]; exact List.mem_singleton.mpr rfl⟩
 have ne:∀ b,b ≠ a->upd H a o' b=H b:=λb h=>ax h
 have sm:aj (hd H (own A B)) (hd (upd H a o') (own A B)):=λb o z=>by
   obtain ⟨z1,z2⟩:=ak.mp z
   exact ak.mpr ⟨z1,by rw [ne b (λe=>z1 (e ▸ ha))]; exact z2⟩
 have f0:H₀ a=none:=S.fr i a (by rw [hB]; exact List.mem_singleton.mpr rfl)
 have hs:aj H₀ (upd H a o'):=λb o z=>by rw [ne b (λe=>by rw [e,f0] at z; cases z)]; exact S.same b o z
 refine ⟨hs,by rw [List.length_set,S.len],λj t hj=>?_,S.fr,S.uq,S.ad,λj b hb=>?_⟩
 · by_cases ej:j=i
   · subst ej
     have hl:=(List.getElem?_eq_some_iff.mp hi).1
     rw [List.getElem?_set_self hl] at hj
     cases hj
     obtain ⟨a',o,e1,e2,_,_⟩:=S.sl j _ hi
     rw [hB] at e1
     cases e1
     exact ⟨a,o',hB,e2,aF,E'.mono sm d⟩
   · rw [List.getElem?_set_ne (λz=>ej z.symm)] at hj
     have off:∀ b ∈ B j,b ≠ a:=λb hb e=>ej (S.uq j i a (e ▸ hb) (by rw [hB]; exact List.mem_singleton.mpr rfl))
     have q:=S.sl j t hj
     cases t with
     | un=>exact q
     | d x=>obtain ⟨z,u,e,d⟩:=q; exact ⟨z,u,e,d.mono sm⟩
     | o zs=>
       obtain ⟨c,ws,z1,z2,z3,z4⟩:=q
       exact ⟨c,ws,z1,z2,by rw [ne c (off c (by rw [z1]; exact List.mem_singleton.mpr rfl))]; exact z3,z4.mono sm⟩
     | n t=>
       obtain ⟨z0,u,z1,z2⟩:=q
       exact ⟨z0,u,z1,z2.frame sm λb hb=>ne b (off b hb)⟩
     | x E=>
       obtain ⟨c,o,z1,z2,z3,z4⟩:=q
       exact ⟨c,o,z1,z2,by rw [ne c (off c (by rw [z1]; exact List.mem_singleton.mpr rfl))]; exact z3,E.mono sm z4⟩
 · by_cases e:b=a
   · subst e; exact ⟨_,aF⟩
   · rw [ne b e]; exact S.bd j b hb
end
section
variable {K:Type} [DecidableEq K] {a:KD K} {hd:a.dep<=7} {X:Cx} {C:Bool} {τ:List Sl} {x:D} {b e ix:Expr} {pos p q sp:Pos} {k:Nat} {N:Po} {rest:List Stmt} {m:List (K × D)} {key:K}
theorem AW (i:Nat) {n:Str} (hu:X.A.units + 16 < cLine) (hi:τ[i]?=some (.x (exK a hd X.prog X.w m))) (hk:PE X ix (dE X.K true τ (.d (a.toD key)))) (he:PE X e (dE X.K true τ (.d x))) (hl:m.length<=sizeLine) (hr:∀ H v,Den X.K H v (a.toD key)->∃ b,v=.ref b)
   (hn:PSs X rest (dS X.K (τ.set i (.x (exK a hd X.prog X.w (fO m key x)))) N)) (hN:X.N[i]?=some n:=by rfl)
   (hv:Vis X.env.scope n:=by first | exact Or.inl rfl | exact Or.inr (Or.inl rfl) | exact Or.inr (Or.inr rfl)) (hd1:(n == ("__debug__" : Str))=false:=by decide) (hcd:(n == ("__classdict__" : Str))=false:=by decide)
   (hs:swapsWith e (some (.Subscript (.Name n p) ix sp)) pos.line X.env=pure false:=by rfl):PSs X (.Assign [.Subscript (.Name n p) ix sp] e pos :: rest) (dS X.K τ N):=
 a6 (M:=(·=τ.set i (.x (exK a hd X.prog X.w (fO m key x))))) (psW (me (a:=a) (hd:=hd) hu (bN (i:=i) hN hv hd1 hcd) hk he hs) λD σ H ⟨A,H₀,B,S,Me⟩=>aO S λv H1 e1 d1=>by
   have S1:=S.mono e1
   obtain ⟨d,xs,g1,_⟩:=S1.dct hi
   refine ⟨_,slot_of g1,aO S1 λy H2 e2 dy=>?_⟩
   obtain ⟨b,rfl⟩:=hr _ _ dy
   have S2:=S1.mono e2
   obtain ⟨d',xs',h1,h2,h3,h4⟩:=S2.dct hi
   rw [g1] at h1
   cases h1
   have d1':=d1.mono (au e2 λ_ z=>z)
   exact ⟨d,b,key,xs',rfl,rfl,⟨h3,λz hz=>(h4.key z hz).mono aL⟩,dy.mono aL,by rw [h4.length]; exact hl,λu hu=>Me.nx _ _ _ _ rfl (S2.xC hi h2 ⟨_,rfl,h4.put dy hu d1'⟩)⟩) λ_ e=>e ▸ hn
end
end Hy
namespace Hy
open PySem PySem.Spec PyProof.Rows L2
open Ev (D Den aq Bx ai b9 Itk vT o9 Itd iDn yM)
noncomputable def eO (kv:List (Int × Int)) (k v:Int):List (Int × Int):=
 if (kv.any λp=>decide (p.1=k))=true then kv.map (λp=>if p.1=k then (p.1,v) else p) else kv++[(k,v)]
noncomputable def bA (kv:List (Int × Int)) (k:Int):Option Int:=(kv.find? λp=>decide (p.1=k)).map (·.2)
theorem wF (kv:List (Int × Int)) (k:Int):((b9 kv).any λp=>decide (p.1=.inl k))=kv.any λp=>decide (p.1=k):=by
 unfold b9
 rw [List.any_map]
 congr 1
 funext p
 simp
theorem rO (kv:List (Int × Int)) (k v:Int):putK (b9 kv) (.inl k) (.int v)=b9 (eO kv k v):=by
 unfold putK eO
 rw [wF]
 by_cases h:(kv.any λp=>decide (p.1=k))=true
 · rw [if_pos h,if_pos h]
   unfold b9
   rw [List.map_map,List.map_map]
   refine List.map_congr_left λp _=>?_
   simp only [Function.comp]
   by_cases z:p.1=k
   · rw [if_pos (congrArg Sum.inl z),if_pos z]
   · rw [if_neg (λy=>z (Sum.inl.inj y)),if_neg z]
 · rw [if_neg h,if_neg h]
   unfold b9
   rw [List.map_append]
   rfl
theorem gO:∀ (kv:List (Int × Int)) (k:Int),eB (b9 kv) (.inl k)=(bA kv k).map V.int
 | [],_=>rfl
 | p :: r,k=>by
   unfold bA
   by_cases z:p.1=k
   · rw [List.find?_cons_of_pos (by simp [z])]
     exact bF (p:=(Sum.inl p.1,V.int p.2)) (congrArg Sum.inl z)
   · rw [List.find?_cons_of_neg (by simp [z])]
     exact (bC (p:=(Sum.inl p.1,V.int p.2)) (λy=>z (Sum.inl.inj y))).trans (gO r k)
theorem xB (kv:List (Int × Int)) (k v:Int):(eO kv k v).length<=kv.length + 1:=by
 unfold eO
 split
 · rw [List.length_map]; omega
 · rw [List.length_append,List.length_cons,List.length_nil]; omega
noncomputable def exZ (m:List (Int × Int)):Ex where
 p:=λ_ _ o _=>o=.dK (b9 m)
 mono:=λ_ h=>h
 ext:=λh=>.inr (.inr ⟨_,.inl h⟩)
noncomputable def exF (ob:Obj) (m:List (Int × Int)):Ex where
 p:=λ_ _ o _=>o=.frz ob (.dK (b9 m))
 mono:=λ_ h=>h
 ext:=λh=>.inr (.inr ⟨_,.inr ⟨_,h⟩⟩)
noncomputable def bxZ (m:List (Int × Int)):Bx where
 p:=λ_ H d=>∃ o,H d=some (.frz o (.dK (b9 m)))
 mono:=λe ⟨o,h⟩=>⟨o,e _ _ h⟩
 isd:=λ⟨o,h⟩=>⟨_,h,λP w H' h z=>by
   obtain ⟨_,_,_,vs,_,ob,_,_,z1,z2,_⟩:=z
   exact ⟨ob,z1,z2.1⟩⟩
section
variable {K:PySem.W.Frag} {A:Addr->Prop} {H₀ H:Hp} {τ:List Sl} {B:Nat->List Addr} {σ:L2.St} {m:List (Int × Int)} {i:Nat}
theorem Sta.dz (S:Sta K A H₀ τ B σ H) (hi:τ[i]?=some (.x (exZ m))):∃ d,(σ[i]?).join=some (.ref d)/\B i=[d]/\H d=some (.dK (b9 m)):=by
 obtain ⟨d,o,h1,h2,h3,h4⟩:=S.sl i _ hi
 cases (show o=_ from h4)
 exact ⟨d,h2,h1,h3⟩
theorem Sta.fzF {ob:Obj} (S:Sta K A H₀ τ B σ H) (hi:τ[i]?=some (.x (exF ob m))):Sta K A H₀ (τ.set i (.d (.box (bxZ m)))) (upB B i []) σ H:=
 S.less (λ_ z=>nomatch z) λG g hv=>by
   obtain ⟨d,o,h1,h2,h3,h4⟩:=S.sl i _ hi
   cases (show o=_ from h4)
   exact ⟨rfl,_,h2,.box ⟨ob,hv d _ (by rw [h1]; exact List.mem_singleton.mpr rfl) (λz=>nomatch z) h3⟩⟩
end
section
variable {X:Cx} {C:Bool} {τ:List Sl} {x y:D} {a b e f o ix tg:Expr} {pos p q apos cpos sp:Pos} {k:Nat} {N:Po} {rest:List Stmt} {m:List (Int × Int)} {key v n:Int}
theorem CF {xs:List D} {n:Nat} (h:xs.length=n):jI X (.builtin "len") [.lst xs] (.d (.int n)):=h ▸ eG
theorem gR {n:Str}:oK (.Name n p):=λ_ _=>rfl
theorem zE:PE X (.Dict [] [] pos) (dE X.K C τ (.x (exZ []))):=peW tU λσ H Q ⟨A,H₀,B,S,k⟩=>λp hp=>k (.ref p) _ [p] (ai hp _) (λb hb=>by rw [List.mem_singleton.mp hb]; exact ⟨hp,_,aF⟩) ⟨p,_,rfl,rfl,aF,rfl⟩
theorem zG {j l:Nat}:PE X (.Dict [some (.Constant (.int key) j p)] [.Constant (.int v) l q] pos) (dE X.K C τ (.x (exZ [(key,v)]))):=peW (xF (uG p9 p9 wJ) rfl rfl (by simp) (by show (1:Nat)<=15; decide)) λσ H Q ⟨A,H₀,B,S,k⟩=>λp hp=>by
 refine ⟨aF,[(.inl key,.int v)],rfl,(by show (1:Nat)<=15; decide),?_⟩
 have e:upd (upd H p (.dK [])) p (.dK (hV [] [(Sum.inl key,V.int v)]))=upd H p (.dK (b9 [(key,v)])):=by
   funext b
   unfold upd
   split <;> rfl
 rw [e]
 exact k (.ref p) _ [p] (ai hp _) (λb hb=>by rw [List.mem_singleton.mp hb]; exact ⟨hp,_,aF⟩) ⟨p,_,rfl,rfl,aF,rfl⟩
theorem B6 (i:Nat) (h:PSs X rest (dS X.K (τ.set i (.d (.box (bxZ m)))) N)) (hi:τ[i]?=some (.x (exZ m)):=by rfl):PSs X rest (dS X.K τ N):=by
 intro pins s σ H D I ⟨A,H₀,B,S,Me⟩
 obtain ⟨d,h1,h2,h3⟩:=S.dz hi
 obtain ⟨z,hd,vs,rel,dd⟩:=rD I.hok h3
 obtain ⟨o,es,ep,e,r⟩:=id dd
 have I2:Inv X pins σ (upd H d (.frz o (.dK (b9 m)))) s:=d8 (t':=s.toks) (h':=s.heap) I (by rw [h3]; exact True.intro) (.refl _ _) ⟨o,e⟩ ⟨e,mD z hd rel dd⟩
 have hl:=(List.getElem?_eq_some_iff.mp hi).1
 have S2:=S.xC (E':=exF o m) hi h2 rfl
 have S3:=S2.fzF (ob:=o) (m:=m) (List.getElem?_set_self hl)
 rw [List.set_set] at S3
 exact h pins s σ _ D I2 ⟨A,H₀,_,S3,Me⟩
theorem pB (hu:X.A.units + 1 < cLine) (hb:PE X b (dE X.K C τ (.d (.box (bxZ m))))) (hk:PE X ix (dE X.K C τ (.d (.int key)))) (hx:bA m key=some v) (hs:oK ix):PE X (.Subscript b ix pos) (dE X.K C τ (.d (.int v))):=
 peW (wR hu hb hk hs) λσ H Q q=>by
   obtain ⟨A,H₀,B,S,kk⟩:=dJ q
   refine aO S λu H1 e1 d1=>aO (S.mono e1) λy H2 e2 dy=>?_
   cases dy
   cases d1.mono (au e2 λ_ z=>z) with
   | box h=>
     obtain ⟨o,g⟩:=h
     exact ⟨_,.int v,rfl,⟨_,.inl key,.inr ⟨o,aL _ _ g⟩,rfl,by rw [gO,hx]; rfl⟩,kk _ H2 (e1.trans e2) .int⟩
theorem x4 (i:Nat) {nm:Str} (hu:X.A.units + 1 < cLine) (hi:τ[i]?=some (.x (exZ m))) (hk:PE X e (dE X.K false τ (.d (.int key)))) (hx:PE X f (dE X.K false τ (.d (.int v)))) (m2:M2 X (.Name nm p) "get" apos e f cpos:=by exact ⟨rfl,rfl,rfl,rfl⟩) (hN:X.N[i]?=some nm:=by rfl)
   (hv:Vis X.env.scope nm:=by first | exact Or.inl rfl | exact Or.inr (Or.inl rfl) | exact Or.inr (Or.inr rfl)) (hd1:(nm == ("__debug__" : Str))=false:=by decide) (hcd:(nm == ("__classdict__" : Str))=false:=by decide):PE X (.Call (.Attribute (.Name nm p) "get" apos) [e,f] [] cpos) (dE X.K C τ (.d (.int ((bA m key).getD v)))):=
 peW (uz hu (bN (i:=i) hN hv hd1 hcd) hk hx m2) λσ H Q q=>by
   obtain ⟨A,H₀,B,S,kk⟩:=dJ q
   obtain ⟨d,h1,h2,h3⟩:=S.dz hi
   refine ⟨_,slot_of h1,d,rfl,⟨_,.inl h3⟩,aO S λy H2 e2 dy=>aO (S.mono e2) λz H3 e3 dz=>?_⟩
   cases dy
   cases dz
   refine ⟨_,⟨_,.inl key,.inl ((e2.trans e3) _ _ h3),rfl,rfl⟩,?_⟩
   have e:(eB (b9 m) (.inl key)).getD (.int v)=V.int ((bA m key).getD v):=by rw [gO]; cases bA m key <;> rfl
   rw [e]
   exact kk _ H3 (e2.trans e3) .int
theorem zx (i:Nat) {nm:Str} (hu:X.A.units + 1 < cLine) (hi:τ[i]?=some (.x (exZ m))) (hk:PE X ix (dE X.K true τ (.d (.int key)))) (he:PE X e (dE X.K true τ (.d (.int v)))) (hl:m.length < sizeLine)
   (hn:PSs X rest (dS X.K (τ.set i (.x (exZ (eO m key v)))) N)) (hN:X.N[i]?=some nm:=by rfl)
   (hv:Vis X.env.scope nm:=by first | exact Or.inl rfl | exact Or.inr (Or.inl rfl) | exact Or.inr (Or.inr rfl)) (hd1:(nm == ("__debug__" : Str))=false:=by decide) (hcd:(nm == ("__classdict__" : Str))=false:=by decide)
   (hs:swapsWith e (some (.Subscript (.Name nm p) ix sp)) pos.line X.env=pure false:=by rfl):PSs X (.Assign [.Subscript (.Name nm p) ix sp] e pos :: rest) (dS X.K τ N):=
 a6 (M:=(·=τ.set i (.x (exZ (eO m key v))))) (psW (xY hu (bN (i:=i) hN hv hd1 hcd) hk he hs) λD σ H ⟨A,H₀,B,S,Me⟩=>aO S λu H1 e1 d1=>by
   cases d1
   have S1:=S.mono e1
   obtain ⟨d,g1,_⟩:=S1.dz hi
   refine ⟨_,slot_of g1,aO S1 λy H2 e2 dy=>?_⟩
   cases dy
   have S2:=S1.mono e2
   obtain ⟨d',h1,h2,h3⟩:=S2.dz hi
   rw [g1] at h1
   cases h1
   refine ⟨d,_,rfl,⟨_,.inl key,h3,rfl,by unfold b9; rw [List.length_map]; exact hl,rfl⟩,?_⟩
   rw [rO]
   exact Me.nx _ _ _ _ rfl (S2.xC hi h2 rfl)) λ_ e=>e ▸ hn
theorem xO (h:PE X e (dE X.K true τ (.d (.box (bxZ m))))) (hc:X.calm=true:=by first | rfl | assumption):PI X tg e (dI X.K τ (m.map λp=>.int p.1)):=piW (o9 hc h) λσ H R ⟨A,H₀,B,S,k⟩=>aO S λv H1 e1 d1=>by
 cases d1 with
 | box h=>
   obtain ⟨o,g⟩:=h
   refine ⟨_,o,m,rfl,aL _ _ g,k _ H1 e1 λH2 sg=>⟨λi hi=>⟨by simpa using hi,sg _ _ g⟩,λi hi=>⟨⟨by simpa using hi,sg _ _ g⟩,λx H' ⟨eH,p,hp,ex⟩=>?_⟩⟩⟩
   subst eH ex
   refine ⟨aj.refl _,λM _ _=>?_⟩
   have hi':i < m.length:=by simpa using hi
   rw [List.getElem?_eq_getElem hi'] at hp
   cases hp
   rw [List.getElem_map]
   exact .int
theorem xf {m:List (Int × Int)}:∀ i (h:i < (m.map λp=>D.int p.1).length),(m.map λp=>D.int p.1)[i]=.int (m.getD i (0,0)).1:=λi h=>by
 have:i < m.length:=by simpa using h
 simp [this]
noncomputable def dnD (n:Nat):List D:=(List.range n).map λi:Nat=>.int ((n:Int) - 1 - (i:Int))
theorem gW (n:Nat):(dnD n).length=n:=by simp [dnD]
theorem Dp {n:Nat}:∀ i (h:i < (dnD n).length),(dnD n)[i]=.int ((n - 1 - i:Nat):Int):=λi h=>by
 rw [gW] at h
 simp only [dnD,List.getElem_map,List.getElem_range]
 congr 1
 omega
theorem C5 {n:Nat} {p' pos':Pos} (B:Bk X k) (h:PE X a (dE X.K false τ (.d (.int n)))) (hn:n < 1000) (hg:Gl X "reversed":=by rfl) (hg':Gl X "range":=by rfl) (hs':starEach [a] X.env=[(false,eval a X.env)]:=by rfl)
   (hs:starEach [.Call (.Name "range" p') [a] [] pos'] X.env=[(false,eval (.Call (.Name "range" p') [a] [] pos') X.env)]:=by rfl):PI X tg (.Call (.Name "reversed" p) [.Call (.Name "range" p') [a] [] pos'] [] pos) (dI X.K τ (dnD n)):=
 piW (yM B.calm hg (B.blt _ (by decide)) hg' (B.blt _ (by decide)) (ab h af hs') hs' hs) λσ H R ⟨A,H₀,B,S,k⟩=>fq S λvs H1 e1 d1=>by
   cases d1 with
   | cons d r=>
     cases r
     cases d
     refine ⟨n,rfl,hn,k _ H1 e1 λH2 sg=>⟨λi hi=>by rw [gW] at hi; exact hi,λi hi=>⟨by rw [gW] at hi; exact hi,λx H' ⟨eH,ex⟩=>?_⟩⟩⟩
     subst eH ex
     refine ⟨aj.refl _,λM _ _=>?_⟩
     simp only [dnD,List.getElem_map,List.getElem_range]
     exact .int
end
end Hy
namespace Hy
open PySem PySem.Spec PyProof.Rows L2
open Ev (D Den aq ai aX aI)
noncomputable def dW:List Nat->Nd->Option Nd
 | [],t=>some t
 | i :: p,.l xs=>(xs[i]?).bind (dW p)
 | i :: p,.t xs=>(xs[i]?).bind (dW p)
 | _ :: _,.d _=>none
noncomputable def cK:List Nat->Nd->Nd->Nd
 | [],_,n=>n
 | i :: p,.l xs,n=>.l (xs.set i (cK p (xs.getD i (.d .non)) n))
 | i :: p,.t xs,n=>.t (xs.set i (cK p (xs.getD i (.d .non)) n))
 | _ :: _,.d x,_=>.d x
noncomputable def dh (H:Hp):List Nat->V->V->Prop
 | [],u,v=>v=u
 | i :: p,u,v=>∃ a vs w,u=.ref a/\(H a=some (.lst vs)\/H a=some (.tup vs))/\vs[i]?=some w/\dh H p w v
theorem dh.mono {H H':Hp} (e:aj H H'):∀ {p:List Nat} {u v:V},dh H p u v->dh H' p u v
 | [],_,_,h=>h
 | _ :: _,_,_,⟨a,vs,w,h1,h2,h3,h4⟩=>⟨a,vs,w,h1,h2.elim (λz=>.inl (e _ _ z)) (λz=>.inr (e _ _ z)),h3,h4.mono e⟩
theorem dh.snoc {H:Hp} {i:Nat} {a:Addr} {vs:List V} {w:V}:∀ {p:List Nat} {u:V},dh H p u (.ref a)->(H a=some (.lst vs)\/H a=some (.tup vs))->vs[i]?=some w->dh H (p++[i]) u w
 | [],_,h,h1,h2=>⟨a,vs,w,h.symm,h1,h2,rfl⟩
 | _ :: _,_,⟨b,us,x,z1,z2,z3,z4⟩,h1,h2=>⟨b,us,x,z1,z2,z3,z4.snoc h1 h2⟩
section
variable {K:PySem.W.Frag} {G H:Hp}
theorem aP.length:∀ {vs:List V} {bs:List Addr} {xs:List Nd},aP K G H vs bs xs->vs.length=xs.length
 | _,_,_,.nil=>rfl
 | _,_,_,.cons _ r=>congrArg (· + 1) r.length
theorem aP.part:∀ {vs:List V} {bs:List Addr} {xs:List Nd} {i:Nat} {c:Nd},aP K G H vs bs xs->xs[i]?=some c->∃ v l m r,vs[i]?=some v/\bs=l++(m++r)/\bu K G H v m c /\
   ∀ {G' H':Hp} {m':List Addr} {c':Nd},aj G G'->(∀ b,b ∈ l\/b ∈ r->H' b=H b)->bu K G' H' v m' c'->aP K G' H' vs (l++(m'++r)) (xs.set i c')
 | _,_,_,_,_,.nil,e=>by cases e
 | _,_,_,0,_,.cons (b1:=b1) (b2:=b2) h r,e=>by
   cases e
   exact ⟨_,[],b1,b2,rfl,rfl,h,λg e h'=>by rw [List.nil_append]; exact .cons h' (r.frame g λb hb=>e b (.inr hb))⟩
 | _,_,_,i + 1,c,.cons (b1:=b1) h r,e=>by
   obtain ⟨v,l,m,q,h1,h2,h3,h4⟩:=aP.part (i:=i) (c:=c) r (by simpa using e)
   refine ⟨v,b1++l,m,q,by simpa using h1,by rw [h2,List.append_assoc],h3,λ{G' H' m' c'} g e h'=>?_⟩
   rw [List.append_assoc]
   exact .cons (h.frame g λb hb=>e b (.inl (List.mem_append_left _ hb))) (h4 g (λb hb=>e b (hb.elim (λz=>.inl (List.mem_append_right _ z)) .inr)) h')
theorem bu.focus:∀ (p:List Nat) {u:V} {bs:List Addr} {t c:Nd},bu K G H u bs t->dW p t=some c->∃ v l m r,dh H p u v/\bs=l++(m++r)/\bu K G H v m c /\
   ∀ {G' H':Hp} {m':List Addr} {c':Nd},aj G G'->(∀ b,b ∈ l\/b ∈ r->H' b=H b)->bu K G' H' v m' c'->bu K G' H' u (l++(m'++r)) (cK p t c')
 | [],u,bs,tr,c,h,e=>by
   cases e
   exact ⟨u,[],bs,[],rfl,by simp,h,λg _ h'=>by simpa [cK] using h'⟩
 | i :: p,_,_,.l xs,c,.l (a:=a) (bs:=bs) hH r,e=>by
   rw [dW] at e
   cases ei:xs[i]? with
   | none=>rw [ei] at e; cases e
   | some x=>
     rw [ei] at e
     obtain ⟨v,l,m,q,h1,h2,h3,h4⟩:=r.part ei
     obtain ⟨w,l',m',q',g1,g2,g3,g4⟩:=bu.focus p h3 e
     refine ⟨w,a :: (l++l'),m',q'++q,⟨a,_,v,rfl,.inl hH,h1,g1⟩,by rw [h2,g2]; simp,g3,λ{G' H' m2 c2} g e2 h'=>?_⟩
     have k1:=g4 g (λb hb=>e2 b (hb.elim (λz=>.inl (List.mem_cons_of_mem _ (List.mem_append_right _ z))) λz=>.inr (List.mem_append_left _ z))) h'
     have k2:=h4 g (λb hb=>e2 b (hb.elim (λz=>.inl (List.mem_cons_of_mem _ (List.mem_append_left _ z))) λz=>.inr (List.mem_append_right _ z))) k1
     rw [cK,show xs.getD i (.d .non)=x by simp [List.getD,ei]]
     have k3:=bu.l (G:=G') (K:=K) (a:=a) (by rw [e2 a (.inl (List.mem_cons_self ..))]; exact hH) k2
     simpa using k3
 | i :: p,_,_,.t xs,c,.t (a:=a) (bs:=bs) hH r,e=>by
   rw [dW] at e
   cases ei:xs[i]? with
   | none=>rw [ei] at e; cases e
   | some x=>
     rw [ei] at e
     obtain ⟨v,l,m,q,h1,h2,h3,h4⟩:=r.part ei
     obtain ⟨w,l',m',q',g1,g2,g3,g4⟩:=bu.focus p h3 e
     refine ⟨w,a :: (l++l'),m',q'++q,⟨a,_,v,rfl,.inr hH,h1,g1⟩,by rw [h2,g2]; simp,g3,λ{G' H' m2 c2} g e2 h'=>?_⟩
     have k1:=g4 g (λb hb=>e2 b (hb.elim (λz=>.inl (List.mem_cons_of_mem _ (List.mem_append_right _ z))) λz=>.inr (List.mem_append_left _ z))) h'
     have k2:=h4 g (λb hb=>e2 b (hb.elim (λz=>.inl (List.mem_cons_of_mem _ (List.mem_append_left _ z))) λz=>.inr (List.mem_append_right _ z))) k1
     rw [cK,show xs.getD i (.d .non)=x by simp [List.getD,ei]]
     have k3:=bu.t (G:=G') (K:=K) (a:=a) (by rw [e2 a (.inl (List.mem_cons_self ..))]; exact hH) k2
     simpa using k3
theorem dh.det:∀ {p:List Nat} {u v w:V},dh H p u v->dh H p u w->v=w
 | [],_,_,_,h,h'=>h.trans h'.symm
 | _ :: _,_,_,_,⟨a,vs,x,h1,h2,h3,h4⟩,⟨b,us,y,g1,g2,g3,g4⟩=>by
   rw [h1] at g1
   cases g1
   have e:vs=us:=by
     rcases h2 with h2 | h2 <;> rcases g2 with g2 | g2 <;> rw [h2] at g2 <;> cases g2 <;> rfl
   subst e
   rw [h3] at g3
   cases g3
   exact h4.det g4
theorem bR.frame {G' H':Hp} (g:aj G G') {v:Option V} {bs:List Addr}:∀ {s:Sl},(∀ b ∈ bs,H' b=H b)->bR K G H v bs s->bR K G' H' v bs s
 | .un,_,h=>h
 | .d _,_,⟨h,u,e1,h2⟩=>⟨h,u,e1,h2.mono g⟩
 | .o _,e,⟨a,vs,h1,h2,h3,h4⟩=>⟨a,vs,h1,h2,by rw [e a (by rw [h1]; exact List.mem_cons_self ..)]; exact h3,h4.mono g⟩
 | .n _,e,⟨h0,u,h1,h2⟩=>⟨h0,u,h1,h2.frame g e⟩
 | .x E,e,⟨a,o,h1,h2,h3,h4⟩=>⟨a,o,h1,h2,by rw [e a (by rw [h1]; exact List.mem_cons_self ..)]; exact h3,E.mono g h4⟩
theorem p6 {l r b0 b1:List Addr} {a:Addr} (h:(l++((a :: b0)++r)).Nodup) (h1:b1.Nodup) (hb:∀ b ∈ b1,b ∈ b0\/(b ∉ l/\b ≠ a/\b ∉ r)):(l++((a :: b1)++r)).Nodup:=by
 obtain ⟨z1,z2,z3⟩:=List.nodup_append.mp h
 rw [List.cons_append] at z2
 obtain ⟨z4,z5⟩:=List.nodup_cons.mp z2
 obtain ⟨z6,z7,z8⟩:=List.nodup_append.mp z5
 refine List.nodup_append.mpr ⟨z1,?_,λx hx y hy=>?_⟩
 · rw [List.cons_append]
   refine List.nodup_cons.mpr ⟨λz=>?_,List.nodup_append.mpr ⟨h1,z7,λx hx y hy=>?_⟩⟩
   · rcases List.mem_append.mp z with z | z
     · rcases hb a z with q | q
       · exact z4 (List.mem_append_left _ q)
       · exact q.2.1 rfl
     · exact z4 (List.mem_append_right _ z)
   · rcases hb x hx with q | q
     · exact z8 x q y hy
     · exact λe=>q.2.2 (e ▸ hy)
 · rw [List.cons_append] at hy
   rcases List.mem_cons.mp hy with q | q
   · exact z3 x hx y (by rw [q]; exact List.mem_append_left _ (List.mem_cons_self ..))
   · rcases List.mem_append.mp q with q | q
     · rcases hb y q with q | q
       · exact z3 x hx y (List.mem_append_left _ (List.mem_cons_of_mem _ q))
       · exact λe=>q.1 (e ▸ hx)
     · exact z3 x hx y (List.mem_append_right _ q)
theorem Sta.putN {A:Addr->Prop} {H₀:Hp} {τ:List Sl} {B:Nat->List Addr} {σ:L2.St} {i:Nat} {t:Nd} {p:List Nat} {xs:List Nd} (S:Sta K A H₀ τ B σ H) (hi:τ[i]?=some (.n t)) (hp:dW p t=some (.l xs)) :
   ∃ u a vs bs0,(σ[i]?).join=some u/\dh H p u (.ref a)/\H a=some (.lst vs)/\aP K (hd H (own A B)) H vs bs0 xs/\bs0.Nodup/\own A B a/\(∀ b ∈ bs0,own A B b/\b ≠ a) /\
     ∀ {H1:Hp} {vs':List V} {bs1:List Addr} {xs':List Nd},aj H H1->bs1.Nodup->(∀ b ∈ bs1,b ∈ bs0\/(H b=none/\∃ o,H1 b=some o))->aP K (hd (upd H1 a (.lst vs')) λb=>own A B b\/b ∈ bs1) (upd H1 a (.lst vs')) vs' bs1 xs' ->
       ∃ B',Sta K A H₀ (τ.set i (.n (cK p t (.l xs')))) B' σ (upd H1 a (.lst vs')):=by
 obtain ⟨nd,u,eu,ok⟩:=S.sl i _ hi
 obtain ⟨v,l,m,r,pv,hbs,okc,back⟩:=ok.focus p hp
 cases okc with
 | @l a vs bs0 _ hH r0=>
   have mem:∀ b,b ∈ l\/b=a\/b ∈ bs0\/b ∈ r->b ∈ B i:=λb hb=>by
     rw [hbs]
     rcases hb with z | z | z | z
     · exact List.mem_append_left _ z
     · exact List.mem_append_right _ (by rw [z]; exact List.mem_append_left _ (List.mem_cons_self ..))
     · exact List.mem_append_right _ (List.mem_append_left _ (List.mem_cons_of_mem _ z))
     · exact List.mem_append_right _ (List.mem_append_right _ z)
   have nd':=nd
   rw [hbs] at nd'
   obtain ⟨n1,n2,n3⟩:=List.nodup_append.mp nd'
   rw [List.cons_append] at n2
   obtain ⟨n4,n5⟩:=List.nodup_cons.mp n2
   obtain ⟨n6,_,_⟩:=List.nodup_append.mp n5
   have ha:own A B a:=.inr ⟨i,mem a (.inr (.inl rfl))⟩
   refine ⟨u,a,vs,bs0,eu,pv,hH,r0,n6,ha,λb hb=>⟨.inr ⟨i,mem b (.inr (.inr (.inl hb)))⟩,λz=>n4 (z ▸ List.mem_append_left _ hb)⟩,λ{H1 vs' bs1 xs'} e h1 hb hx=>?_⟩
   have keep:∀ b o,b ≠ a->H b=some o->upd H1 a (.lst vs') b=H b:=λb o ne h=>by rw [ax ne,e _ _ h,h]
   have la:∀ b,b ∈ l\/b ∈ r->b ≠ a:=λb hb z=>by
     rcases hb with q | q
     · exact n3 b q a (List.mem_append_left _ (List.mem_cons_self ..)) z
     · exact n4 (z ▸ List.mem_append_right _ q)
   have fresh:∀ b ∈ bs1,b ∈ bs0\/(b ∉ l/\b ≠ a/\b ∉ r):=λb hb1=>by
     rcases hb b hb1 with q | ⟨q,_⟩
     · exact .inl q
     · have no:∀ c,c ∈ B i->b ≠ c:=λc hc z=>by obtain ⟨o,hc⟩:=S.bd i c hc; rw [<- z,q] at hc; cases hc
       exact .inr ⟨λz=>no b (mem b (.inl z)) rfl,no a (mem a (.inr (.inl rfl))),λz=>no b (mem b (.inr (.inr (.inr z)))) rfl⟩
   have sub:∀ b,own A (upB B i (l++((a :: bs1)++r))) b->own A B b\/b ∈ bs1:=λb z=>by
     rcases z with z | ⟨j,z⟩
     · exact .inl (.inl z)
     · rcases aV z with ⟨_,z⟩ | ⟨_,z⟩
       · rcases List.mem_append.mp z with z | z
         · exact .inl (.inr ⟨i,mem b (.inl z)⟩)
         · rw [List.cons_append] at z
           rcases List.mem_cons.mp z with z | z
           · exact .inl (z ▸ ha)
           · rcases List.mem_append.mp z with z | z
             · exact .inr z
             · exact .inl (.inr ⟨i,mem b (.inr (.inr (.inr z)))⟩)
       · exact .inl (.inr ⟨j,z⟩)
   have sm:aj (hd H (own A B)) (hd (upd H1 a (.lst vs')) (own A (upB B i (l++((a :: bs1)++r))))):=λb o z=>by
     obtain ⟨z1,z2⟩:=ak.mp z
     refine ak.mpr ⟨λy=>?_,by rw [keep b o (λq=>z1 (q ▸ ha)) z2]; exact z2⟩
     rcases sub b y with y | y
     · exact z1 y
     · rcases hb b y with q | ⟨q,_⟩
       · exact z1 (.inr ⟨i,mem b (.inr (.inr (.inl q)))⟩)
       · rw [q] at z2; cases z2
   have hs:aj H₀ (upd H1 a (.lst vs')):=λb o z=>by
     have f0:=S.fr i a (mem a (.inr (.inl rfl)))
     rw [ax (λq=>by rw [q,f0] at z; cases z)]
     exact e _ _ (S.same _ _ z)
   refine ⟨upB B i (l++((a :: bs1)++r)),hs,by rw [List.length_set,S.len],λj s hj=>?_,λj b z=>?_,λj k b z1 z2=>?_,S.ad,λj b z=>?_⟩
   · by_cases ej:j=i
     · subst ej
       have hl:=(List.getElem?_eq_some_iff.mp hi).1
       rw [List.getElem?_set_self hl] at hj
       cases hj
       unfold upB
       rw [if_pos rfl]
       refine ⟨p6 nd' h1 fresh,u,eu,back sm (λb hb=>?_) (.l aF (hx.frame (au (aj.refl _) sub) λ_ _=>rfl))⟩
       obtain ⟨o,q⟩:=S.bd j b (mem b (hb.elim .inl λz=>.inr (.inr (.inr z))))
       exact keep b o (la b hb) q
     · rw [List.getElem?_set_ne (λz=>ej z.symm)] at hj
       unfold upB
       rw [if_neg ej]
       refine (S.sl j s hj).frame sm λb hb=>?_
       obtain ⟨o,q⟩:=S.bd j b hb
       exact keep b o (λz=>ej (S.uq j i a (z ▸ hb) (mem a (.inr (.inl rfl))))) q
   · rcases aV z with ⟨_,z⟩ | ⟨_,z⟩
     · rcases sub b (.inr ⟨i,by unfold upB; rw [if_pos rfl]; exact z⟩) with y | y
       · rcases List.mem_append.mp z with z | z
         · exact S.fr i b (mem b (.inl z))
         · rw [List.cons_append] at z
           rcases List.mem_cons.mp z with z | z
           · exact S.fr i b (mem b (.inr (.inl z)))
           · rcases List.mem_append.mp z with z | z
             · rcases hb b z with q | ⟨q,_⟩
               · exact S.fr i b (mem b (.inr (.inr (.inl q))))
               · exact S.same.free q
             · exact S.fr i b (mem b (.inr (.inr (.inr z))))
       · rcases hb b y with q | ⟨q,_⟩
         · exact S.fr i b (mem b (.inr (.inr (.inl q))))
         · exact S.same.free q
     · exact S.fr j b z
   · have inB:∀ {c},c ∈ l++((a :: bs1)++r)->c ∈ B i\/H c=none:=λ{c} z=>by
       rcases List.mem_append.mp z with z | z
       · exact .inl (mem c (.inl z))
       · rw [List.cons_append] at z
         rcases List.mem_cons.mp z with z | z
         · exact .inl (mem c (.inr (.inl z)))
         · rcases List.mem_append.mp z with z | z
           · rcases hb c z with q | ⟨q,_⟩
             · exact .inl (mem c (.inr (.inr (.inl q))))
             · exact .inr q
           · exact .inl (mem c (.inr (.inr (.inr z))))
     have cross:∀ {j},j ≠ i->b ∈ B j->b ∈ l++((a :: bs1)++r)->False:=λ{j} nj y1 y2=>by
       rcases inB y2 with q | q
       · exact nj (S.uq j i b y1 q)
       · obtain ⟨o,w⟩:=S.bd j b y1; rw [q] at w; cases w
     rcases aV z1 with ⟨e1,y1⟩ | ⟨e1,y1⟩ <;> rcases aV z2 with ⟨e2,y2⟩ | ⟨e2,y2⟩
     · exact e1.trans e2.symm
     · exact (cross e2 y2 y1).elim
     · exact (cross e1 y1 y2).elim
     · exact S.uq j k b y1 y2
   · rcases aV z with ⟨_,z⟩ | ⟨_,z⟩
     · by_cases e':b=a
       · exact ⟨_,by rw [e']; exact aF⟩
       · rw [ax e']
         have old:b ∈ B i->∃ o,H1 b=some o:=λq=>let ⟨o,w⟩:=S.bd i b q; ⟨o,e _ _ w⟩
         rcases List.mem_append.mp z with z | z
         · exact old (mem b (.inl z))
         · rw [List.cons_append] at z
           rcases List.mem_cons.mp z with z | z
           · exact absurd z e'
           · rcases List.mem_append.mp z with z | z
             · rcases hb b z with q | ⟨_,q⟩
               · exact old (mem b (.inr (.inr (.inl q))))
               · exact q
             · exact old (mem b (.inr (.inr (.inr z))))
     · by_cases e':b=a
       · exact ⟨_,by rw [e']; exact aF⟩
       · rw [ax e']
         obtain ⟨o,w⟩:=S.bd j b z
         exact ⟨o,e _ _ w⟩
end
noncomputable def dP (K:PySem.W.Frag) (τ:List Sl) (i:Nat) (p:List Nat):TE:=λσ H Q=>∃ A H₀ B,Sta K A H₀ τ B σ H/\∀ u v H',(σ[i]?).join=some u->aj H H'->dh H' p u v->Q v H'
noncomputable def tw:Sl->Option Nd
 | .un=>none
 | .d x=>some (.d x)
 | .o xs=>some (.l (xs.map .d))
 | .n t=>some t
 | .x _=>none
section
variable {K:PySem.W.Frag} {G H:Hp}
theorem nB:∀ {vs:List V} {xs:List D},aq K G vs xs->aP K G H vs [] (xs.map .d)
 | _,_,.nil=>.nil
 | _,_,.cons h r=>.cons (b1:=[]) (b2:=[]) (.d h) (nB r)
theorem bR.nd {v:V} {bs:List Addr} {s:Sl} {c:Nd} (h:bR K G H (some v) bs s) (e:tw s=some c):bu K G H v bs c/\bs.Nodup:=by
 cases s with
 | un=>cases e
 | d x=>cases e; obtain ⟨rfl,u,eu,d⟩:=h; cases eu; exact ⟨.d d,List.nodup_nil⟩
 | o xs=>cases e; obtain ⟨a,vs,rfl,e2,h3,h4⟩:=h; cases e2; exact ⟨.l h3 (nB h4),by simp⟩
 | n t=>cases e; obtain ⟨h0,u,eu,h2⟩:=h; cases eu; exact ⟨h2,h0⟩
 | x E=>cases e
theorem aP.snoc {v:V} {c:Nd} {b2:List Addr} (h:bu K G H v b2 c):∀ {vs:List V} {bs:List Addr} {xs:List Nd},aP K G H vs bs xs->aP K G H (vs++[v]) (bs++b2) (xs++[c])
 | _,_,_,.nil=>by have:=aP.cons h .nil; rw [List.append_nil] at this; exact this
 | _,_,_,.cons h1 r=>by rw [List.append_assoc]; exact .cons h1 (aP.snoc h r)
theorem Sta.nd {A:Addr->Prop} {H₀:Hp} {τ:List Sl} {B:Nat->List Addr} {σ:L2.St} (S:Sta K A H₀ τ B σ H) {i:Nat} {s:Sl} {c:Nd} (hi:τ[i]?=some s) (hc:tw s=some c):Sta K A H₀ (τ.set i (.n c)) (upB B i (B i)) σ H:=
 S.less (λ_ z=>z) λG' g _=>by
   have q:=S.sl i s hi
   obtain ⟨u,e⟩:∃ u,(σ[i]?).join=some u:=by
     cases s with
     | un=>cases hc
     | d x=>obtain ⟨_,u,e,_⟩:=q; exact ⟨u,e⟩
     | o xs=>obtain ⟨_,_,_,e,_⟩:=q; exact ⟨_,e⟩
     | n t=>obtain ⟨_,u,e,_⟩:=q; exact ⟨u,e⟩
     | x E=>cases hc
   rw [e] at q ⊢
   obtain ⟨q1,q2⟩:=q.nd hc
   exact ⟨q2,u,rfl,q1.frame g λ_ _=>rfl⟩
end
section
variable {X:Cx} {C:Bool} {τ:List Sl} {x y z:D} {a b e o ix:Expr} {es:List Expr} {pos p q:Pos} {k:Nat} {s:Sl} {N:Po} {rest:List Stmt} {i:Nat} {t c:Nd} {pt:List Nat} {xs:List Nd} {j:Int} {m:Nat}
theorem C6 (i:Nat) {s:Sl} {c:Nd} (h:PSs X rest (dS X.K (τ.set i (.n c)) N)) (hi:τ[i]?=some s:=by rfl) (hc:tw s=some c:=by rfl):PSs X rest (dS X.K τ N):=iY h λD σ H ⟨A,H₀,B,S,Me⟩=>⟨A,H₀,_,S.nd hi hc,Me⟩
theorem ck (i:Nat) {n:Str} {t:Nd} (h:τ[i]?=some (.n t):=by rfl) (hN:X.N[i]?=some n:=by rfl) (hv:Vis X.env.scope n:=by first | exact Or.inl rfl | exact Or.inr (Or.inl rfl) | exact Or.inr (Or.inr rfl))
   (hd:(n == ("__debug__" : Str))=false:=by decide) (hcd:(n == ("__classdict__" : Str))=false:=by decide):PE X (.Name n pos) (dP X.K τ i []):=peW (bN hN hv hd hcd) λσ H Q ⟨A,H₀,B,S,k⟩=>by
 obtain ⟨_,u,e,_⟩:=S.sl i _ h
 exact ⟨u,slot_of e,k u u H e (aj.refl _) rfl⟩
theorem Sta.at {K:PySem.W.Frag} {A:Addr->Prop} {H₀ H:Hp} {τ:List Sl} {B:Nat->List Addr} {σ:L2.St} (S:Sta K A H₀ τ B σ H) (hi:τ[i]?=some (.n t)) (hp:dW pt t=some c):∃ u v m,(σ[i]?).join=some u/\dh H pt u v/\bu K (hd H (own A B)) H v m c/\∀ b ∈ m,b ∈ B i:=by
 obtain ⟨_,u,e,ok⟩:=S.sl i _ hi
 obtain ⟨v,l,m,r,h1,h2,h3,_⟩:=ok.focus pt hp
 exact ⟨u,v,m,e,h1,h3,λb hb=>by rw [h2]; exact List.mem_append_right _ (List.mem_append_left _ hb)⟩
theorem wX {K:PySem.W.Frag} {G H:Hp} {vs:List V} {bs:List Addr} {m:Nat} (r:aP K G H vs bs xs) (hm:m < xs.length):∃ v,vs[m]?=some v:=⟨vs[m]'(by rw [r.length]; exact hm),List.getElem?_eq_getElem _⟩
theorem zD {n m:Nat} {j:Int} (h:ixN n j=some m):m < n:=by
 unfold ixN at h
 split at h
 · split at h
   · cases h; omega
   · cases h
 · split at h
   · cases h; omega
   · cases h
theorem bM (ha:PE X a (dP X.K τ i pt)) (hb:PE X b (dE X.K false τ (.d (.int j)))) (hi:τ[i]?=some (.n t)) (hp:dW pt t=some (.l xs)) (hj:ixN xs.length j=some m) (hs:nc b:=by exact λ_ _=>rfl):PE X (.Subscript a b pos) (dP X.K τ i (pt++[m])):=
 peW (yP rm ha hb hs) λσ H Q ⟨A,H₀,B,S,k⟩=>⟨A,H₀,B,S,λu v H1 eu e1 pv=>aO (S.mono e1) λw H2 e2 d2=>by
   cases d2
   obtain ⟨u',v',m',eu',pv',ok,_⟩:=((S.mono e1).mono e2).at hi hp
   rw [eu] at eu'
   cases eu'
   obtain rfl:=(pv.mono e2).det pv'
   cases ok with
   | @l ad vs _ _ hH r=>
     obtain ⟨x,hx⟩:=wX r (zD hj)
     exact ⟨ad,vs,j,x,rfl,rfl,SqL.of hH,by unfold atI; rw [r.length,hj]; exact hx,k u x H2 eu (e1.trans e2) (pv'.snoc (.inl hH) hx)⟩⟩
theorem kE (h:PE X e (dP X.K τ i pt)) (hi:τ[i]?=some (.n t)) (hp:dW pt t=some (.d x)):PE X e (dE X.K C τ (.d x)):=peW h λσ H Q q=>by
 obtain ⟨A,H₀,B,S,k⟩:=dJ q
 refine ⟨A,H₀,B,S,λu v H1 eu e1 pv=>?_⟩
 obtain ⟨u',v',m',eu',pv',ok,_⟩:=(S.mono e1).at hi hp
 rw [eu] at eu'
 cases eu'
 obtain rfl:=pv.det pv'
 cases ok with
 | d h=>exact k v H1 e1 (h.mono (au (aj.refl _) λ_ z=>iK z))
theorem zJ {ap cp:Pos} (ho:PE X o (dP X.K τ i pt)) (he:PE X e (dE X.K true τ s)) (hi:τ[i]?=some (.n t)) (hp:dW pt t=some (.l xs)) (hc:tw s=some c) (hl:xs.length < 1000000) (hr:PSs X rest (dS X.K (τ.set i (.n (cK pt t (.l (xs++[c]))))) N))
   (hfew:((backTo cp (starEach [e] X.env)).all (λx=>!x.1) && (backToKw cp (keywordEach [] X.env)).all (λx=>x.1.isSome) && decide (([e]:List Expr).length + ([]:List Keyword).length + (if ([]:List Keyword).isEmpty then 0 else 1) < 30))=true:=by rfl)
   (hline:(ap.endLine == cp.line)=true:=by rfl) (hst:starEach [e] X.env=(false,eval e X.env) :: starEach [] X.env:=by rfl) (hpl:(backTo cp (starEach [] X.env)).any (·.1)=false:=by rfl)
   (hs:swapsWith (.Call (.Attribute o "append" ap) [e] [] cp) none pos.line X.env=pure false:=by rfl) (hbase:attributeBase o "append" X.env (eval o X.env)=eval o X.env:=by rfl) :
   PSs X (.Expr (.Call (.Attribute o "append" ap) [e] [] cp) pos :: rest) (dS X.K τ N):=
 a6 (M:=(·=τ.set i (.n (cK pt t (.l (xs++[c])))))) (psW (fL (n8 PySem.F.plainAttrs_list PySem.F.slot_list_append PySem.F.type_list_append fK ho (bL he dX hst) hbase hfew hline hst hpl) hs) λD σ H ⟨A,H₀,B,S,Me⟩=>by
   refine ⟨A,H₀,B,S,λu v H1 eu e1 pv=>?_⟩
   have S1:=S.mono e1
   obtain ⟨u',l,vs,bs0,eu',pv',hH,r0,nd0,hal,hown,put⟩:=S1.putN hi hp
   rw [eu] at eu'
   cases eu'
   obtain rfl:=pv.det pv'
   refine ⟨.inl ⟨rfl,_,SqL.of hH⟩,A,H₀,B,S1,λw H2 bs e2 hf hw=>⟨l,vs,w,rfl,rfl,e2 _ _ hH,by rw [r0.length]; exact Nat.lt_trans hl (by decide),?_⟩⟩
   obtain ⟨nw,ndw⟩:=hw.nd hc
   have off:∀ b ∈ bs,b ≠ l:=λb hb z=>by rw [z] at hb; rw [(hf l hb).1] at hH; cases hH
   have sm:aj (hd H2 λb=>own A B b\/b ∈ bs) (hd (upd H2 l (.lst (vs++[w]))) λb=>own A B b\/b ∈ bs0++bs):=λb o z=>by
     obtain ⟨z1,z2⟩:=ak.mp z
     refine ak.mpr ⟨λy=>z1 ?_,by rw [ax (λy:b=l=>z1 (.inl (by rw [y]; exact hal)))]; exact z2⟩
     rcases y with y | y
     · exact .inl y
     · exact (List.mem_append.mp y).elim (λz=>.inl (hown b z).1) .inr
   have sm0:aj (hd H1 (own A B)) (hd (upd H2 l (.lst (vs++[w]))) λb=>own A B b\/b ∈ bs0++bs):=λb o z=>by
     obtain ⟨z1,z2⟩:=ak.mp z
     refine ak.mpr ⟨λy=>?_,by rw [ax (λy:b=l=>z1 (by rw [y]; exact hal))]; exact e2 _ _ z2⟩
     rcases y with y | y
     · exact z1 y
     · rcases List.mem_append.mp y with y | y
       · exact z1 (hown b y).1
       · rw [(hf b y).1] at z2; cases z2
   obtain ⟨B',S'⟩:=put (H1:=H2) (vs':=vs++[w]) (bs1:=bs0++bs) (xs':=xs++[c]) e2 (List.nodup_append.mpr ⟨nd0,ndw,λx hx y hy z=>by
       obtain ⟨o,q⟩:=r0.some_of x hx
       rw [z,(hf y hy).1] at q; cases q⟩)
     (λb hb=>(List.mem_append.mp hb).elim .inl λz=>.inr (hf b z))
     (aP.snoc (nw.frame sm λb hb=>ax (off b hb)) (r0.frame sm0 λb hb=>by
       obtain ⟨o,q⟩:=r0.some_of b hb
       rw [ax (hown b hb).2,e2 _ _ q,q]))
   exact Me.nx _ B' _ _ rfl S') λ_ e=>e ▸ hr
end
end Hy
namespace Ev
open PySem PySem.Spec PyProof.Rows L2
noncomputable def bad:Str:=⟨#[0x110000]⟩
mutual
noncomputable def eqD:D->D->Bool
 | .non,.non=>true
 | .bl a,.bl b=>a == b
 | .bl a,.int j=>(if a then 1 else 0) == j
 | .int i,.bl b=>i == (if b then 1 else 0)
 | .int a,.int b=>a == b
 | .str a,.str b=>a == b
 | .tup xs,.tup ys=>kc xs ys
 | .lst xs,.lst ys=>kc xs ys
 | .box _,.box _=>true
 | .box _,.str b=>bad == b
 | .str a,.box _=>a == bad
 | .box _,.non | .box _,.bl _ | .box _,.int _ | .box _,.tup _ | .box _,.lst _=>false
 | .non,.box _ | .bl _,.box _ | .int _,.box _ | .tup _,.box _ | .lst _,.box _=>false
 | .non,.bl _ | .non,.int _ | .non,.str _ | .non,.tup _ | .non,.lst _=>false
 | .bl _,.non | .bl _,.str _ | .bl _,.tup _ | .bl _,.lst _=>false
 | .int _,.non | .int _,.str _ | .int _,.tup _ | .int _,.lst _=>false
 | .str _,.non | .str _,.bl _ | .str _,.int _ | .str _,.tup _ | .str _,.lst _=>false
 | .tup _,.non | .tup _,.bl _ | .tup _,.int _ | .tup _,.str _ | .tup _,.lst _=>false
 | .lst _,.non | .lst _,.bl _ | .lst _,.int _ | .lst _,.str _ | .lst _,.tup _=>false
noncomputable def kc:List D->List D->Bool
 | [],[]=>true
 | x :: xs,y :: ys=>eqD x y && kc xs ys
 | [],_ :: _=>false
 | _ :: _,[]=>false
end
mutual
noncomputable def toP:D->PyData
 | .non=>.none
 | .bl b=>.bool b
 | .int i=>.int i
 | .str x=>.str x
 | .tup xs=>.tuple (fQ xs)
 | .lst xs=>.list (fQ xs)
 | .box _=>.str bad
noncomputable def fQ:List D->List PyData
 | []=>[]
 | x :: xs=>toP x :: fQ xs
end
mutual
noncomputable def cln:D->Bool
 | .str x=>PyData.strOk x
 | .tup xs=>eQ xs
 | .lst xs=>eQ xs
 | .box _=>false
 | .non | .bl _ | .int _=>true
noncomputable def eQ:List D->Bool
 | []=>true
 | x :: xs=>cln x && eQ xs
end
mutual
noncomputable def dep:D->Nat
 | .tup xs=>fN xs + 1
 | .lst xs=>fN xs + 1
 | .non | .bl _ | .int _ | .str _ | .box _=>0
noncomputable def fN:List D->Nat
 | []=>0
 | x :: xs=>max (dep x) (fN xs)
end
noncomputable def eP (x:D):Prop:=cln x=true/\dep x<=64
noncomputable instance (x:D):Decidable (eP x):=inferInstanceAs (Decidable (_/\_))
mutual
theorem gQ:∀ x y:D,PyData.eqv (toP x) (toP y)=eqD x y
 | .non,y=>by cases y <;> simp [toP,PyData.eqv,eqD]
 | .bl a,y=>by cases y <;> simp [toP,PyData.eqv,eqD]
 | .int a,y=>by cases y <;> simp [toP,PyData.eqv,eqD]
 | .str a,y=>by cases y <;> simp [toP,PyData.eqv,eqD]
 | .tup xs,.tup ys=>by simp only [toP,PyData.eqv,eqD]; exact jg xs ys
 | .lst xs,.lst ys=>by simp only [toP,PyData.eqv,eqD]; exact jg xs ys
 | .tup xs,.non=>by simp [toP,PyData.eqv,eqD]
 | .tup xs,.bl _=>by simp [toP,PyData.eqv,eqD]
 | .tup xs,.int _=>by simp [toP,PyData.eqv,eqD]
 | .tup xs,.str _=>by simp [toP,PyData.eqv,eqD]
 | .tup xs,.lst _=>by simp [toP,PyData.eqv,eqD]
 | .lst xs,.non=>by simp [toP,PyData.eqv,eqD]
 | .lst xs,.bl _=>by simp [toP,PyData.eqv,eqD]
 | .lst xs,.int _=>by simp [toP,PyData.eqv,eqD]
 | .lst xs,.str _=>by simp [toP,PyData.eqv,eqD]
 | .lst xs,.tup _=>by simp [toP,PyData.eqv,eqD]
 | .tup xs,.box _=>by simp [toP,PyData.eqv,eqD]
 | .lst xs,.box _=>by simp [toP,PyData.eqv,eqD]
 | .box _,y=>by cases y <;> simp [toP,PyData.eqv,eqD]
theorem jg:∀ xs ys:List D,PyData.eqvAll (fQ xs) (fQ ys)=kc xs ys
 | [],[]=>by simp [fQ,PyData.eqvAll,kc]
 | [],_ :: _=>by simp [fQ,PyData.eqvAll,kc]
 | _ :: _,[]=>by simp [fQ,PyData.eqvAll,kc]
 | x :: xs,y :: ys=>by simp only [fQ,PyData.eqvAll,kc]; rw [gQ x y,jg xs ys]
end
mutual
theorem mj:∀ x:D,(toP x).canLay0=cln x
 | .non=>by simp [toP,PyData.canLay0,cln]
 | .bl _=>by simp [toP,PyData.canLay0,cln]
 | .int _=>by simp [toP,PyData.canLay0,cln]
 | .str _=>by simp [toP,PyData.canLay0,cln]
 | .tup xs=>by simp only [toP,PyData.canLay0,cln]; exact jA xs
 | .lst xs=>by simp only [toP,PyData.canLay0,cln]; exact jA xs
 | .box _=>by simp only [toP,PyData.canLay0,cln]; decide +kernel
theorem jA:∀ xs:List D,PyData.canLayAll0 (fQ xs)=eQ xs
 | []=>by simp [fQ,PyData.canLayAll0,eQ]
 | x :: xs=>by simp only [fQ,PyData.canLayAll0,eQ]; rw [mj x,jA xs]
end
mutual
theorem lW:∀ x:D,(toP x).depth=dep x
 | .non=>by simp [toP,PyData.depth,dep]
 | .bl _=>by simp [toP,PyData.depth,dep]
 | .int _=>by simp [toP,PyData.depth,dep]
 | .str _=>by simp [toP,PyData.depth,dep]
 | .tup xs=>by simp only [toP,PyData.depth,dep]; rw [kx xs]
 | .lst xs=>by simp only [toP,PyData.depth,dep]; rw [kx xs]
 | .box _=>by simp [toP,PyData.depth,dep]
theorem kx:∀ xs:List D,PyData.depthAll (fQ xs)=fN xs
 | []=>by simp [fQ,PyData.depthAll,fN]
 | x :: xs=>by simp only [fQ,PyData.depthAll,fN]; rw [lW x,kx xs]
end
theorem cU {x:D} (h:eP x):SeqAt.shaped (toP x)=true:=by
 unfold SeqAt.shaped
 rw [mj,lW,h.1,Bool.true_and]
 exact decide_eq_true h.2
section
variable {X:Cx} {pins:List (Addr × Obj)} {σ:L2.St} {H G:Hp} {s:Shared}
mutual
theorem cZ (I:Inv X pins σ H s) (e:aj G H):∀ {v:V} {d:D} {u:Value},Den X.K G v d->RelV v u->cln d=true->∃ as,Reads s.heap u (toP d) as
 | _,_,_,.non,r,_=>by cases r; exact ⟨_,.none⟩
 | _,_,_,.bl,r,_=>by cases r; exact ⟨_,.bool _⟩
 | _,_,_,.int,r,_=>by obtain ⟨t,rfl⟩:=r; exact ⟨_,.int _ _⟩
 | _,_,_,.str,r,_=>by obtain ⟨t,rfl⟩:=r; exact ⟨_,.str _ _⟩
 | _,_,_,.tup h q,r,c=>by
   cases r
   obtain ⟨its,rv,⟨o,h1,h2,n,h3⟩,_⟩:=I.tuple (aX e h)
   obtain ⟨as,z⟩:=ie I e q rv (by rw [cln] at c; exact c)
   exact ⟨_,.tuple h1 h2 h3 (by simpa using z)⟩
 | _,_,_,.lst h q,r,c=>by
   cases r
   obtain ⟨its,rv,⟨o,n,h1,h2,_,h3⟩,_⟩:=I.list (aI e h)
   obtain ⟨as,z⟩:=ie I e q rv (by rw [cln] at c; exact c)
   exact ⟨_,.list h1 h2 h3 (by simpa using z)⟩
 | _,_,_,.box _,_,c=>by rw [cln] at c; cases c
theorem ie (I:Inv X pins σ H s) (e:aj G H):∀ {vs:List V} {ds:List D} {us:List Value},aq X.K G vs ds->Vals vs us->eQ ds=true->∃ as,ReadsAll s.heap us (fQ ds) as
 | _,_,_,.nil,.nil,_=>⟨_,.nil⟩
 | _,_,_,.cons h q,.cons r rs,c=>by
   rw [eQ,Bool.and_eq_true] at c
   obtain ⟨as,z⟩:=cZ I e h r c.1
   obtain ⟨bs,z'⟩:=ie I e q rs c.2
   exact ⟨_,.cons z z'⟩
end
end
end Ev
namespace Hy
open PySem PySem.Spec PyProof.Rows L2
open Ev (D Den aq ai aX aI Itz Ah qm eqD eP cZ cU gQ)
section
variable {X:Cx} {C:Bool} {τ:List Sl} {x y z:D} {a b e c tg it elt:Expr} {es ifs:List Expr} {pos p q:Pos} {k:Nat} {s:Sl} {N:Po} {rest body:List Stmt} {ds xs ys:List D} {i j:Int} {scope:Scope}
theorem rY (M:Nat->Bool->List Sl->Prop) (B:Bk X k) (h0:∃ n t,M n t τ) (hc:∀ n t τ',M n t τ'->PT X c (dT X.K τ' t)) (hb:∀ n τ',M n true τ'->PSs X body (dS X.K τ' { N with nx:=λτ2=>∃ m t,m < n/\M m t τ2,ct:=λτ2=>∃ m t,m < n/\M m t τ2,bk:=λ_=>False }))
   (hr:∀ n τ',M n false τ'->PSs X rest (dS X.K τ' N)):PSs X (.While c body [] pos :: rest) (dS X.K τ N):=by
 have hc':PT X c λσ H Q=>∃ n t τ',M n t τ'/\dT X.K τ' t σ H Q:=λpins s σ H Q I ⟨n,t,τ',m,q⟩=>hc n t τ' m pins s σ H Q I q
 have hb':PSs X body λD σ H=>∃ n τ',M n true τ'/\dS X.K τ' { N with nx:=λτ2=>∃ m t,m < n/\M m t τ2,ct:=λτ2=>∃ m t,m < n/\M m t τ2,bk:=λ_=>False } D σ H:=λpins s σ H D I ⟨n,τ',m,q⟩=>hb n τ' m pins s σ H D I q
 refine a6 (M:=λτ'=>∃ n,M n false τ') (psW (tZ B.po hc' hb') λD σ H ⟨A,H₀,B,S,Me⟩=>⟨λm σ' H'=>∃ t τ' B',M m t τ'/\Sta X.K A H₀ τ' B' σ' H',?_,?_⟩) λτ' h=>let ⟨n,h⟩:=h; hr n τ' h
 · obtain ⟨n,t,h0⟩:=h0
   exact ⟨n,t,τ,B,h0,S⟩
 rintro m σ' H' ⟨t,τ',B',hM,S'⟩
 refine ⟨m,t,τ',hM,A,H₀,B',S',λH1 e1=>?_⟩
 cases t with
 | false=>exact sH (Me.nx τ' B' σ' H1 ⟨m,hM⟩ (S'.mono e1))
 | true=>
   refine qi ⟨λσ2 H2=>∃ τ2 B2,(∃ n t,n < m/\M n t τ2)/\Sta X.K A H₀ τ2 B2 σ2 H2,λσ2 H2 ⟨τ2,B2,⟨n,t,l,q⟩,S2⟩=>⟨n,l,t,τ2,B2,q,S2⟩,m,τ',hM,A,H₀,B',S'.mono e1,?_⟩
   exact ⟨λτ2 B2 σ2 H2 m S2=>⟨τ2,B2,m,S2⟩,λ_ _ _ _ z=>z.elim,λτ2 B2 σ2 H2 m S2=>⟨τ2,B2,m,S2⟩,Me.rt,Me.xc⟩
noncomputable def ek (xs ys:List D):List D:=(xs.zip ys).map λp=>.tup [p.1,p.2]
theorem bJ:(ek xs ys).length=min xs.length ys.length:=by simp [ek]
theorem mW (i:Nat) (h:i < (ek xs ys).length):(ek xs ys)[i]=.tup [xs.getD i .non,ys.getD i .non]:=by
 rw [bJ] at h
 simp [ek,show i < xs.length by omega,show i < ys.length by omega]
theorem Aj {K:PySem.W.Frag} {G:Hp} {a b:Addr} {vs ws:List V} (h:SqL K G a vs) (r:aq K G vs xs) (h':SqL K G b ws) (r':aq K G ws ys):Yl K (Itz K a b) (ek xs ys) G:=by
 intro H sg
 have hl:=r.length
 have hl':=r'.length
 refine ⟨λi hi=>⟨vs,ws,aI sg h,aI sg h',by rw [bJ] at hi; omega⟩,λi hi=>?_⟩
 have hi':=hi
 rw [bJ] at hi'
 obtain ⟨v,hv,dv⟩:=r.get (List.getElem?_eq_getElem (show i < xs.length by omega))
 obtain ⟨w,hw,dw⟩:=r'.get (List.getElem?_eq_getElem (show i < ys.length by omega))
 refine ⟨⟨vs,ws,v,w,aI sg h,aI sg h',hv,hw⟩,λy H' ⟨p,x1,x2,hp,e0,e1,e2,e3⟩=>?_⟩
 subst e0 e1
 have ex:x1=v:=by have:=e2 vs (aI sg h); rw [hv] at this; exact (Option.some.inj this).symm
 have ey:x2=w:=by have:=e3 ws (aI sg h'); rw [hw] at this; exact (Option.some.inj this).symm
 subst ex ey
 refine ⟨ai hp _,λM hM sv=>?_⟩
 rw [mW,show xs.getD i .non=xs[i] by simp [show i < xs.length by omega],show ys.getD i .non=ys[i] by simp [show i < ys.length by omega]]
 have up:=sv.trans (au (ai hp (.tup [x1,x2])) λ_ z=>z)
 exact .tup (SqT.of (j6 hM hp)) (.cons (dv.mono up) (.cons (dw.mono up) .nil))
theorem rj {ts:List Expr} {m:Nat} {tp:Pos} (B:Bk X k) (h:PE X a (dE X.K true τ (.d (.lst xs)))) (h':PE X b (dE X.K true τ (.d (.lst ys)))) (hg:Gl X "zip":=by rfl) (hs:starEach [a,b] X.env=(false,eval a X.env) :: starEach [b] X.env:=by rfl) (hs2:starEach [b] X.env=[(false,eval b X.env)]:=by rfl) :
   PI X (.Tuple ts m tp) (.Call (.Name "zip" p) [a,b] [] pos) (dI X.K τ (ek xs ys)):=
 piW (qm B.calm hg (B.blt _ (by decide)) (ab h (ab h' af hs2) hs) hs hs2) λσ H R ⟨A,H₀,B,S,k⟩=>fq S λvs H1 e1 d1=>by
   cases d1 with
   | cons d r=>
     cases r with
     | cons d' r=>
       cases r
       cases d with
       | lst h r=>cases d' with
         | lst h' r'=>exact ⟨_,_,rfl,⟨_,aI aL h⟩,⟨_,aI aL h'⟩,k _ H1 e1 (Aj h r h' r')⟩
theorem Aa (hu:X.A.units + 64 < cLine):OpR X (compareOp .Eq) (λx y H Q=>∃ G d e,aj G H/\Den X.K G x d/\Den X.K G y e/\eP d/\eP e/\Q (.bl (eqD d e)) H):=by
 intro pins s σ H x y v u Q I rx ry ⟨G,d,e,sg,dx,dy,o1,o2,q⟩
 obtain ⟨as,r1⟩:=cZ I sg dx rx o1.1
 obtain ⟨bs,r2⟩:=cZ I sg dy ry o2.1
 exact eq_dataH r1 r2 (cU o1) (cU o2) hu ⟨.bl _,H,I,by rw [gQ]; rfl,q⟩
theorem zZ (hu:X.A.units + 64 < cLine):OpR X (compareOp .NotEq) (λx y H Q=>∃ G d e,aj G H/\Den X.K G x d/\Den X.K G y e/\eP d/\eP e/\Q (.bl (!eqD d e)) H):=by
 intro pins s σ H x y v u Q I rx ry ⟨G,d,e,sg,dx,dy,o1,o2,q⟩
 obtain ⟨as,r1⟩:=cZ I sg dx rx o1.1
 obtain ⟨bs,r2⟩:=cZ I sg dy ry o2.1
 exact ne_dataH r1 r2 (cU o1) (cU o2) hu ⟨.bl _,H,I,by rw [gQ]; rfl,q⟩
theorem yT (B:Bk X k) (h1:eP x) (h2:eP y):cx X (compareOp .Eq) x y (.bl (eqD x y)):=⟨_,Aa B.room.units,λM v w H Q _ d1 d2 q=>⟨_,x,y,aL,d1,d2,h1,h2,q _ H (aj.refl _) .bl⟩⟩
theorem BA (B:Bk X k) (h1:eP x) (h2:eP y):cx X (compareOp .NotEq) x y (.bl (!eqD x y)):=⟨_,zZ B.room.units,λM v w H Q _ d1 d2 q=>⟨_,x,y,aL,d1,d2,h1,h2,q _ H (aj.refl _) .bl⟩⟩
variable {u v:Str}
theorem iQ:∀ {bs:List Bool} {us:List Value},Vals (bs.map V.bl) us->us=bs.map Value.bool
 | [],_,h=>by cases h; rfl
 | b :: bs,_,h=>by
   cases h with
   | cons rv rs=>rw [iQ rs,show _=Value.bool b from rv]; rfl
theorem uX (hc:X.calm=true):eV X (.builtin "all") (λxs H Q=>∃ (p:Addr) (bs:List Bool),xs=[.ref p]/\SqL X.K H p (bs.map V.bl)/\Q (.bl (bs.all id)) H):=by
 intro pins s σ H xs us Q I r q
 obtain ⟨p,bs,rfl,h,q⟩:=q
 obtain ⟨u,rfl,ru⟩:∃ u,us=[u]/\RelV (.ref p) u:=by
   cases r with
   | cons r1 r=>cases r; exact ⟨_,rfl,r1⟩
 cases (show u=Value.ref _ from ru)
 obtain ⟨its,rv,pl,hz⟩:=I.list h
 obtain rfl:=iQ rv
 have lt:∀ a,s.heap.IsList a (bs.map Value.bool).toArray->a ≠ s.heap.objs.size:=λa ⟨o,z,_⟩=>Nat.ne_of_lt (Heap.lt_size z)
 refine call_all_walk (wpAny_pyIter_list pl.isList ⟨_,_,_,_,_,_,λi=>(bs.map Value.bool)[i]? == some (Value.bool true),rfl,Walks.list (A:=X.A.in1) (I.ok.hd hc) _ _ (lt _ pl.isList) (bs.map Value.bool).toArray,⟨⟨_,Heap.get?_push_size _ rfl,rfl,rfl⟩,?_⟩,λi v s' Q' E' hP hQ=>?_,λh' tk hk=>?_⟩)
 · obtain ⟨o,z1,z2⟩:=pl.isList
   exact ⟨o,Heap.get?_push_of_some _ z1,z2⟩
 · have hP':(bs.map Value.bool)[i]?=some v:=by simpa using hP
   obtain ⟨c,_,rfl⟩:=List.mem_map.mp (List.mem_of_getElem? hP')
   refine wpAny_truthy_bool ?_
   have hQ:Q' ((bs.map Value.bool)[i]? == some (Value.bool true)) s':=hQ
   rw [hP'] at hQ
   cases c
   · exact hQ
   · exact hQ
 · refine ⟨.bl (bs.all id),H,I.kept (t':=tk) λb' o z=>?_,?_,q⟩
   · refine hk b' o (λhm=>?_) (Heap.get?_push_of_some _ z)
     have:b'=s.heap.objs.size:=by simpa using hm
     exact absurd (Heap.lt_size z) (by rw [this]; exact Nat.lt_irrefl _)
   · have e:∀ bs:List Bool,bs.all id=(List.range (bs.map Value.bool).toArray.size).all λi=>(bs.map Value.bool)[i]? == some (Value.bool true):=λbs=>by
       rw [List.size_toArray,List.length_map]
       induction bs with
       | nil=>rfl
       | cons b bs ih=>
         rw [List.all_cons,ih,List.length_cons,List.range_succ_eq_map,List.all_cons,List.all_map]
         congr 1
         cases b <;> rfl
     rw [e]; rfl
theorem qO {K:PySem.W.Frag} {H:Hp}:∀ {vs:List V} {bs:List Bool},aq K H vs (bs.map .bl)->vs=bs.map V.bl
 | _,[],h=>by cases h; rfl
 | _,_ :: _,h=>by
   cases h with
   | cons d r=>cases d; rw [qO r]; rfl
theorem fT (hc:X.calm=true) (bs:List Bool) (hx:xs=bs.map .bl):jI X (.builtin "all") [.lst xs] (.d (.bl (bs.all id))):=⟨_,uX hc,λM vs H Q _ d q=>by
 subst hx
 cases d with
 | cons d r=>
   cases r
   cases d with
   | lst h r=>
     cases qO r
     exact ⟨_,_,rfl,aI aL h,q _ H [] (aj.refl _) gh (iU .bl)⟩⟩
end
end Hy
namespace Hy
open PySem PySem.Spec PyProof.Rows L2
open Ev (D Den aq ay aA ai aX aI)
section
variable {X:Cx} {i:Int}
theorem uB {ns:List Int}:cx X (compareOp .NotIn) (.int i) (.lst (ns.map .int)) (.bl (!ns.any λw=>decide (w=i))):=⟨_,mH,λM x' y' H Q _ d1 d2 q=>by
 cases d1
 cases d2 with
 | @lst ad vs _ h r=>
   cases j0 r
   refine ⟨_,_,rfl,.inl (aI aL h),rfl,?_,?_⟩
   · rw [List.all_map,List.all_eq_true]; intro _ _; rfl
   · have e:(ns.any λw=>decide (w=i))=inV (.int i) (ns.map V.int):=by unfold inV; rw [List.any_map]; congr 1
     rw [if_pos rfl]
     rw [e] at q
     exact q _ H (aj.refl _) .bl⟩
end
end Hy
namespace Hy
open PySem PySem.Spec PyProof.Rows L2
open Ev (D Den aq ai aX aI aH eJ di PTs cP dR)
section
variable {X:Cx} {C:Bool} {τ:List Sl} {x y z:D} {a b e c tg it elt o:Expr} {es ifs:List Expr} {pos p q:Pos} {k:Nat} {s:Sl} {N:Po} {rest body:List Stmt} {ds xs ys:List D} {i j:Int} {scope:Scope}
theorem Sta.hide {K:PySem.W.Frag} {A:Addr->Prop} {H₀ H H1:Hp} {B:Nat->List Addr} {σ:L2.St} {b1:List Addr} (S:Sta K A H₀ τ B σ H) (e:aj H H1) (f:Fr H H1 b1):Sta K (λb=>A b\/b ∈ b1) (hd H1 λb=>∃ i,b ∈ B i) τ B σ H1 where
 same:=aL
 len:=S.len
 sl:=λi s h=>(S.sl i s h).mono (λb o z=>by
   obtain ⟨z1,z2⟩:=ak.mp z
   refine ak.mpr ⟨λw=>?_,e _ _ z2⟩
   rcases w with (w | w) | w
   · exact z1 (.inl w)
   · rw [(f b w).1] at z2; cases z2
   · exact z1 (.inr w)) e
 fr:=λi b hb=>by
   cases q:hd H1 (λb=>∃ i,b ∈ B i) b with
   | none=>rfl
   | some o=>exact absurd ⟨i,hb⟩ (ak.mp q).1
 uq:=S.uq
 ad:=λb hb=>by
   rcases hb with z | z
   · obtain ⟨o,q⟩:=S.ad b z
     exact ⟨o,ak.mpr ⟨λ⟨i,w⟩=>(by rw [S.fr i b w] at q; cases q),e _ _ (S.same _ _ q)⟩⟩
   · obtain ⟨w1,o,w2⟩:=f b z
     exact ⟨o,ak.mpr ⟨λ⟨i,w⟩=>(by obtain ⟨o',q⟩:=S.bd i b w; rw [w1] at q; cases q),w2⟩⟩
 bd:=λi b hb=>let ⟨o,q⟩:=S.bd i b hb; ⟨o,e _ _ q⟩
theorem wu {A:Addr->Prop} {B:Nat->List Addr} {b1:List Addr} {b:Addr} (h:vw C A B b\/b ∈ b1):vw C (λb=>A b\/b ∈ b1) B b:=by
 cases C with
 | true=>
   rcases h with (h | h) | h
   · exact .inl (.inl h)
   · exact .inr h
   · exact .inl (.inr h)
 | false=>exact h
theorem yZ {K:PySem.W.Frag} {H:Hp} {M:Addr->Prop} {p:Addr} {o:HO} {vs:List V} {bs:List Addr} {ns:List Nd} (hp:H p=none) (d:aP K (hd H λb=>M b\/b ∈ bs) H vs bs ns) (nd:bs.Nodup) :
   aP K (hd (upd H p o) λb=>M b\/b ∈ p :: bs) (upd H p o) vs bs ns/\(p :: bs).Nodup:=by
 have off:∀ b ∈ bs,b ≠ p:=λb hb z=>by obtain ⟨w,q⟩:=d.some_of b hb; rw [z,hp] at q; cases q
 refine ⟨d.frame (λb w z=>?_) λb hb=>ax (off b hb),List.nodup_cons.mpr ⟨λz=>off p z rfl,nd⟩⟩
 obtain ⟨z1,z2⟩:=ak.mp z
 have ne:b ≠ p:=λy=>by rw [y,hp] at z2; cases z2
 refine ak.mpr ⟨λy=>?_,by rw [ax ne]; exact z2⟩
 rcases y with y | y
 · exact z1 (.inl y)
 · rcases List.mem_cons.mp y with y | y
   · exact ne y
   · exact z1 (.inr y)
end
section
variable {X:Cx} {C:Bool} {τ τ':List Sl} {x y z:D} {a b e c tg it elt o ix:Expr} {es ifs:List Expr} {pos p q:Pos} {k:Nat} {s:Sl} {N:Po} {rest body:List Stmt} {ds xs ys:List D} {i:Nat} {j:Int} {scope:Scope}
noncomputable def dGs (K:PySem.W.Frag) (τ:List Sl) (xs:List D) (τ':List Sl):TGs:=λvs σ H Q=>∃ A H₀ B,Sta K A H₀ τ B σ H/\aq K (hd H (own A B)) vs xs/\∀ σ' B',Sta K A H₀ τ' B' σ' H->Q σ' H
theorem BP {es:List Expr} {t t':TGs} (h:PGs X es t) (f:∀ v σ H Q,t' v σ H Q->t v σ H Q):PGs X es t':=λpins s σ H v u Q I r q=>h pins s σ H v u Q I r (f v σ H Q q)
theorem AB:PGs X [] (dGs X.K τ [] τ):=BP rW λv σ H Q ⟨A,H₀,B,S,d,k⟩=>by
 cases d
 exact ⟨rfl,k σ B S⟩
theorem rR (i:Nat) {n:Str} (hN:X.N.Nodup) (h:PGs X es (dGs X.K (τ.set i (.d x)) xs τ')) (hi:X.N[i]?=some n:=by rfl) (hx:Loc X.env.scope n:=by first | exact .inl rfl | exact .inr rfl) (hf:X.fn n=true\/X.env.scope.names.lookup n=some .local:=by first | exact .inl rfl | exact .inr rfl | assumption):PGs X (.Name n p :: es) (dGs X.K τ (x :: xs) τ'):=
 BP (j8 (da (i:=i) hN hi hx hf) h) λv σ H Q ⟨A,H₀,B,S,d,k⟩=>by
   cases d with
   | cons d r=>
     have sub:∀ b,own A (upB B i []) b->own A B b:=λb z=>z.elim .inl λ⟨j,z⟩=>(aV z).elim (λz=>nomatch z.2) λz=>.inr ⟨j,z.2⟩
     exact ⟨_,_,rfl,A,H₀,_,S.set (aj.refl _) (bs:=[]) (λ_ z=>nomatch z) (iU d),r.mono (au (aj.refl _) sub),k⟩
theorem A6 {m:Nat} (hc:X.calm=true) (h:PGs X es (dGs X.K τ xs τ')) (hl:(assignEach es X.env).length=xs.length:=by rfl) (hst:(assignEach es X.env).findIdx? (·.1)=none:=by rfl):PG X (.Tuple es m pos) (dG X.K τ (.tup xs) τ'):=
 pgW (vL (n:=xs.length) hc h hl hst) λv σ H Q ⟨A,H₀,B,S,d,k⟩=>by
   cases d with
   | tup h r=>exact ⟨_,_,rfl,aX aL h,r.length,A,H₀,B,S,r,k⟩
theorem AO {m:Nat} (he:PE X e (dE X.K true τ (.d x))) (hg:PG X (.Tuple es m p) (dG X.K τ x τ')) (hr:PSs X rest (dS X.K τ' N)) (hs:swapsWithSole [.Tuple es m p] e pos.line X.env=pure false:=by rfl) (hw:swappedStores [.Tuple es m p] e X.env=pure none:=by rfl)
   (h1:(assignEach [.Tuple es m p] X.env).map (·.2)=[assign (.Tuple es m p) X.env]:=by rfl):PSs X (.Assign [.Tuple es m p] e pos :: rest) (dS X.K τ N):=
 a6 (M:=(·=τ')) (psW (mU he hg hs hw h1) λD σ H ⟨A,H₀,B,S,Me⟩=>aO S λv H1 e1 d1=>⟨A,H₀,B,S.mono e1,d1,λσ' B' S'=>Me.nx _ _ _ _ rfl S'⟩) λ_ e=>e ▸ hr
theorem C7 (T:Nat->List Sl) {f:Nat->D} (B:Bk X k) (hi:PI X tg it (dI X.K τ xs)) (hl:xs.length < 1000000) (hT:∀ i,(T i).length=(bo τ (bCp X.N scope)++[Sl.un]).length/\∀ (l:Nat) (x:D),(bo τ (bCp X.N scope)++[Sl.un])[l]?=some (.d x)->(T i)[l]?=some (.d x))
   (hg:∀ i (h:i < xs.length) s H fp,PG (cpX X s H scope fp) tg (dG X.K (bo τ (bCp X.N scope)++[.un]) xs[i] (T i)))
   (he:∀ i,i < xs.length->∀ s H fp,PE (cpX X s H scope fp) elt (dE X.K true (T i) (.d (f i)))) (hc:bOk X.env.scope scope=true:=by kernel_rfl) (hs:∀ x,foldedSetIterable it X.env x=pure x:=by intro _; rfl) :
   Cmp X elt tg it [] scope τ ((List.range xs.length).map f):=by
 have h:=p8 (T:=T) (t:=λ_=>true) (f:=f) (elt:=elt) (ifs:=[]) hc hi hT hg (λi h s H fp=>λpins s' σ H' Q I ⟨A,H₀,B,S,q⟩=>mS pins s' σ H' Q I (q H' (aj.refl _))) (λi h _ s H fp=>he i h s H fp) hl hs
 rwa [List.filter_eq_self.mpr λ_ _=>rfl] at h
theorem xm {c:Expr} {t:TT} (h:PT X c t):PTs X [c] t:=λpins s σ H Q I q=>wpAny_tests_one (h pins s σ H Q I q)
theorem Bg (j:Nat) {n:Str} {g f:Nat->D} {t:Nat->Bool} (B:Bk X k) (hi:PI X (.Name n p) it (dI X.K τ xs)) (hx:∀ i (h:i < xs.length),xs[i]=g i) (hl:xs.length < 1000000)
   (ht:∀ i,i < xs.length->∀ s H fp,PT (cpX X s H scope fp) c (dT X.K ((bo τ (bCp X.N scope)++[Sl.un]).set j (.d (g i))) (t i)))
   (he:∀ i,i < xs.length->t i=true->∀ s H fp,PE (cpX X s H scope fp) elt (dE X.K true ((bo τ (bCp X.N scope)++[Sl.un]).set j (.d (g i))) (.d (f i))))
   (hc:bOk X.env.scope scope=true:=by kernel_rfl) (hu:(bo τ (bCp X.N scope)++[Sl.un])[j]?=some .un:=by rfl) (hN:(bNm scope++[("#" : Str)])[j]?=some n:=by rfl) (hv:∀ s H fp,Loc (cpX X s H scope fp).env.scope n:=by intro _ _ _; first | exact .inl rfl | exact .inr rfl)
   (hf:∀ s H fp,(cpX X s H scope fp).fn n=true\/(cpX X s H scope fp).env.scope.names.lookup n=some .local:=by intro _ _ _; first | exact .inr rfl | exact .inl rfl) (hs:∀ x,foldedSetIterable it X.env x=pure x:=by intro _; rfl) :
   Cmp X elt (.Name n p) it [c] scope τ (((List.range xs.length).filter t).map f):=by
 refine p8 (T:=λi=>(bo τ (bCp X.N scope)++[Sl.un]).set j (.d (g i))) (t:=t) (f:=f) (elt:=elt) (ifs:=[c]) hc hi (λi=>⟨List.length_set,λl x h=>?_⟩) (λi h s H fp=>?_) (λi h s H fp=>xm (ht i h s H fp)) he hl hs
 · rw [List.getElem?_set_ne (λz=>by rw [<- z,hu] at h; cases h)]
   exact h
 · rw [hx i h]
   exact wy j (fM hc).2 hN (hv s H fp) (hf s H fp)
structure xJ (X:Cx) (elt tg it:Expr) (ifs:List Expr) (scope:Scope) (τ:List Sl) (ns:List Nd):Prop where
 ex:∃ (In:TG->TT->TE->Prop) (caps:List (Option Nat)) (N:List Str) (wi:TI),di X scope N caps/\PI X tg it wi/\(∀ g tt te,In g tt te->∀ s H fp,PG (aH X s H scope N fp) tg g/\PTs (aH X s H scope N fp) ifs tt/\PE (aH X s H scope N fp) elt te) /\
   ∀ C σ H Q,dE X.K C τ (.n (.l ns)) σ H Q->dR In caps wi σ H Q
 hs:∀ x,foldedSetIterable it X.env x=pure x
theorem wD {T:Nat->List Sl} {f:Nat->Nd} {S':Nat->Sl} (B:Bk X k) (hc:bOk X.env.scope scope=true) (hi:PI X tg it (dI X.K τ xs)) (hT:∀ i,(T i).length=(bo τ (bCp X.N scope)++[Sl.un]).length/\∀ (l:Nat) (x:D),(bo τ (bCp X.N scope)++[Sl.un])[l]?=some (.d x)->(T i)[l]?=some (.d x))
   (hg:∀ i (h:i < xs.length) s H fp,PG (cpX X s H scope fp) tg (dG X.K (bo τ (bCp X.N scope)++[.un]) xs[i] (T i)))
   (he:∀ i,i < xs.length->∀ s H fp,PE (cpX X s H scope fp) elt (dE X.K true (T i) (S' i))) (hn:∀ i,i < xs.length->tw (S' i)=some (f i)) (hl:xs.length < 1000000) (hs:∀ x,foldedSetIterable it X.env x=pure x:=by intro _; rfl) :
   xJ X elt tg it [] scope τ ((List.range xs.length).map f):=by
 obtain ⟨cap,_⟩:=fM hc
 generalize hτ:bo τ (bCp X.N scope)++[Sl.un]=τb at *
 refine ⟨⟨λg tt te=>g=(λv σ H Q=>∃ (i:Nat) (h:i < xs.length),dG X.K τb xs[i] (T i) v σ H Q)/\tt=(λσ H Q=>Q true H)/\te=(λσ H Q=>∃ i,i < xs.length/\dE X.K true (T i) (S' i) σ H Q),_,_,_,cap,hi,?_,?_⟩,hs⟩
 · rintro g tt te ⟨rfl,rfl,rfl⟩ s H fp
   exact ⟨λpins s' σ H' v u Q I r ⟨i,h,q⟩=>hg i h s H fp pins s' σ H' v u Q I r q,mS,λpins s' σ H' Q I ⟨i,h,q⟩=>he i h s H fp pins s' σ H' Q I q⟩
 rintro C σ H Q ⟨A,H₀,B,S,kk⟩
 refine ⟨A,H₀,B,S,λJ H1 e1 yl=>⟨_,_,_,⟨rfl,rfl,rfl⟩,λD hD=>?_⟩⟩
 have S1:=S.mono e1
 have flat:∀ (l:Nat) (s:Sl),τb[l]?=some s->s=.un\/∃ x,s=.d x:=λl s h=>by
   rw [<- hτ] at h
   rcases List.mem_append.mp (List.mem_of_getElem? h) with z | z
   · unfold bo at z
     obtain ⟨o,_,ho⟩:=List.mem_map.mp z
     split at ho
     · split at ho
       · exact .inr ⟨_,ho.symm⟩
       · exact .inl ho.symm
     · exact .inl ho.symm
   · exact .inl (List.mem_singleton.mp z)
 have slots:∀ {σ':L2.St} {H':Hp} {rs:List Addr},aj H1 H'->(∃ o,H' D=some o)->(∀ b ∈ rs,∃ o,H' b=some o)->σ'.length=τb.length->(∀ (l:Nat) (s:Sl),τb[l]?=some s->bR X.K (hd H' λb=>own A B b\/b=D\/b ∈ rs) H' (σ'[l]?).join [] s)->Sta X.K (λb=>own A B b\/b=D\/b ∈ rs) H' τb (λ_=>[]) σ' H':=λ{σ' H' rs} e1 e2 e5 e3 e4=>
   ⟨aj.refl _,e3,λl s h=>(e4 l s h).mono (au (aj.refl _) λ_ z=>z.elim id λ⟨_,z⟩=>(nomatch z)) (aj.refl _),λ_ _ z=>(nomatch z),λ_ _ _ z=>(nomatch z),λb z=>z.elim (λz=>let ⟨o,q⟩:=S1.dm b z; ⟨o,e1 _ _ q⟩) λz=>z.elim (λz=>z ▸ e2) (e5 b),λ_ _ z=>(nomatch z)⟩
 refine ⟨λi m σ' H'=>m=xs.length - i/\i<=xs.length/\aj H1 H'/\(∃ vs rs,H' D=some (.lst vs)/\vs.length<=i/\aP X.K (hd H' λb=>own A B b\/b=D\/b ∈ rs) H' vs rs ((List.range i).map f)/\(D :: rs).Nodup/\(∀ b ∈ rs,H1 b=none) /\
   σ'.length=τb.length/\∀ (l:Nat) (s:Sl),τb[l]?=some s->bR X.K (hd H' λb=>own A B b\/b=D\/b ∈ rs) H' (σ'[l]?).join [] s),⟨xs.length,rfl,Nat.zero_le _,ai hD _,[],[],aF,Nat.le_refl _,.nil,by simp,λ_ z=>(nomatch z),?_,λl s h=>?_⟩,?_⟩
 · rw [<- hτ]; unfold eJ bo; rw [List.length_append,List.length_append,List.length_map,List.length_map]; rfl
 · have hv:aj (hd H (own A B)) (hd (upd H1 D (.lst [])) λb=>own A B b\/b=D\/b ∈ ([]:List Addr)):=λb o z=>by
     obtain ⟨z1,z2⟩:=ak.mp z
     have z2:=e1 _ _ z2
     have ne:b ≠ D:=λz=>by rw [z,hD] at z2; cases z2
     exact ak.mpr ⟨λy=>y.elim z1 λy=>y.elim ne λy=>(nomatch y),by rw [ax ne]; exact z2⟩
   rcases flat l s h with rfl | ⟨x,rfl⟩
   · rfl
   · rw [<- hτ] at h
     have hlt:l < (bCp X.N scope).length:=by
       rcases Nat.lt_or_ge l (bCp X.N scope).length with h' | h'
       · exact h'
       · exfalso
         rw [List.getElem?_append_right (by unfold bo; rw [List.length_map]; exact h')] at h
         cases e:l - (bo τ (bCp X.N scope)).length with
         | zero=>rw [e] at h; cases h
         | succ n=>rw [e] at h; cases h
     rw [List.getElem?_append_left (by unfold bo; rw [List.length_map]; exact hlt)] at h
     rw [List.getElem?_append_left (by unfold eJ; rw [List.length_map]; exact hlt)]
     unfold bo at h
     unfold eJ
     rw [List.getElem?_map] at h ⊢
     cases e:(bCp X.N scope)[l]? with
     | none=>rw [e] at h; cases h
     | some o=>
       rw [e] at h
       cases o with
       | none=>cases h
       | some i=>
         simp only [Option.map_some,Option.some.injEq] at h
         split at h
         · rename_i x' hx'
           cases h
           obtain ⟨_,u,eu,d⟩:=S.sl i _ hx'
           exact ⟨rfl,u,by simpa using eu,d.mono hv⟩
         · cases h
 rintro i m σ' H' ⟨rfl,hi,e2,vs,rs,hv1,hv2,hv3,hnd,hfr,hlen,hsl⟩
 obtain ⟨y1,y2⟩:=yl H' (aL.trans e2)
 have rsd:∀ b ∈ rs,∃ o,H' b=some o:=hv3.some_of
 by_cases hlt:i < xs.length
 · obtain ⟨g,y⟩:=y2 i hlt
   refine .inr ⟨g,λx H2 hy=>?_⟩
   obtain ⟨e3,dx⟩:=y x H2 hy
   have S2:=slots e2 ⟨_,hv1⟩ rsd hlen hsl
   have o0:∀ b,own (λb=>own A B b\/b=D\/b ∈ rs) (λ_=>([]:List Addr)) b->own A B b\/b=D\/b ∈ rs:=λb z=>z.elim id λ⟨_,z⟩=>(nomatch z)
   have dx':=dx _ S2.dm (λb o z=>by
     obtain ⟨z1,z2⟩:=ak.mp z
     exact ak.mpr ⟨λy=>(o0 b y).elim z1 λy=>y.elim (λy=>(by rw [y,hD] at z2; cases z2)) λy=>(by rw [hfr b y] at z2; cases z2),e2 _ _ z2⟩)
   refine ⟨i,hlt,_,_,_,S2.mono e3,dx',λσ2 B2 S3=>?_⟩
   refine qi ⟨i,hlt,_,_,_,S3,λv H5 bs e5 hf5 d5=>?_⟩
   obtain ⟨nv,ndv⟩:=d5.nd (hn i hlt)
   have e6:=e3.trans e5
   have hv5:=e6 _ _ hv1
   have bsD:∀ b ∈ bs,b ≠ D:=λb hb z=>by have:=(hf5 b hb).1; rw [z,e3 _ _ hv1] at this; cases this
   have bsR:∀ b ∈ bs,b ∉ rs:=λb hb z=>by obtain ⟨o,q⟩:=rsd b z; have:=(hf5 b hb).1; rw [e3 _ _ q] at this; cases this
   refine ⟨vs,xs.length - (i + 1),hv5,Nat.lt_trans (Nat.lt_of_le_of_lt hv2 (Nat.lt_trans hlt hl)) (by decide),by omega,rfl,hlt,?_,vs++[v],rs++bs,aF,by rw [List.length_append]; exact Nat.succ_le_succ hv2,?_,?_,?_,S3.len.trans (hT i).1,λl s h=>?_⟩
   · intro b o z
     have ne:b ≠ D:=λy=>by rw [y,hD] at z; cases z
     rw [ax ne]
     exact e6 _ _ (e2 _ _ z)
   · rw [List.range_succ,List.map_append]
     have sm1:aj (hd H5 λb=>vw true (λb=>own A B b\/b=D\/b ∈ rs) B2 b\/b ∈ bs) (hd (upd H5 D (.lst (vs++[v]))) λb=>own A B b\/b=D\/b ∈ rs++bs):=λb o z=>by
       obtain ⟨z1,z2⟩:=ak.mp z
       refine ak.mpr ⟨λy=>z1 ?_,by rw [ax (λy:b=D=>z1 (.inl (.inl (.inr (.inl y)))))]; exact z2⟩
       rcases y with y | y | y
       · exact .inl (.inl (.inl y))
       · exact .inl (.inl (.inr (.inl y)))
       · exact (List.mem_append.mp y).elim (λy=>.inl (.inl (.inr (.inr y)))) .inr
     have sm2:aj (hd H' λb=>own A B b\/b=D\/b ∈ rs) (hd (upd H5 D (.lst (vs++[v]))) λb=>own A B b\/b=D\/b ∈ rs++bs):=λb o z=>by
       obtain ⟨z1,z2⟩:=ak.mp z
       refine ak.mpr ⟨λy=>?_,by rw [ax (λy:b=D=>z1 (.inr (.inl y)))]; exact e6 _ _ z2⟩
       rcases y with y | y | y
       · exact z1 (.inl y)
       · exact z1 (.inr (.inl y))
       · rcases List.mem_append.mp y with y | y
         · exact z1 (.inr (.inr y))
         · have:=(hf5 b y).1; rw [e3 _ _ z2] at this; cases this
     refine aP.snoc (nv.frame sm1 λb hb=>ax (bsD b hb)) (hv3.frame sm2 λb hb=>?_)
     obtain ⟨o,q⟩:=rsd b hb
     rw [ax (λz:b=D=>(List.nodup_cons.mp hnd).1 (by rw [<- z]; exact hb)),e6 _ _ q,q]
   · obtain ⟨n1,n2⟩:=List.nodup_cons.mp hnd
     refine List.nodup_cons.mpr ⟨λz=>?_,List.nodup_append.mpr ⟨n2,ndv,λx hx y hy z=>bsR y hy (z ▸ hx)⟩⟩
     exact (List.mem_append.mp z).elim n1 λz=>bsD D z rfl
   · intro b hb
     rcases List.mem_append.mp hb with z | z
     · exact hfr b z
     · exact (e2.trans e3).free (hf5 b z).1
   · rcases flat l s h with rfl | ⟨x,rfl⟩
     · rfl
     · obtain ⟨_,u,eu,d⟩:=S3.sl l _ ((hT i).2 l x h)
       refine ⟨rfl,u,eu,d.mono λb o z=>?_⟩
       obtain ⟨z1,z2⟩:=ak.mp z
       refine ak.mpr ⟨λy=>?_,by rw [ax (λy:b=D=>z1 (.inl (.inr (.inl y))))]; exact e5 _ _ z2⟩
       rcases y with y | y | y
       · exact z1 (.inl (.inl y))
       · exact z1 (.inl (.inr (.inl y)))
       · rcases List.mem_append.mp y with y | y
         · exact z1 (.inl (.inr (.inr y)))
         · rw [(hf5 b y).1] at z2; cases z2
 · have e:i=xs.length:=by omega
   subst e
   refine .inl ⟨y1 _ (Nat.le_refl _),kk _ _ (D :: rs) (e1.trans e2) (λb hb=>?_) ⟨hnd,_,rfl,.l hv1 (hv3.frame (au (aj.refl _) λb z=>?_) λ_ _=>rfl)⟩⟩
   · rcases List.mem_cons.mp hb with rfl | z
     · exact ⟨e1.free hD,_,hv1⟩
     · exact ⟨e1.free (hfr b z),rsd b z⟩
   · rcases z with z | z
     · exact .inl (iK z)
     · exact .inr ((List.mem_cons.mp z).elim .inl .inr)
theorem A7 (j:Nat) {n:Str} {g:Nat->D} {f:Nat->Nd} {S':Nat->Sl} (B:Bk X k) (hi:PI X (.Name n p) it (dI X.K τ xs)) (hx:∀ i (h:i < xs.length),xs[i]=g i) (hl:xs.length < 1000000)
   (he:∀ i,i < xs.length->∀ s H fp,PE (cpX X s H scope fp) elt (dE X.K true ((bo τ (bCp X.N scope)++[Sl.un]).set j (.d (g i))) (S' i))) (hn:∀ i,i < xs.length->tw (S' i)=some (f i))
   (hc:bOk X.env.scope scope=true:=by kernel_rfl) (hu:(bo τ (bCp X.N scope)++[Sl.un])[j]?=some .un:=by rfl) (hN:(bNm scope++[("#" : Str)])[j]?=some n:=by rfl) (hv:∀ s H fp,Loc (cpX X s H scope fp).env.scope n:=by intro _ _ _; first | exact .inl rfl | exact .inr rfl)
   (hf:∀ s H fp,(cpX X s H scope fp).fn n=true\/(cpX X s H scope fp).env.scope.names.lookup n=some .local:=by intro _ _ _; first | exact .inr rfl | exact .inl rfl) (hs:∀ x,foldedSetIterable it X.env x=pure x:=by intro _; rfl) :
   xJ X elt (.Name n p) it [] scope τ ((List.range xs.length).map f):=by
 refine wD (T:=λi=>(bo τ (bCp X.N scope)++[Sl.un]).set j (.d (g i))) B hc hi (λi=>⟨List.length_set,λl x h=>?_⟩) (λi h s H fp=>?_) he hn hl hs
 · rw [List.getElem?_set_ne (λz=>by rw [<- z,hu] at h; cases h)]
   exact h
 · rw [hx i h]
   exact wy j (fM hc).2 hN (hv s H fp) (hf s H fp)
end
section
variable {X:Cx} {C:Bool} {τ τ':List Sl} {x y z:D} {a b e c tg it elt o ix:Expr} {es ifs:List Expr} {pos p q:Pos} {k:Nat} {s:Sl} {N:Po} {rest body:List Stmt} {ds xs ys:List D} {i:Nat} {scope:Scope}
theorem yi (j l:Nat) {n m:Str} {p2 pt:Pos} {md:Nat} {g g' f:Nat->D} (B:Bk X k) (hi:PI X (.Tuple [.Name n p,.Name m p2] md pt) it (dI X.K τ xs)) (hx:∀ i (h:i < xs.length),xs[i]=.tup [g i,g' i]) (hl:xs.length < 1000000)
   (he:∀ i,i < xs.length->∀ s H fp,PE (cpX X s H scope fp) elt (dE X.K true (((bo τ (bCp X.N scope)++[Sl.un]).set j (.d (g i))).set l (.d (g' i))) (.d (f i))))
   (hc:bOk X.env.scope scope=true:=by kernel_rfl) (hu:(bo τ (bCp X.N scope)++[Sl.un])[j]?=some .un:=by rfl) (hu':(bo τ (bCp X.N scope)++[Sl.un])[l]?=some .un:=by rfl) (hN:(bNm scope++[("#" : Str)])[j]?=some n:=by rfl) (hN':(bNm scope++[("#" : Str)])[l]?=some m:=by rfl) (hv:∀ s H fp,Loc (cpX X s H scope fp).env.scope n:=by intro _ _ _; first | exact .inl rfl | exact .inr rfl) (hv':∀ s H fp,Loc (cpX X s H scope fp).env.scope m:=by intro _ _ _; first | exact .inl rfl | exact .inr rfl)
   (hf:∀ s H fp,(cpX X s H scope fp).fn n=true\/(cpX X s H scope fp).env.scope.names.lookup n=some .local:=by intro _ _ _; first | exact .inr rfl | exact .inl rfl) (hf':∀ s H fp,(cpX X s H scope fp).fn m=true\/(cpX X s H scope fp).env.scope.names.lookup m=some .local:=by intro _ _ _; first | exact .inr rfl | exact .inl rfl) (hs:∀ x,foldedSetIterable it X.env x=pure x:=by intro _; rfl) :
   Cmp X elt (.Tuple [.Name n p,.Name m p2] md pt) it [] scope τ ((List.range xs.length).map f):=
 C7 (λi=>((bo τ (bCp X.N scope)++[Sl.un]).set j (.d (g i))).set l (.d (g' i))) B hi hl (λi=>⟨by rw [List.length_set,List.length_set],λr x h=>by
     rw [List.getElem?_set_ne (λz=>by rw [<- z,hu'] at h; cases h),List.getElem?_set_ne (λz=>by rw [<- z,hu] at h; cases h)]
     exact h⟩)
   (λi h s H fp=>by rw [hx i h]; exact yw j l (B.comp s H scope fp).calm (fM hc).2 hN hN' (hv s H fp) (hv' s H fp) (hf s H fp) (hf' s H fp)) he hc hs
end
end Hy
namespace Su
open PySem PyProof.Rows HT
open PySem.SeqAt
open PySem.AutoSeq1 (wpAny_loadPart')
open PySem.MeetsSeq PySem.MeetsSeq2 PySem.MeetsSeq3
section
variable {prog:Program} {w:World} {A:Around} {E:Value->Shared->Prop} {s:Shared}
end
end Su
namespace Hy
open PySem PySem.Spec PyProof.Rows L2
open Ev (D Den aq ay aA ai aX aI)
section
variable {X:Cx} {C:Bool} {τ:List Sl} {x y z:D} {a b e:Expr} {es:List Expr} {pos p:Pos} {k:Nat} {s:Sl} {ds xs ys:List D} {i j:Int} {N:Po} {rest:List Stmt}
theorem x6:OpR X (binaryOp .Add) (λx y H Q=>∃ a b ys,x=.ref a/\y=.ref b/\SqT X.K H a []/\SqT X.K H b ys/\Q (.ref b) H):=by
 intro pins s σ H x y v u Q I rx ry h
 obtain ⟨a,b,ys,rfl,rfl,ha,hb,q⟩:=h
 cases rx
 cases ry
 obtain ⟨its,r1,p1,_⟩:=I.tuple ha
 obtain ⟨its2,r2,p2,_⟩:=I.tuple hb
 cases r1
 obtain ⟨⟨cls,dd,data,sl⟩,ho,hc,n,hd⟩:=id p1
 obtain ⟨⟨cls2,dd2,data2,sl2⟩,ho2,hc2,n2,hd2⟩:=id p2
 simp only at hc hd hc2 hd2
 subst hc hd hc2 hd2
 exact concat_meets ⟨_,ho,rfl⟩ ⟨_,ho2,rfl⟩ noFill_tuple_add seq_tuple_add PySem.F.slot_tuple_add PySem.F.entry_tuple_add (PySem.F.args_tuple_add_2 _ _) (tuple_addW0 a b _ _ n n2 dd dd2 sl sl2 (by simp)) ⟨ho,ho2,⟨.ref b,H,I,rfl,q⟩⟩
theorem y9 (hl:xs.length + ys.length < 1000000):cx X (binaryOp .Add) (.tup xs) (.tup ys) (.tup (xs++ys)):=by
 have lim:1000000<=sizeLine:=by decide
 cases xs with
 | nil=>exact ⟨_,x6,λM v w H Q _ d1 d2 k=>by
     cases d1 with
     | tup h1 r1=>
       cases r1
       cases d2 with
       | tup h2 r2=>exact ⟨_,_,_,rfl,rfl,aX aL h1,aX aL h2,k _ H (aj.refl _) (.tup h2 r2)⟩⟩
 | cons x0 xs=>exact ⟨_,wm,λM v w H Q hM d1 d2 k=>by
     cases d1 with
     | @tup a1 vs _ h1 r1=>
     cases d2 with
     | @tup a2 ws _ h2 r2=>
     have l1:=r1.length
     have l2:=r2.length
     refine ⟨_,_,_,_,rfl,rfl,aX aL h1,aX aL h2,λz=>by subst z; simp at l1,by omega,λz=>?_,λ_ p hp=>?_⟩
     · subst z
       cases r2
       rw [List.append_nil] at k
       exact k _ H (aj.refl _) (.tup h1 r1)
     · have e:=ai hp (.tup (vs++ws))
       exact k _ _ e (.tup (SqT.of (j6 hM hp)) ((r1.append r2).mono (au e λ_ z=>z)))⟩
theorem vt:jI X (.type "tuple") [.lst xs] (.d (.tup xs)):=⟨_,kJ,λM vs H Q hM d q=>by
 cases d with
 | cons d r=>
   cases r
   cases d with
   | @lst a us _ h r=>
     refine ⟨_,_,rfl,.inl ⟨aI aL h,λp hp=>?_⟩⟩
     have e:=ai hp (.tup us)
     exact q _ _ [] e gh (iU (.tup (SqT.of (j6 hM hp)) (r.mono (au e λ_ z=>z))))⟩
end
section
variable {X:Cx} {C:Bool} {τ:List Sl} {x y z:D} {a b e:Expr} {es:List Expr} {pos p:Pos} {k:Nat} {s:Sl} {ds xs ys:List D} {N:Po} {rest:List Stmt}
theorem Cj (i:Nat) {n:Str} {ap cp:Pos} (he:PE X e (dE X.K true τ (.o ys))) (hl:xs.length + ys.length < 1000000) (hr:PSs X rest (dS X.K (τ.set i (.o (xs++ys))) N)) (hi:τ[i]?=some (.o xs):=by rfl) (hN:X.N[i]?=some n:=by rfl)
   (hv:Vis X.env.scope n:=by first | exact Or.inl rfl | exact Or.inr (Or.inl rfl) | exact Or.inr (Or.inr rfl)) (hd:(n == ("__debug__" : Str))=false:=by decide) (hcd:(n == ("__classdict__" : Str))=false:=by decide)
   (hfew:((backTo cp (starEach [e] X.env)).all (λx=>!x.1) && (backToKw cp (keywordEach [] X.env)).all (λx=>x.1.isSome) && decide (([e]:List Expr).length + ([]:List Keyword).length + (if ([]:List Keyword).isEmpty then 0 else 1) < 30))=true:=by rfl)
   (hline:(ap.endLine == cp.line)=true:=by rfl) (hst:starEach [e] X.env=(false,eval e X.env) :: starEach [] X.env:=by rfl) (hpl:(backTo cp (starEach [] X.env)).any (·.1)=false:=by rfl)
   (hs:swapsWith (.Call (.Attribute (.Name n p) "extend" ap) [e] [] cp) none pos.line X.env=pure false:=by rfl) (hbase:attributeBase (.Name n p) "extend" X.env (eval (.Name n p) X.env)=eval (.Name n p) X.env:=by rfl) :
   PSs X (.Expr (.Call (.Attribute (.Name n p) "extend" ap) [e] [] cp) pos :: rest) (dS X.K τ N):=
 a6 (M:=(·=τ.set i (.o (xs++ys)))) (psW (fL (n8 PySem.F.plainAttrs_list PySem.F.slot_list_extend PySem.F.type_list_extend sj (bN hN hv hd hcd) (bL he dX hst) hbase hfew hline hst hpl) hs) λD σ H ⟨A,H₀,B,S,Me⟩=>by
   obtain ⟨l,vs,hb,e1,e2,d⟩:=S.sl i _ hi
   refine ⟨_,slot_of e1,.inl ⟨rfl,_,SqL.of e2⟩,A,H₀,B,S,λv H1 bs e3 fr ⟨l2,ws,eb,ev,h2,d2⟩=>?_⟩
   cases ev
   have lim:1000000<=sizeLine:=by decide
   refine ⟨l,l2,vs,ws,rfl,rfl,e3 _ _ e2,h2,by rw [d.length,d2.length]; omega,?_⟩
   exact Me.nx _ _ _ _ rfl ((S.mono e3).put hi hb ((d.mono (au e3 λ_ z=>z)).append (d2.mono (au (aj.refl _) λ_ z=>.inl z))))) λ_ e=>e ▸ hr
end
end Hy
namespace Hy
open PySem PySem.Spec PyProof.Rows L2
open Ev (D Den aq)
mutual
noncomputable def o8:Nd->Bool
 | .d x=>flat x
 | .l xs=>lj xs
 | .t xs=>lj xs
noncomputable def lj:List Nd->Bool
 | []=>true
 | x :: xs=>o8 x && lj xs
end
noncomputable def wI:Sl->Bool
 | .un=>true
 | .d x=>flat x
 | .o xs=>xs.all flat
 | .n t=>o8 t
 | .x _=>false
section
variable {K:PySem.W.Frag} {G G' H:Hp}
mutual
theorem bu.fl:∀ {u:V} {bs:List Addr} {t:Nd},bu K G H u bs t->o8 t=true->bu K G' H u bs t
 | _,_,_,.d h,f=>.d (km h (by rw [o8] at f; exact f))
 | _,_,_,.l h r,f=>.l h (aP.fl r (by rw [o8] at f; exact f))
 | _,_,_,.t h r,f=>.t h (aP.fl r (by rw [o8] at f; exact f))
theorem aP.fl:∀ {vs:List V} {bs:List Addr} {ts:List Nd},aP K G H vs bs ts->lj ts=true->aP K G' H vs bs ts
 | _,_,_,.nil,_=>.nil
 | _,_,_,.cons h r,f=>by
   rw [lj,Bool.and_eq_true] at f
   exact .cons (bu.fl h f.1) (aP.fl r f.2)
end
theorem qZ:∀ {vs:List V} {xs:List D},aq K G vs xs->xs.all flat=true->aq K G' vs xs
 | _,_,.nil,_=>.nil
 | _,_,.cons h r,f=>by
   rw [List.all_cons,Bool.and_eq_true] at f
   exact .cons (km h f.1) (qZ r f.2)
theorem bR.fl {v:Option V} {bs:List Addr}:∀ {s:Sl},bR K G H v bs s->wI s=true->bR K G' H v bs s
 | .un,h,_=>h
 | .d _,⟨h,u,e1,h2⟩,f=>⟨h,u,e1,km h2 f⟩
 | .o _,⟨a,vs,h1,h2,h3,h4⟩,f=>⟨a,vs,h1,h2,h3,qZ h4 f⟩
 | .n _,⟨h0,u,h1,h2⟩,f=>⟨h0,u,h1,h2.fl f⟩
end
theorem uJ {X:Cx} {C C':Bool} {τ:List Sl} {e:Expr} {s s0:Sl} {x:D} (i:Nat) (h:PE X e (dE X.K C' (τ.set i (.d x)) s)) (f:wI s=true) (hi:τ[i]?=some s0:=by rfl) (hx:fzD s0=some x:=by rfl):PE X e (dE X.K C τ s):=
 peW h λσ H Q ⟨A,H₀,B,S,k⟩=>⟨A,H₀,_,S.fz hi hx,λv H' bs e fr q=>k v H' bs e fr (q.fl f)⟩
theorem CK {X:Cx} {τ:List Sl} {elt tg it:Expr} {ifs:List Expr} {pos p spos:Pos} {scope:Scope} {rest:List Stmt} {N:Po} {ns:List Nd} {s0:Sl} {x:D} (i j:Nat) {n:Str} (hN:X.N.Nodup) (h:xJ X elt tg it ifs scope (τ.set j (.d x)) ns) (f:lj ns=true) (hr:PSs X rest (dS X.K (τ.set i (.n (.l ns))) N))
   (hj:τ[j]?=some s0:=by rfl) (hx:fzD s0=some x:=by rfl) (hi:X.N[i]?=some n:=by rfl) (hl:Loc X.env.scope n:=by first | exact .inl rfl | exact .inr rfl)
   (hsw:swapsWith (.ListComp elt [⟨tg,it,ifs,0⟩] scope pos) (some (.Name n p)) spos.line X.env=pure true:=by rfl) (hf:X.fn n=true\/X.env.scope.names.lookup n=some .local:=by first | exact .inl rfl | exact .inr rfl | assumption) :
   PSs X (.Assign [.Name n p] (.ListComp elt [⟨tg,it,ifs,0⟩] scope pos) spos :: rest) (dS X.K τ N):=by
 obtain ⟨In,caps,N',wi,h1,h2,h3,h4⟩:=h.ex
 exact a6 (M:=(·=τ.set i (.n (.l ns)))) (psW (Ev.gD (da (i:=i) hN hi hl hf) h1 h2 h.hs h3 hsw) λD σ H ⟨A,H₀,B,S,Me⟩=>h4 true _ _ _ ⟨A,H₀,_,S.fz hj hx,λv H' bs e hf h=>Me.nx _ _ _ _ rfl (S.set e hf (h.fl (show o8 (.l ns)=true by rw [o8]; exact f)))⟩) λ_ e=>e ▸ hr
theorem rN {X:Cx} {τ:List Sl} {elt tg it:Expr} {ifs:List Expr} {pos p spos:Pos} {scope:Scope} {rest:List Stmt} {N:Po} {ns:List Nd} (i:Nat) {n:Str} (hN:X.N.Nodup) (h:xJ X elt tg it ifs scope τ ns) (hr:PSs X rest (dS X.K (τ.set i (.n (.l ns))) N))
   (hi:X.N[i]?=some n:=by rfl) (hl:Loc X.env.scope n:=by first | exact .inl rfl | exact .inr rfl)
   (hsw:swapsWith (.ListComp elt [⟨tg,it,ifs,0⟩] scope pos) (some (.Name n p)) spos.line X.env=pure true:=by rfl) (hf:X.fn n=true\/X.env.scope.names.lookup n=some .local:=by first | exact .inl rfl | exact .inr rfl | assumption) :
   PSs X (.Assign [.Name n p] (.ListComp elt [⟨tg,it,ifs,0⟩] scope pos) spos :: rest) (dS X.K τ N):=by
 obtain ⟨In,caps,N',wi,h1,h2,h3,h4⟩:=h.ex
 exact a6 (M:=(·=τ.set i (.n (.l ns)))) (psW (Ev.gD (da (i:=i) hN hi hl hf) h1 h2 h.hs h3 hsw) λD σ H ⟨A,H₀,B,S,Me⟩=>h4 true _ _ _ ⟨A,H₀,B,S,λv H' bs e hf h=>Me.nx _ _ _ _ rfl (S.set e hf h)⟩) λ_ e=>e ▸ hr
end Hy
namespace Hy
open PySem PySem.Spec PyProof.Rows L2
open Ev (D Den aq ai aX aI)
section
variable {X:Cx} {C:Bool} {τ:List Sl} {x y z:D} {a b e o ix:Expr} {es:List Expr} {pos p q:Pos} {k:Nat} {s:Sl} {N:Po} {rest:List Stmt} {i j:Nat} {t c:Nd} {pt:List Nat} {xs:List Nd} {m:Nat}
end
end Hy
namespace Hy
open PySem PySem.Spec PyProof.Rows L2
open Ev (D Den aq)
noncomputable def sG (P:Program) (w:World) (K:PySem.W.Frag) (mg:Str->Option Value) (base:Heap) (k:Nat) (n:Str) (sp:Sp):Prop:=
 ∃ f fd ps,aN P w K mg base CX0 k f fd ps sp/\mg n=some (.ref f)/\PySem.W.keepIn K (.ref f)=true/\Binds K fd ps []
theorem sG.mono {P:Program} {w:World} {K:PySem.W.Frag} {mg:Str->Option Value} {base:Heap} {j k:Nat} {n:Str} {sp:Sp} (c:sG P w K mg base j n sp) (h:j<=k):sG P w K mg base k n sp:=
 let ⟨f,fd,ps,F,r⟩:=c; ⟨f,fd,ps,F.mono h,r⟩
section
variable {K:PySem.W.Frag} {A:Addr->Prop} {H₀ H H':Hp} {τ:List Sl} {B:Nat->List Addr} {σ:L2.St}
end
section
variable {X:Cx} {τ:List Sl} {x y z:D} {a b e c:Expr} {es:List Expr} {pos p q:Pos} {k:Nat} {s:Sl} {ds:List D} {N:Po} {rest body:List Stmt}
end
section
variable {P:Program} {w:World} {K:PySem.W.Frag} {mg:Str->Option Value} {base:Heap}
end
section
variable {X:Cx} {τ:List Sl} {es:List Expr} {pos p q pr:Pos} {k:Nat} {s:Sl} {ds:List D} {N:Po} {rest:List Stmt}
end
end Hy
namespace Ev
open PySem PySem.Spec PyProof.Rows L2
section
variable {K:Type} [DecidableEq K] {a:KD K} {hd:a.dep<=7} {X:Cx} {o i e f:Expr} {pos apos cpos:Pos} {td ty tx tk tv:TE}
noncomputable def Ci (a:KD K) (hd:a.dep<=7) (P:Program) (w:World) (F:PySem.W.Frag) (tk tv:TE):TE:=λσ H Q=>∀ p,H p=none->tk σ (upd H p (dNk a hd P w p [])) λy H1=>tv σ H1 λv H2=>∃ b k,y=.ref b/\H2 p=some (dNk a hd P w p [])/\Den F H2 (.ref b) (a.toD k)/\∀ u,RelV v u->Q (.ref p) (upd H2 p (dNk a hd P w p (storedH [] k b u)))
theorem qJ (hu:X.A.units + 16 < cLine) (hk:PE X e tk) (hv:PE X f tv):PE X (.Dict [some e] [f] pos) (Ci a hd X.prog X.w X.K tk tv):=λpins s σ H Q I h=>by
 refine wpAny_Dict_any rfl rfl (by simp) (show 1<=15 by decide) (pairTrees_cons_walk ?_)
 have I0:=I.laid (a:=s.heap.objs.size) (o:=dNk a hd X.prog X.w s.heap.objs.size []) (t':=s.toks) (h':=s.heap.push { cls:=.type "dict",data:=.dict #[] }) (λ_ _ q=>Heap.get?_push_of_some _ q) (Nat.le_refl _)
   ⟨⟨beq_eq_false_iff_ne.mpr (Ne.symm (Nat.ne_of_lt I.big)),_,#[],0,Heap.get?_push_size _ rfl,⟨rfl,rfl,rfl⟩,rfl,rfl,List.nodup_nil⟩,⟨_,Heap.get?_push_size _ rfl⟩,λa1 a2 ⟨z0,o,es,ep,z1,z2⟩ hk=>⟨z0,o,es,ep,hk o z1,z2⟩⟩
 refine thn (hk _ _ σ _ _ I0 (h _ (I.hok.fresh (Nat.le_refl _)))) λkv s1 ⟨y,H1,I1,ry,q1⟩=>thn (hv _ s1 σ H1 _ I1 q1) λvv s2 ⟨v,H2,I2,rv,b,k,ey,hp,g,q2⟩=>pairTrees_nil_walk ?_
 subst ey
 obtain rfl:kv=Value.ref b:=ry
 have D:fU a hd X.prog X.w X.K H2 s.heap.objs.size []:=⟨hp,λ_ z=>nomatch z⟩
 obtain ⟨hd',dd⟩:=vG I2 D
 unfold storeAll
 rw [List.forIn_cons]
 refine wpAny_bind (wpAny_bind (wpAny_dictSet_heap (hsz:=Nat.zero_le _) (show X.A.units + 8 < cLine by omega) (key_is I2 g) dd λh' dd' hs=>wpAny_pure ?_))
 dsimp only
 rw [List.forIn_nil]
 refine wpAny_pure ?_
 obtain ⟨q,es,ep,hq,h2,h3,h4,_,h5⟩:=dd'
 refine ⟨.ref s.heap.objs.size,_,d8 (ob:=dNk a hd X.prog X.w s.heap.objs.size (storedH [] k b vv)) I2 (by rw [hp]; exact True.intro) hs ⟨q,hq⟩ ⟨⟨hd',q,es,ep,hq,h2,h3,h4,h5⟩,⟨q,hq⟩,λa1 a2 ⟨z0,o,es,ep,z1,z2⟩ hk=>⟨z0,o,es,ep,hk o z1,z2⟩⟩,rfl,q2 vv rv⟩
end
end Ev
namespace Hy
open PySem PySem.Spec PyProof.Rows L2
open Ev (D Den aq KD NEs dNk fU Bx ai jd qJ)
section
variable {K:Type} [DecidableEq K] {a:KD K} {hd:a.dep<=7} {X:Cx} {C:Bool} {τ:List Sl} {x y:D} {b e f o ix:Expr} {pos p q apos cpos:Pos} {k:Nat} {N:Po} {rest:List Stmt} {m:List (K × D)} {key:K}
theorem zS (hu:X.A.units + 16 < cLine) (hk:PE X e (dE X.K C τ (.d (a.toD key)))) (hv:PE X f (dE X.K C τ (.d x))) (hr:∀ H v,Den X.K H v (a.toD key)->∃ b,v=.ref b):PE X (.Dict [some e] [f] pos) (dE X.K C τ (.x (exK a hd X.prog X.w [(key,x)]))):=
 peW (qJ (a:=a) (hd:=hd) hu hk hv) λσ H Q ⟨A,H₀,B,S,kk⟩=>λp hp=>by
   have e0:=ai hp (dNk a hd X.prog X.w p [])
   have f0:Fr H (upd H p (dNk a hd X.prog X.w p [])) [p]:=λb hb=>by rw [List.mem_singleton.mp hb]; exact ⟨hp,_,aF⟩
   have S1:=S.hide e0 f0
   refine aO S1 λy H2 e2 dy=>aO (S1.mono e2) λv H3 e3 dv=>?_
   obtain ⟨b',rfl⟩:=hr _ _ dy
   have e03:=e2.trans e3
   have hp3:=e03 _ _ (aF (H:=H) (a:=p) (o:=dNk a hd X.prog X.w p []))
   have dy3:=dy.mono (au e3 λ_ z=>z)
   refine ⟨b',key,rfl,hp3,dy3.mono aL,λu hu=>?_⟩
   have sm:aj (Hy.hd H3 (vw C (λb=>A b\/b ∈ [p]) B)) (Hy.hd (upd H3 p (dNk a hd X.prog X.w p (storedH [] key b' u))) λb=>vw C A B b\/b ∈ [p]):=λb o z=>by
     obtain ⟨z1,z2⟩:=ak.mp z
     have nh:¬ (vw C A B b\/b ∈ [p]):=λy=>z1 (wu y)
     exact ak.mpr ⟨nh,by rw [ax (λq=>nh (.inr (List.mem_singleton.mpr q)))]; exact z2⟩
   have hs:aj H (upd H3 p (dNk a hd X.prog X.w p (storedH [] key b' u))):=λb o z=>by
     have ne:b ≠ p:=λq=>by rw [q,hp] at z; cases z
     rw [ax ne]
     exact e03 _ _ (e0 _ _ z)
   exact kk (.ref p) _ [p] hs (λb hb=>by rw [List.mem_singleton.mp hb]; exact ⟨hp,_,aF⟩) ⟨p,_,rfl,rfl,aF,_,rfl,(EnK.nil.put dy3 hu dv).mono sm⟩
end
end Hy
namespace Hy
open PySem PySem.Spec PyProof.Rows L2
open Ev (D Den aq ai aH eJ di PTs cP dR)
section
variable {X:Cx}
end
section
variable {X:Cx} {C:Bool} {τ:List Sl} {e it:Expr} {pos p q p2 pos2 tp ip vp rp ap cp p1:Pos} {k:Nat} {N:Po} {rest:List Stmt} {scope:Scope}
theorem uN {α β:Type} (g:α->β):∀ (xs:List α) (i:Nat),(xs.eraseIdx i).map g=(xs.map g).eraseIdx i
 | [],_=>rfl
 | _ :: _,0=>rfl
 | x :: xs,i + 1=>by rw [List.map_cons,List.eraseIdx_cons_succ,List.eraseIdx_cons_succ,List.map_cons,uN g xs i]
end
end Hy
namespace Hy
open PySem PySem.Spec PyProof.Rows L2
open Ev (D Den aq ai aX aI)
section
variable {X:Cx}
theorem ve {α:Type}:∀ (its:List α) (k:Nat) (y:α),k<=its.length->its.insertIdx k y=its.take k++[y]++its.drop k
 | _,0,_,_=>rfl
 | a :: r,k + 1,y,h=>by
   rw [List.insertIdx_succ_cons,ve r k y (by simpa using h)]
   rfl
theorem zo {its:List Value} {k:Nat} {y:Value} (h:k<=its.length):(its.toArray.extract 0 k).push y++its.toArray.extract k=(its.insertIdx k y).toArray:=by
 apply Array.toList_inj.mp
 simp only [Array.toList_append,Array.toList_push,Array.toList_extract,List.extract_eq_drop_take,List.drop_zero,Nat.sub_zero,List.size_toArray]
 rw [ve its k y h]
 congr 1
 exact List.take_of_length_le (by rw [List.length_drop]; exact Nat.le_refl _)
noncomputable def xW:V->List V->Hp->VK->Prop:=λx vs H Q=>∃ l xs,∃ i:Int,∃ y,x=.ref l/\vs=[.int i,y]/\H l=some (.lst xs)/\0<=i/\i.toNat<=xs.length/\xs.length < sizeLine/\Q .non (upd H l (.lst (xs.insertIdx i.toNat y)))
theorem si:MtM X "list.insert" xW:=by
 intro pins s σ H x vs v us Q I rx rv h
 obtain ⟨l,xs,i,y,rfl,rfl,hH,h0,h1,h2,q⟩:=h
 cases rx
 obtain ⟨u,w,rfl,ru,rw'⟩:=rv.two
 obtain ⟨t,rfl⟩:=ru
 obtain ⟨z,its,n,r,hl,e⟩:=I.uj hH
 have hi:i < 2 ^ 63:=by have:=Int.toNat_of_nonneg h0; have:sizeLine < 2 ^ 62:=(by decide); omega
 have hf:Builtin.List.listFitsIndex i=true:=by
   unfold Builtin.List.listFitsIndex
   rw [Bool.and_eq_true]
   exact ⟨decide_eq_true (by omega),decide_eq_true hi⟩
 refine call_meets PySem.F.slot_list_insert ⟨_,e,rfl⟩ PySem.F.entry_list_insert (PySem.F.args_list_insert_3 _ _ _) (PySem.AutoSeq1.list_insert_list_int_val_1 l its.toArray n i t w (by simp [hf]) (by rw [List.size_toArray]; omega)) ⟨e,?_⟩
 have vi:∀ {xs:List V} {us:List Value} (k:Nat) {a:V} {b:Value},Vals xs us->RelV a b->Vals (xs.insertIdx k a) (us.insertIdx k b):=λ{xs us} k {a b} r ra=>by
   induction k generalizing xs us with
   | zero=>exact .cons ra r
   | succ k ih=>cases r with
     | nil=>exact .nil
     | cons r1 r2=>exact .cons r1 (ih r2)
 refine ⟨.non,_,I.xo (its':=its.insertIdx i.toNat w) hH e ?_ (vi _ r rw') ?_,rfl,q⟩
 · show (its.toArray.extract 0 (if i < 0 then (i + (its.toArray.size:Int)).toNat else min i.toNat its.toArray.size)).push w++its.toArray.extract (if i < 0 then (i + (its.toArray.size:Int)).toNat else min i.toNat its.toArray.size)=_
   rw [if_neg (by omega),List.size_toArray,Nat.min_eq_left (by omega)]
   exact zo (by omega)
 · rw [List.length_insertIdx_of_le_length h1]; omega
end
section
variable {X:Cx} {C:Bool} {τ:List Sl} {x y z:D} {a b e f o ix:Expr} {es:List Expr} {pos p q:Pos} {k:Nat} {s:Sl} {N:Po} {rest:List Stmt} {i:Nat} {t c:Nd} {pt:List Nat} {xs:List Nd} {j:Int} {m:Nat}
end
end Hy
namespace Hy
open PySem PySem.Spec PyProof.Rows L2
open Ev (D Den aq ai)
theorem lQ {K:PySem.W.Frag} {H:Hp}:∀ {vs:List V} {ds:List D} (j:Nat),aq K H vs ds->aq K H (vs.eraseIdx j) (ds.eraseIdx j)
 | _,_,_,.nil=>.nil
 | _,_,0,.cons _ r=>r
 | _,_,j + 1,.cons h r=>.cons h (lQ j r)
theorem qS {K:PySem.W.Frag} {H:Hp} {v:V} {x:D} (h:Den K H v x):∀ {vs:List V} {ds:List D} (j:Nat),aq K H vs ds->aq K H (vs.insertIdx j v) (ds.insertIdx j x)
 | _,_,0,r=>.cons h r
 | _,_,_ + 1,.nil=>.nil
 | _,_,j + 1,.cons h1 r=>.cons h1 (qS h j r)
section
variable {X:Cx} {τ:List Sl} {a b:Expr} {pos p q:Pos} {N:Po} {rest:List Stmt}
theorem B9 (i:Nat) {n:Str} {xs:List D} {ap cp ap2 cp2:Pos} {k j:Nat} (x:D) (ha:PE X a (dE X.K false τ (.d (.int (k:Nat))))) (hb:PE X b (dE X.K false τ (.d (.int (j:Nat))))) (hj:xs[j]?=some x) (hk:k < xs.length) (hl:xs.length < 1000000) (hr:PSs X rest (dS X.K (τ.set i (.o ((xs.eraseIdx j).insertIdx k x))) N)) (hi:τ[i]?=some (.o xs):=by rfl) (hN:X.N[i]?=some n:=by rfl)
   (hv:Vis X.env.scope n:=by first | exact Or.inl rfl | exact Or.inr (Or.inl rfl) | exact Or.inr (Or.inr rfl)) (hd:(n == ("__debug__" : Str))=false:=by decide) (hcd:(n == ("__classdict__" : Str))=false:=by decide)
   (hfew:((backTo cp (starEach [a,.Call (.Attribute (.Name n q) "pop" ap2) [b] [] cp2] X.env)).all (λx=>!x.1) && (backToKw cp (keywordEach [] X.env)).all (λx=>x.1.isSome) && decide (([a,.Call (.Attribute (.Name n q) "pop" ap2) [b] [] cp2]:List Expr).length + ([]:List Keyword).length + (if ([]:List Keyword).isEmpty then 0 else 1) < 30))=true:=by rfl)
   (hline:(ap.endLine == cp.line)=true:=by rfl) (hst:starEach [a,.Call (.Attribute (.Name n q) "pop" ap2) [b] [] cp2] X.env=(false,eval a X.env) :: starEach [.Call (.Attribute (.Name n q) "pop" ap2) [b] [] cp2] X.env:=by rfl)
   (hst2:starEach [.Call (.Attribute (.Name n q) "pop" ap2) [b] [] cp2] X.env=(false,eval (.Call (.Attribute (.Name n q) "pop" ap2) [b] [] cp2) X.env) :: starEach [] X.env:=by rfl) (hpl:(backTo cp (starEach [.Call (.Attribute (.Name n q) "pop" ap2) [b] [] cp2] X.env)).any (·.1)=false:=by rfl)
   (hs:swapsWith (.Call (.Attribute (.Name n p) "insert" ap) [a,.Call (.Attribute (.Name n q) "pop" ap2) [b] [] cp2] [] cp) none pos.line X.env=pure false:=by rfl) (hbase:attributeBase (.Name n p) "insert" X.env (eval (.Name n p) X.env)=eval (.Name n p) X.env:=by rfl)
   (hfew2:((backTo cp2 (starEach [b] X.env)).all (λx=>!x.1) && (backToKw cp2 (keywordEach [] X.env)).all (λx=>x.1.isSome) && decide (([b]:List Expr).length + ([]:List Keyword).length + (if ([]:List Keyword).isEmpty then 0 else 1) < 30))=true:=by rfl) (hline2:(ap2.endLine == cp2.line)=true:=by rfl)
   (hst3:starEach [b] X.env=(false,eval b X.env) :: starEach [] X.env:=by rfl) (hpl2:(backTo cp2 (starEach [] X.env)).any (·.1)=false:=by rfl) (hbase2:attributeBase (.Name n q) "pop" X.env (eval (.Name n q) X.env)=eval (.Name n q) X.env:=by rfl) :
   PSs X (.Expr (.Call (.Attribute (.Name n p) "insert" ap) [a,.Call (.Attribute (.Name n q) "pop" ap2) [b] [] cp2] [] cp) pos :: rest) (dS X.K τ N):=
 a6 (M:=(·=τ.set i (.o ((xs.eraseIdx j).insertIdx k x)))) (psW (fL (n8 PySem.F.plainAttrs_list PySem.F.slot_list_insert PySem.F.type_list_insert si (bN hN hv hd hcd)
     (bL ha (bL (n8 PySem.F.plainAttrs_list PySem.F.slot_list_pop PySem.F.type_list_pop uQ (bN hN hv hd hcd) (bL hb dX hst3) hbase2 hfew2 hline2 hst3 hpl2) dX hst2) hst) hbase hfew hline hst hpl) hs) λDn σ H ⟨A,H₀,B,S,Me⟩=>by
   obtain ⟨l,vs,hbb,e1,e2,d⟩:=S.sl i _ hi
   have hjl:j < xs.length:=(List.getElem?_eq_some_iff.mp hj).1
   refine ⟨_,slot_of e1,.inl ⟨rfl,_,SqL.of e2⟩,aO S λw1 H1 f1 g1=>?_⟩
   cases g1
   have S1:=S.mono f1
   refine ⟨_,slot_of e1,.inl ⟨rfl,_,SqL.of (f1 _ _ e2)⟩,aO S1 λw2 H2 f2 g2=>?_⟩
   cases g2
   have S2:=S1.mono f2
   obtain ⟨l',vs',hb',e1',e2',d'⟩:=S2.sl i _ hi
   rw [e1] at e1'
   cases e1'
   have hln:=d'.length
   obtain ⟨v,hv1,dv⟩:=d'.get hj
   refine ⟨l,vs',(j:Int),j,v,rfl,rfl,e2',by omega,by omega,PySem.StrLaws.seqIndex_nonneg (by omega) (by omega),hv1,?_⟩
   have hel:(vs'.eraseIdx j).length=xs.length - 1:=by rw [List.length_eraseIdx_of_lt (by omega),hln]
   refine ⟨l,vs'.eraseIdx j,(k:Int),v,rfl,rfl,aF,by omega,by rw [Int.toNat_natCast]; omega,by rw [hel]; have:sizeLine > 1000000:=(by decide); omega,?_⟩
   rw [Int.toNat_natCast]
   have eu:upd (upd H2 l (.lst (vs'.eraseIdx j))) l (.lst ((vs'.eraseIdx j).insertIdx k v))=upd H2 l (.lst ((vs'.eraseIdx j).insertIdx k v)):=by
     funext z
     unfold upd
     split <;> rfl
   rw [eu]
   exact Me.nx _ _ _ _ rfl (S2.put hi hb' (qS dv k (lQ j d')))) λ_ e=>e ▸ hr
end
end Hy
namespace Ev
open PySem PySem.Spec PyProof.Rows L2
section
variable {prog:Program} {w:World} {A:Around} {E:Value->Shared->Prop} {s:Shared} {d it:Addr} {o:Obj} {es:Array DictEntry} {ep i:Nat}
theorem xn {Q:Value->Shared->Prop} (hd:(d == sysModules)=false) (ho:s.heap.get? d=some o) (hx:o.ExactDict) (hdat:o.data=.dict es ep)
   (hQ:Q (.ref s.heap.objs.size) { s with heap:=s.heap.push { cls:=.type "dict_keyiterator",data:=.fields #[.ref d,.int 0 0,.int es.size 0,.int ep 0] } }):wpAny (model prog w) A (pyIter (.ref d)) Q E s:=by
 have hT:s.TypeIs (.ref d) "dict":=⟨o,ho,hx.1⟩
 refine wpAny_pyIter_slot hT PySem.F.slot_dict_iter (wpAny_call_entry PySem.F.slot_dict_iter hT PySem.F.entry_dict_iter ?_ (PySem.F.args_dict_iter_1 _))
 unfold Builtin.«dict.__iter__»
 refine wpAny_bind ?_
 unfold Builtin.Dict.dictSlotNone
 refine wpAny_bind (wpAny_notOrdered_dict hT (wpAny_pure ?_))
 show wpAny _ _ (Builtin.Dict.showsAll d >>= _) _ _ s
 unfold Builtin.Dict.showsAll
 rw [if_neg (by rw [hd]; exact Bool.false_ne_true)]
 refine wpAny_bind (wpAny_pure (wpAny_bind (wpAny_dictEntries ho hdat (wpAny_bind (wpAny_dictEpoch ho hdat ?_)))))
 refine wpAny_bind (wpAny_newObj_type (wpAny_pure ⟨_,rfl,"dict_keyiterator",_,⟨_,Heap.get?_push_size _ rfl,rfl⟩,PySem.F.slot_dict_keyiterator_next.lookup,?_⟩))
 simpa [rawInt] using hQ
theorem vn:Builtin.Dict_items.ownsTuple "dict_keyiterator" = false:=by decide
theorem xV {Q:Option Value->Shared->Prop} (hit:s.heap.IsKeyIter it d i es.size ep) (ho:s.heap.get? d=some o) (hdat:o.data=.dict es ep) (hlt:i < es.size)
   (hQ:∀ h',h'.IsKeyIter it d (i + 1) es.size ep->Heap.SameBut it s.heap h'->Q (some es[i].key) { s with heap:=h' }):wpAny (model prog w) A (pyNext (.ref it)) Q E s:=by
 obtain ⟨oi,hoi,hc,hdi⟩:=id hit
 unfold pyNext
 refine wpAny_bind (wpAny_attempt (wpAny_callSpecial?_slot (name:=Str.ofString "__next__") hit.typeIs PySem.F.slot_dict_keyiterator_next (wpAny_call_entry PySem.F.slot_dict_keyiterator_next hit.typeIs PySem.F.entry_dict_keyiterator_next ?_ (PySem.F.args_dict_keyiterator_next_1 _))))
 refine wpAny_bind (wpAny_pure (wpAny_bind (wpAny_bind ?_)))
 first | refine wpAny_bind (wpAny_typeNameOfWhole_keyiter hit.typeIs (wpAny_pure ?_)) | refine wpAny_bind (wpAny_typeNameOf_keyiter hit.typeIs (wpAny_pure ?_))
 refine wpAny_bind (wpAny_fieldsOf hoi hdi ?_)
 simp only [vn,Bool.false_eq_true,if_false]
 show wpAny _ _ (if (Value.ref d == Value.none)=true then _ else _) _ _ s
 rw [if_neg (show ¬ ((Value.ref d == Value.none)=true) from Bool.false_ne_true)]
 refine wpAny_bind (wpAny_pure (wpAny_bind (wpAny_dictEntries ho hdat ?_)))
 rw [if_neg (by simp)]
 refine wpAny_bind (wpAny_pure (wpAny_bind (wpAny_dictEpoch ho hdat ?_)))
 rw [if_neg (by simp)]
 refine wpAny_pure ?_
 simp only [show ¬ ((i:Int) < 0) from by omega,if_false,Int.toNat_natCast,Array.getElem?_eq_getElem hlt]
 refine wpAny_bind ?_
 first | refine wpAny_bind (wpAny_typeNameOfWhole_keyiter hit.typeIs (wpAny_pure ?_)) | refine wpAny_bind (wpAny_typeNameOf_keyiter hit.typeIs (wpAny_pure ?_))
 refine wpAny_bind (wpAny_isOneOf_keyiter hit.typeIs ?_)
 show wpAny _ _ (setField (.ref it) 1 (rawInt ((i:Int) + 1)) >>= _) _ _ s
 refine wpAny_bind (wpAny_setField hoi hdi (by simp) ?_)
 have hit':(s.heap.update it (Obj.mapFields (·.setIfInBounds 1 (rawInt ((i:Int) + 1))))).IsKeyIter it d (i + 1) es.size ep:=
   ⟨_,Heap.get?_update_self _ hoi (Obj.isFreed_of_fields (Obj.data_mapFields hdi _)),(Obj.cls_mapFields ..).trans hc,by rw [Obj.data_mapFields hdi]; simp [rawInt]⟩
 refine wpAny_bind (wpAny_holding ?_)
 refine wpAny_bind (wpAny_isOneOf_keyiter (s:={ s with heap:=s.heap.update it (Obj.mapFields (·.setIfInBounds 1 (rawInt ((i:Int) + 1)))) }) hit'.typeIs ?_)
 show wpAny _ _ (pure es[i].key) _ _ _
 exact wpAny_pure (wpAny_pure ⟨_,rfl,wpAny_pure (hQ _ hit' (Heap.SameBut.update ..))⟩)
theorem zh {Q:Option Value->Shared->Prop} (hh:A.handled=none) (hit:s.heap.IsKeyIter it d i es.size ep) (ho:s.heap.get? d=some o) (hdat:o.data=.dict es ep) (hge:es.size<=i)
   (hQ:∀ h',Heap.ExtBut it s.heap h'->Q none { s with heap:=h' }):wpAny (model prog w) A (pyNext (.ref it)) Q E s:=by
 obtain ⟨oi,hoi,hc,hdi⟩:=id hit
 unfold pyNext
 refine wpAny_bind (wpAny_attempt (wpAny_callSpecial?_slot (name:=Str.ofString "__next__") hit.typeIs PySem.F.slot_dict_keyiterator_next (wpAny_call_entry PySem.F.slot_dict_keyiterator_next hit.typeIs PySem.F.entry_dict_keyiterator_next ?_ (PySem.F.args_dict_keyiterator_next_1 _))))
 refine wpAny_bind (wpAny_pure (wpAny_bind (wpAny_bind ?_)))
 first | refine wpAny_bind (wpAny_typeNameOfWhole_keyiter hit.typeIs (wpAny_pure ?_)) | refine wpAny_bind (wpAny_typeNameOf_keyiter hit.typeIs (wpAny_pure ?_))
 refine wpAny_bind (wpAny_fieldsOf hoi hdi ?_)
 simp only [vn,Bool.false_eq_true,if_false]
 show wpAny _ _ (if (Value.ref d == Value.none)=true then _ else _) _ _ s
 rw [if_neg (show ¬ ((Value.ref d == Value.none)=true) from Bool.false_ne_true)]
 refine wpAny_bind (wpAny_pure (wpAny_bind (wpAny_dictEntries ho hdat ?_)))
 rw [if_neg (by simp)]
 refine wpAny_bind (wpAny_pure (wpAny_bind (wpAny_dictEpoch ho hdat ?_)))
 rw [if_neg (by simp)]
 refine wpAny_pure ?_
 simp only [show ¬ ((i:Int) < 0) from by omega,if_false,Int.toNat_natCast,Array.getElem?_eq_none hge]
 refine wpAny_bind ?_
 first | refine wpAny_bind (wpAny_typeNameOfWhole_keyiter hit.typeIs (wpAny_pure ?_)) | refine wpAny_bind (wpAny_typeNameOf_keyiter hit.typeIs (wpAny_pure ?_))
 show wpAny _ _ (setField (.ref it) 0 .none >>= _) _ _ s
 refine wpAny_bind (wpAny_setField hoi hdi (by simp) ?_)
 show wpAny _ _ (newExc (.type "StopIteration") [] >>= _) _ _ _
 refine wpAny_bind ?_
 simp only [newExc,newTuple]
 refine wpAny_bind (wpAny_newObj_type ?_ (by size_fits))
 refine wpAny_bind (m:=firstArgMember _ _) (wpAny_of_eq (a:=Value.none) (by first | rfl | (simp only [firstArgMember]; rfl)) ?_)
 refine wpAny_newObj_type ?_ (by size_fits)
 simp only [raiseNew]
 refine wpAny_bind (wpAny_handled ?_)
 rw [show A.in1.handled=none from hh]
 refine wpAny_bind (wpAny_pure (wpAny_throw ?_))
 refine wpAny_bind (wpAny_isInstance (T:="StopIteration") (b:=true) ⟨_,Heap.get?_push_size _ rfl,rfl⟩ isSubtype_stop ?_)
 exact wpAny_pure (hQ _ (((Heap.SameBut.update ..).extBut.push _).push _))
end
section
variable {K:Type} [DecidableEq K] {a:KD K} {hd:a.dep<=7} {X:Cx} {pins:List (Addr × Obj)} {σ:L2.St} {H:Hp} {s:Shared} {d:Addr} {xs:NEs K} {ob:Obj}
theorem Bh (I:Inv X pins σ H s) (h:H d=some (.frz ob (dNk a hd X.prog X.w d xs))):(d == sysModules)=false/\∃ es ep,s.heap.get? d=some ob/\ob.ExactDict/\ob.data=.dict es ep/\es.toList=xs.map (entryOfKey (kd a hd X.prog X.w))/\(xs.map (·.1)).Nodup:=by
 obtain ⟨e,⟨h0,o,es,ep,h1,h2⟩,_⟩:=(show bh X.prog X.w H s.heap d (.frz ob (dNk a hd X.prog X.w d xs)) from I.hok d _ h)
 rw [e] at h1
 cases h1
 exact ⟨h0,es,ep,e,h2⟩
end
section
variable {K:Type} [DecidableEq K] {a:KD K} {hd:a.dep<=7} {X:Cx} {tg l o i:Expr} {tl td ty:TE} {pos:Pos}
noncomputable def Bu (a:KD K) (hd:a.dep<=7) (P:Program) (w:World) (F:PySem.W.Frag) (td ty:TE):TE:=λσ H Q=>td σ H λx H1=>ty σ H1 λy H2=>∃ d ob b k xs p v,x=.ref d/\y=.ref b/\H2 d=some (.frz ob (dNk a hd P w d xs))/\(∀ x ∈ xs,Den F H2 (.ref x.2.1) (a.toD x.1))/\Den F H2 (.ref b) (a.toD k)/\atKey xs k=some p/\RelV v p.2/\Q v H2
theorem rT (hu:X.A.units + 16 < cLine) (ho:PE X o td) (hi:PE X i ty) (hs:oK i):PE X (.Subscript o i pos) (Bu a hd X.prog X.w X.K td ty):=by
 intro pins s σ H Q I h
 refine mr PySem.F.slot_dict_getitem.lookup hs (thn (ho pins s σ H _ I h) λu s1 ⟨x,H1,I1,rx,q1⟩=>thn (hi pins s1 σ H1 _ I1 q1) λiv s2 ⟨y,H2,I2,ry,d,ob,b,k,xs,p,v,ex,ey,ha,hk,g,hp,rv,q2⟩=>?_)
 subst ex ey
 obtain rfl:u=Value.ref d:=rx
 obtain rfl:iv=Value.ref b:=ry
 obtain ⟨_,es,ep,g1,g2,g3,g4,g5⟩:=Bh I2 ha
 have dd:s2.heap.DictOfH (kd a hd X.prog X.w) d xs:=⟨ob,es,ep,g1,g2,g3,g4,λx hx=>key_is I2 (hk x hx),g5⟩
 exact ⟨dd.typeIs,wpAny_getItem_heap (show X.A.units + 1 + 8 < cLine by omega) (key_is I2 g) dd hp ⟨v,H2,I2.tok _,rv,q2⟩⟩
end
end Ev
namespace Hy
open PySem PySem.Spec PyProof.Rows L2
open Ev (D Den aq KD NEs dNk fU Bx ai Bh rT)
section
variable {K:Type} [DecidableEq K] {a:KD K} {hd:a.dep<=7} {X:Cx} {C:Bool} {τ:List Sl} {x y:D} {b e f o ix tg:Expr} {pos p q apos cpos:Pos} {k:Nat} {N:Po} {rest:List Stmt} {m:List (K × D)} {key:K}
noncomputable def bxW (a:KD K) (hd:a.dep<=7) (P:Program) (w:World) (m:List (K × D)):Bx where
 p:=λF H d=>∃ ob xs,H d=some (.frz ob (dNk a hd P w d xs))/\EnK a F H xs m
 mono:=λe ⟨ob,xs,h1,h2⟩=>⟨ob,xs,e _ _ h1,h2.mono e⟩
 isd:=λ{_ _ d} ⟨ob,xs,h1,_⟩=>⟨_,h1,λP w H' h z=>let ⟨_,o,_,_,z1,z2,_⟩:=z.2.1; ⟨o,z1,z2.1⟩⟩
noncomputable def exW (a:KD K) (hd:a.dep<=7) (P:Program) (w:World) (ob:Obj) (m:List (K × D)):Ex where
 p:=λF G o p=>∃ xs,o=.frz ob (dNk a hd P w p xs)/\EnK a F G xs m
 mono:=λe ⟨xs,h1,h2⟩=>⟨xs,h1,h2.mono e⟩
 ext:=λ⟨xs,h1,_⟩=>.inr (.inl ⟨_,_,h1⟩)
theorem Sta.fzW {F:PySem.W.Frag} {P:Program} {w:World} {A:Addr->Prop} {H₀ H:Hp} {B:Nat->List Addr} {σ:L2.St} {i:Nat} {ob:Obj} (S:Sta F A H₀ τ B σ H) (hi:τ[i]?=some (.x (exW a hd P w ob m))):Sta F A H₀ (τ.set i (.d (.box (bxW a hd P w m)))) (upB B i []) σ H:=
 S.less (λ_ z=>nomatch z) λG g hv=>by
   obtain ⟨d,o,h1,h2,h3,xs,h4,h5⟩:=S.sl i _ hi
   subst h4
   exact ⟨rfl,_,h2,.box ⟨ob,xs,hv d _ (by rw [h1]; exact List.mem_singleton.mpr rfl) (λz=>nomatch z) h3,h5.mono g⟩⟩
theorem Bc (i:Nat) (h:PSs X rest (dS X.K (τ.set i (.d (.box (bxW a hd X.prog X.w m)))) N)) (hi:τ[i]?=some (.x (exK a hd X.prog X.w m)):=by rfl):PSs X rest (dS X.K τ N):=by
 intro pins s σ H D I ⟨A,H₀,B,S,Me⟩
 obtain ⟨d,xs,h1,h2,h3,h4⟩:=S.dct hi
 obtain ⟨⟨z0,o,es,ep,z1,z2⟩,z3,z4⟩:=(show bh X.prog X.w H s.heap d (dNk a hd X.prog X.w d xs) from I.hok d _ h3)
 have I2:Inv X pins σ (upd H d (.frz o (dNk a hd X.prog X.w d xs))) s:=d8 (t':=s.toks) (h':=s.heap) I (by rw [h3]; exact True.intro) (.refl _ _) ⟨o,z1⟩ ⟨z1,⟨z0,o,es,ep,z1,z2⟩,z3,z4⟩
 have hl:=(List.getElem?_eq_some_iff.mp hi).1
 have S2:=S.xC (E':=exW a hd X.prog X.w o m) hi h2 ⟨xs,rfl,h4⟩
 have S3:=S2.fzW (ob:=o) (m:=m) (List.getElem?_set_self hl)
 rw [List.set_set] at S3
 exact h pins s σ _ D I2 ⟨A,H₀,_,S3,Me⟩
theorem uw (hu:X.A.units + 16 < cLine) (hb:PE X b (dE X.K C τ (.d (.box (bxW a hd X.prog X.w m))))) (hk:PE X ix (dE X.K C τ (.d (a.toD key)))) (hx:getM m key=some x) (hr:∀ H v,Den X.K H v (a.toD key)->∃ b,v=.ref b) (hs:oK ix):PE X (.Subscript b ix pos) (dE X.K C τ (.d x)):=
 peW (rT (a:=a) (hd:=hd) hu hb hk hs) λσ H Q q=>by
   obtain ⟨A,H₀,B,S,kk⟩:=dJ q
   refine aO S λv H1 e1 d1=>aO (S.mono e1) λy H2 e2 dy=>?_
   obtain ⟨b',rfl⟩:=hr _ _ dy
   cases d1.mono (au e2 λ_ z=>z) with
   | box h=>
     obtain ⟨ob,xs,g3,g4⟩:=h
     have:=g4.at key
     rw [hx] at this
     obtain ⟨pp,v,h1,h2,h3⟩:=this
     exact ⟨_,ob,b',key,xs,pp,v,rfl,rfl,aL _ _ g3,λz hz=>(g4.key z hz).mono aL,dy.mono aL,h1,h2,kk v H2 (e1.trans e2) h3⟩
end
end Hy
namespace Ev
open PySem PySem.Spec PyProof.Rows L2
section
variable {X:Cx} {o e f g:Expr} {pos apos cpos:Pos} {td te tf tg:TE}
end
section
variable {X:Cx} {tg l:Expr} {tl:TE}
end
end Ev
namespace Hy
open PySem PySem.Spec PyProof.Rows L2
open Ev (D Den aq ai)
section
variable {X:Cx} {C:Bool} {τ:List Sl} {o e f g a b:Expr} {pos apos cpos p p2:Pos} {z w v:Str} {k:Nat} {xs:List D}
end
end Hy
namespace Tx
open PySem
noncomputable def inj (c:Nat):List (List Nat)->List Nat
 | []=>[]
 | [a]=>a
 | a :: b :: r=>a++c :: inj c (b :: r)
noncomputable def cs (x:Str):List Nat:=x.cps.toList
end Tx
namespace Hx
open PySem PySem.Spec PyProof.Rows
section
variable {M:Model} {A:Around} {E:Value->Shared->Prop} {s:Shared}
end
end Hx
namespace Hx
open PySem PySem.Spec PySem.Calls PyProof.Rows PySem.W
section
variable {prog:Program} {w:World} {A:Around} {E:Value->Shared->Prop} {s:Shared} {K:Frag} {x D:Addr} {ox:Obj}
end
end Hx
namespace Hx
open PySem PySem.Spec PySem.Calls PyProof.Rows PySem.W L2
section
variable {X:Cx} {x:Str} {C S:Addr} {np cpos pos:Pos} {e:Expr} {es:List Expr} {t:TA}
end
section
variable {fs fs' ch:List Addr} {H H1:Hp} {h h1 h2:Heap} {old:Addr->Prop} {P:Program} {w:World} {a:Addr}
end
theorem there {P:Program} {w:World} {H:Hp} {h:Heap} {a:Addr} {o:HO} (x:bh P w H h a o):∃ u,h.get? a=some u:=by
 cases o with
 | lst xs=>obtain ⟨_,_,_,_,e⟩:=x; exact ⟨_,e⟩
 | tup xs=>obtain ⟨_,_,_,o,e,_⟩:=x; exact ⟨_,e⟩
 | dK kvs=>obtain ⟨_,_,_,_,o,_,_,e,_⟩:=x; exact ⟨_,e⟩
 | dT kvs=>obtain ⟨_,_,_,_,o,_,_,e,_⟩:=x; exact ⟨_,e⟩
 | set S n=>obtain ⟨o,_,_,_,e,_⟩:=x; exact ⟨_,e⟩
 | ins C dx fs=>obtain ⟨_,_,_,e,_⟩:=x; exact ⟨_,e⟩
 | own y=>exact x
 | xd fs=>obtain ⟨_,⟨o,_,_,e,_⟩,_⟩:=x; exact ⟨_,e⟩
 | met f y=>exact ⟨_,x⟩
 | rng lo hi=>obtain ⟨_,_,_,e⟩:=x; exact ⟨_,e⟩
 | frz o u=>exact ⟨_,x.1⟩
 | tbl ps=>exact ⟨_,x⟩
 | ext φ=>exact x.2.1
section
variable {P:Program} {w:World} {K:Frag} {mg:Str->Option Value} {base:Heap} {N:List Str} {qual:Str} {scope:Scope} {f:Addr} {cd:Value} {A:Around} {outer:List Env} {s0:Shared} {H0:Hp} {E:XK} {cl:Nat->Addr}
end
section
variable {X:Cx} {pins:List (Addr × Obj)} {σ:L2.St} {H:Hp} {s:Shared} {a:Addr}
end
section
variable {X:Cx} {cl:Nat->Addr} {ks:List Nat} {n sm:Str} {i:Nat} {S:Addr} {ret:Expr} {psm pr ph pos:Pos} {body:List Stmt} {tb:(Nat->Hp->Prop)->TS} {tr:Addr->Obj->TE}
end
end Hx
namespace Hy
open PySem PySem.Spec PyProof.Rows L2
open Ev (D Den aq ai)
section
variable {X:Cx} {C:Bool} {τ:List Sl} {x y z:D} {a b e:Expr} {es:List Expr} {pos p np cpos:Pos} {k c:Nat} {s:Sl} {ds:List D} {N:Po} {rest body:List Stmt} {cl:Nat->Addr} {Ex:Nat->Hp->Prop} {Et:Hp->Prop}
end
section
variable {P:Program} {w:World} {K:PySem.W.Frag} {mg:Str->Option Value} {base:Heap} {cl:Nat->Addr}
end
section
variable {X:Cx} {C:Bool} {τ:List Sl} {e:Expr} {k c i:Nat} {N:Po} {rest body:List Stmt} {cl:Nat->Addr} {n:Str} {fw S:Addr} {p p' q psm pr ph pos:Pos}
end
end Hy
namespace Hx
open PySem PySem.Spec PyProof.Rows L2
section
variable {X:Cx} {body:List Stmt} {h0:ExceptHandler} {hs:List ExceptHandler} {pos:Pos} {t:TS}
end
end Hx
namespace Hy
open PySem PySem.Spec PyProof.Rows L2
end Hy
namespace Hy
open PySem PySem.Spec PyProof.Rows L2
open Ev (D Den aq ai aX aI)
section
variable {X:Cx} {C:Bool} {τ:List Sl} {a b e e1 e2 e3 o:Expr} {pos p p2 tp:Pos} {k:Nat} {x x1 x2 x3:D} {N:Po} {rest:List Stmt}
theorem gf {K:PySem.W.Frag} {G H:Hp}:∀ {vs:List V} {bs:List Addr} {ds:List D},aP K G H vs bs (ds.map .d)->aq K G vs ds/\bs=[]
 | _,_,[],h=>by cases h; exact ⟨.nil,rfl⟩
 | _,_,x :: ds,h=>by
   rw [List.map_cons] at h
   cases h with
   | cons h r=>
     cases h with
     | d h=>
       obtain ⟨d1,rfl⟩:=gf r
       exact ⟨.cons h d1,rfl⟩
theorem AZ {i:Nat} {pt:List Nat} {t:Nd} {ds:List D} {m:Int} {j:Nat} {ix:Expr} {sp:Pos} (ho:PE X o (dP X.K τ i pt)) (hx:PE X ix (dE X.K false τ (.d (.int m)))) (he:PE X e (dE X.K true τ (.d x))) (hi:τ[i]?=some (.n t)) (hp:dW pt t=some (.l (ds.map .d))) (hj:ixN ds.length m=some j)
   (hr:PSs X rest (dS X.K (τ.set i (.n (cK pt t (.l ((ds.set j x).map .d))))) N))
   (hs:swapsWithSole [.Subscript o ix sp] e pos.line X.env=pure false:=by rfl) (hw:swappedStores [.Subscript o ix sp] e X.env=pure none:=by rfl) (h1:(assignEach [.Subscript o ix sp] X.env).map (·.2)=[assign (.Subscript o ix sp) X.env]:=by rfl)
   (ha:∀ v,assign (.Subscript o ix sp) X.env v=(do
     let ov <- holding [v] (eval o X.env)
     let iv <- holding [v,ov] (eval ix X.env)
     standAt sp
     holding [v,ov,iv] (setItem ov iv v)
     release [v,ov,iv] []):=by intro _; rfl) :
   PSs X (.Assign [.Subscript o ix sp] e pos :: rest) (dS X.K τ N):=
 a6 (M:=(·=τ.set i (.n (cK pt t (.l ((ds.set j x).map .d)))))) (psW (mU he (pX ho hx set_list ha) hs hw h1) λD σ H ⟨A,H₀,B,S,Me⟩=>aO S λv H1 e1 d1=>by
   refine ⟨A,H₀,B,S.mono e1,λu w H2 eu e2 pv=>aO ((S.mono e1).mono e2) λy H3 e3 d3=>?_⟩
   have S3:=((S.mono e1).mono e2).mono e3
   obtain ⟨u',l,vs,bs0,eu',pv',hH,r0,nd0,hal,hown,put⟩:=S3.putN hi hp
   rw [eu] at eu'
   cases eu'
   obtain rfl:=(pv.mono e3).det pv'
   cases d3
   obtain ⟨dl,rfl⟩:=gf r0
   refine ⟨l,vs,m,j,rfl,rfl,hH,by rw [dl.length]; exact hj,?_⟩
   have sm:aj (hd H3 (own A B)) (hd (upd H3 l (.lst (vs.set j v))) λb=>own A B b\/b ∈ ([]:List Addr)):=λb o z=>by
     obtain ⟨z1,z2⟩:=ak.mp z
     exact ak.mpr ⟨(λy=>y.elim z1 λy=>(nomatch y)),by rw [ax (λy:b=l=>z1 (by rw [y]; exact hal))]; exact z2⟩
   obtain ⟨B',S'⟩:=put (H1:=H3) (vs':=vs.set j v) (bs1:=[]) (xs':=(ds.set j x).map .d) (aj.refl _) List.nodup_nil (λ_ z=>nomatch z) (nB ((je j dl (d1.mono (au (e2.trans e3) λ_ z=>z))).mono sm))
   exact Me.nx _ B' _ _ rfl S') λ_ e=>e ▸ hr
end
end Hy
namespace K54
open PySem PySem.Spec PyProof.Rows L2 Hy
open Ev (D Den aq ay aA)
noncomputable def aE (f:Nat->Rat):Nat->Rat
 | 0=>0
 | n + 1=>aE f n + f n
theorem aC {f g:Nat->Rat}:∀ {n:Nat},(∀ k < n,f k=g k)->aE f n=aE g n
 | 0,_=>rfl
 | n + 1,h=>by rw [aE,aE,aC λk hk=>h k (by omega),h n (by omega)]
theorem b7 (c:Rat) (f:Nat->Rat):∀ n:Nat,c * aE f n=aE (λk=>c * f k) n
 | 0=>Rat.mul_zero c
 | n + 1=>by rw [aE,aE,Rat.mul_add,b7 c f n]
theorem oR (c:Rat) (f:Nat->Rat):∀ n:Nat,aE f n * c=aE (λk=>f k * c) n
 | 0=>Rat.zero_mul c
 | n + 1=>by rw [aE,aE,Rat.add_mul,oR c f n]
theorem fg (f g:Nat->Rat):∀ n:Nat,aE (λk=>f k + g k) n=aE f n + aE g n
 | 0=>(Rat.add_zero 0).symm
 | n + 1=>by rw [aE,aE,aE,fg f g n]; grind
theorem hU:∀ n:Nat,aE (λ_=>0) n=0
 | 0=>rfl
 | n + 1=>by rw [aE,hU n,Rat.add_zero]
theorem iD (f:Nat->Nat->Rat) (m:Nat):∀ n:Nat,aE (λk=>aE (λl=>f k l) m) n=aE (λl=>aE (λk=>f k l) n) m
 | 0=>by simp only [aE]; exact (hU m).symm
 | n + 1=>by simp only [aE]; rw [iD f m n,<- fg]
noncomputable def dq (i j:Nat):Rat:=if i=j then 1 else 0
theorem oI (A:Nat->Rat) (j:Nat):∀ n:Nat,n<=j->aE (λk=>A k * dq k j) n=0
 | 0,_=>rfl
 | n + 1,h=>by
   rw [aE,oI A j n (by omega),dq,if_neg (by omega),Rat.mul_zero,Rat.add_zero]
theorem cT (A:Nat->Rat) (j:Nat):∀ n:Nat,j < n->aE (λk=>A k * dq k j) n=A j
 | n + 1,h=>by
   rw [aE]
   by_cases e:j=n
   · subst e
     rw [oI A j j (Nat.le_refl _),dq,if_pos rfl,Rat.mul_one,Rat.zero_add]
   · rw [cT A j n (by omega),dq,if_neg (by omega),Rat.mul_zero,Rat.add_zero]
noncomputable def skp (i r:Nat):Nat:=if r < i then r else r + 1
noncomputable def minor (M:Nat->Nat->Rat) (i r c:Nat):Rat:=M (skp i r) (c + 1)
noncomputable def sgn (i:Nat):Rat:=if i % 2=0 then 1 else -1
theorem eW (i:Nat):sgn (i + 1)=-sgn i:=by
 unfold sgn
 by_cases h:i % 2=0
 · rw [if_pos h,if_neg (by omega)]
 · rw [if_neg h,if_pos (by omega)]
   rfl
theorem Aq (i:Nat):sgn i * sgn i=1:=by
 unfold sgn
 split <;> grind
noncomputable def det:Nat->(Nat->Nat->Rat)->Rat
 | 0,_=>1
 | n + 1,M=>aE (λi=>sgn i * M i 0 * det n (minor M i)) (n + 1)
theorem mT {i r n:Nat} (h:r < n):skp i r < n + 1:=by unfold skp; split <;> omega
theorem Ag (i r:Nat):skp i r ≠ i:=by unfold skp; split <;> omega
theorem aD:∀ {n:Nat} {M M':Nat->Nat->Rat},(∀ i < n,∀ j < n,M i j=M' i j)->det n M=det n M'
 | 0,_,_,_=>rfl
 | n + 1,M,M',h=>by
   unfold det
   refine aC λi hi=>?_
   rw [h i hi 0 (by omega),aD (M:=minor M i) (M':=minor M' i) λr hr c hc=>h _ (mT hr) _ (by omega)]
noncomputable def ar (M:Nat->Nat->Rat) (p:Nat) (v:Nat->Rat) (r c:Nat):Rat:=if r=p then v c else M r c
noncomputable def cw (M:Nat->Nat->Rat) (q:Nat) (v:Nat->Rat) (r c:Nat):Rat:=if c=q then v r else M r c
noncomputable def un (i p:Nat):Nat:=if p < i then p else p - 1
theorem gp (M:Nat->Nat->Rat) (p:Nat) (v:Nat->Rat):minor (ar M p v) p=minor M p:=by
 funext r c
 unfold minor ar
 rw [if_neg (Ag p r)]
theorem eR (M:Nat->Nat->Rat) {i p:Nat} (h:i ≠ p) (v:Nat->Rat):minor (ar M p v) i=ar (minor M i) (un i p) λc=>v (c + 1):=by
 funext r c
 unfold minor ar
 have:skp i r=p ↔ r=un i p:=by unfold skp un; split <;> split <;> omega
 by_cases q:skp i r=p
 · rw [if_pos q,if_pos (this.mp q)]
 · rw [if_neg q,if_neg λz=>q (this.mpr z)]
theorem rL:∀ {n:Nat} (M:Nat->Nat->Rat) {p:Nat},p < n->∀ (a b:Rat) (x y:Nat->Rat),det n (ar M p λc=>a * x c + b * y c)=a * det n (ar M p x) + b * det n (ar M p y)
 | 0,_,_,h,_,_,_,_=>absurd h (Nat.not_lt_zero _)
 | n + 1,M,p,hp,a,b,x,y=>by
   unfold det
   rw [b7,b7,<- fg]
   refine aC λi hi=>?_
   by_cases h:i=p
   · subst h
     rw [gp,gp,gp]
     simp only [ar,if_pos rfl]
     grind
   · rw [eR M h,eR M h,eR M h,rL (minor M i) (show un i p < n by unfold un; split <;> omega) a b]
     simp only [ar,if_neg h]
     grind
theorem uU {f:Nat->Rat} {p:Nat} (h0:∀ i,i ≠ p->i ≠ p + 1->f i=0) (h:f p + f (p + 1)=0):∀ n,p + 1 < n->aE f n=0:=by
 have z:∀ n,n<=p->aE f n=0:=by
   intro n
   induction n with
   | zero=>intro _; rfl
   | succ n ih=>intro hn; rw [aE,ih (by omega),h0 n (by omega) (by omega),Rat.add_zero]
 intro n
 induction n with
 | zero=>intro hn; omega
 | succ n ih=>
   intro hn
   rw [aE]
   by_cases q:n=p + 1
   · subst q
     rw [aE,z p (Nat.le_refl _),Rat.zero_add]
     exact h
   · rw [ih (by omega),h0 n (by omega) q,Rat.add_zero]
theorem cA {f:Nat->Rat} {n:Nat} (h:∀ i < n,f i=0):aE f n=0:=by
 rw [aC h]; exact hU n
theorem mF:∀ {n:Nat} {M:Nat->Nat->Rat} {p:Nat},p + 1 < n->(∀ c < n,M p c=M (p + 1) c)->det n M=0
 | 0,_,_,h,_=>absurd h (Nat.not_lt_zero _)
 | n + 1,M,p,hp,h=>by
   unfold det
   let f:Nat->Rat:=λi=>if i < n + 1 then sgn i * M i 0 * det n (minor M i) else 0
   have e:aE (λi=>sgn i * M i 0 * det n (minor M i)) (n + 1)=aE f (n + 1):=aC λi hi=>by simp only [f]; rw [if_pos hi]
   rw [e]
   refine uU (p:=p) (λi h1 h2=>?_) ?_ _ hp
   · simp only [f]
     by_cases hi:i < n + 1
     · rw [if_pos hi]
       have:det n (minor M i)=0:=by
         by_cases q:i < p
         · refine mF (p:=p - 1) (by omega) λc hc=>?_
           unfold minor skp
           rw [if_neg (by omega),if_neg (by omega),show p - 1 + 1=p by omega]
           exact h (c + 1) (by omega)
         · refine mF (p:=p) (by omega) λc hc=>?_
           unfold minor skp
           rw [if_pos (by omega),if_pos (by omega)]
           exact h (c + 1) (by omega)
       rw [this,Rat.mul_zero]
     · rw [if_neg hi]
   · simp only [f]
     rw [if_pos (by omega),if_pos hp,eW,<- h 0 (by omega)]
     have:det n (minor M p)=det n (minor M (p + 1)):=aD λr hr c hc=>by
       unfold minor skp
       by_cases q:r < p
       · rw [if_pos q,if_pos (by omega)]
       · rw [if_neg q]
         by_cases q2:r=p
         · subst q2
           rw [if_pos (by omega)]
           exact (h (c + 1) (by omega)).symm
         · rw [if_neg (by omega)]
     rw [this]
     grind
structure ML (n:Nat) (f:(Nat->Nat->Rat)->Rat):Prop where
 cong:∀ {M M':Nat->Nat->Rat},(∀ i < n,∀ j < n,M i j=M' i j)->f M=f M'
 lin:∀ (M:Nat->Nat->Rat) {p:Nat},p < n->∀ (a b:Rat) (x y:Nat->Rat),f (ar M p λc=>a * x c + b * y c)=a * f (ar M p x) + b * f (ar M p y)
 alt:∀ {M:Nat->Nat->Rat} {p:Nat},p + 1 < n->(∀ c < n,M p c=M (p + 1) c)->f M=0
theorem fh (n:Nat):ML n (det n):=⟨aD,rL,mF⟩
section
variable {n:Nat} {f:(Nat->Nat->Rat)->Rat}
theorem bG (M:Nat->Nat->Rat) (p:Nat):ar M p (M p)=M:=by
 funext r c
 unfold ar
 split
 · rename_i h; rw [h]
 · rfl
theorem bU {M:Nat->Nat->Rat} {p:Nat} {v:Nat->Rat}:ar M p v p=v:=by funext c; unfold ar; rw [if_pos rfl]
theorem bX {M:Nat->Nat->Rat} {p r:Nat} {v:Nat->Rat} (h:r ≠ p):ar M p v r=M r:=by funext c; unfold ar; rw [if_neg h]
theorem a9 {M:Nat->Nat->Rat} {p q:Nat} {v u:Nat->Rat} (h:p ≠ q):ar (ar M p v) q u=ar (ar M q u) p v:=by
 funext r c
 unfold ar
 by_cases h1:r=q
 · rw [if_pos h1,if_neg λz=>h (z.symm.trans h1),if_pos h1]
 · rw [if_neg h1,if_neg h1]
theorem ML.add (h:ML n f) (M:Nat->Nat->Rat) {p:Nat} (hp:p < n) (x y:Nat->Rat):f (ar M p λc=>x c + y c)=f (ar M p x) + f (ar M p y):=by
 have:=h.lin M hp 1 1 x y
 simp only [Rat.one_mul] at this
 exact this
theorem ML.nb (h:ML n f) (M:Nat->Nat->Rat) {p:Nat} (hp:p + 1 < n) (x y:Nat->Rat):f (ar (ar M p x) (p + 1) y)=-f (ar (ar M p y) (p + 1) x):=by
 have z:∀ u:Nat->Rat,f (ar (ar M p u) (p + 1) u)=0:=λu=>h.alt hp λc _=>by rw [bU,bX (by omega),bU]
 have e:=z λc=>x c + y c
 rw [h.add _ hp] at e
 rw [a9 (by omega),h.add _ (show p < n by omega),a9 (M:=M) (p:=p) (q:=p + 1) (v:=λc=>x c + y c) (u:=y) (by omega),h.add _ (show p < n by omega)] at e
 rw [a9 (M:=M) (p:=p + 1) (q:=p) (v:=x) (u:=x) (by omega),z x,a9 (M:=M) (p:=p + 1) (q:=p) (v:=y) (u:=y) (by omega),z y,a9 (M:=M) (p:=p + 1) (q:=p) (v:=x) (u:=y) (by omega),a9 (M:=M) (p:=p + 1) (q:=p) (v:=y) (u:=x) (by omega)] at e
 grind
theorem ML.two (h:ML n f):∀ (d:Nat) (M:Nat->Nat->Rat) (p:Nat),p + 1 + d < n->M p=M (p + 1 + d)->f M=0
 | 0,M,p,hp,e=>h.alt hp λc _=>by rw [e]
 | d + 1,M,p,hp,e=>by
   have s:=h.nb M (p:=p + 1 + d) (by omega) (M (p + 1 + d)) (M (p + 1 + d + 1))
   rw [bG,bG] at s
   rw [s,ML.two h d _ p (by omega) (by rw [bX (by omega),bX (by omega),bX (by omega),bU]; exact e)]
   rfl
theorem ML.same (h:ML n f) {M:Nat->Nat->Rat} {p q:Nat} (hp:p < n) (hq:q < n) (hpq:p ≠ q) (e:M p=M q):f M=0:=by
 rcases Nat.lt_or_lt_of_ne hpq with z | z
 · exact h.two (q - p - 1) M p (by omega) (by rw [show p + 1 + (q - p - 1)=q by omega]; exact e)
 · exact h.two (p - q - 1) M q (by omega) (by rw [show q + 1 + (p - q - 1)=p by omega]; exact e.symm)
theorem ML.swap (h:ML n f) {M:Nat->Nat->Rat} {p q:Nat} (hp:p < n) (hq:q < n) (hpq:p ≠ q) (x y:Nat->Rat):f (ar (ar M p x) q y)=-f (ar (ar M p y) q x):=by
 have z:∀ u:Nat->Rat,f (ar (ar M p u) q u)=0:=λu=>h.same hp hq hpq (by rw [bU,bX hpq,bU])
 have e:=z λc=>x c + y c
 have c1:∀ u v:Nat->Rat,ar (ar M q u) p v=ar (ar M p v) q u:=λu v=>a9 λz=>hpq z.symm
 rw [h.add _ hq,a9 hpq,h.add _ hp,a9 (M:=M) (p:=p) (q:=q) (v:=λc=>x c + y c) (u:=y) hpq,h.add _ hp,c1,c1,c1,c1,z x,z y] at e
 grind
theorem ML.B1 (h:ML n f) (M:Nat->Nat->Rat) {p:Nat} (hp:p < n):f (ar M p λ_=>0)=0:=by
 have:=h.lin M hp 0 0 (λ_=>0) (λ_=>0)
 simp only [Rat.zero_mul,Rat.add_zero] at this
 exact this
theorem ML.sum (h:ML n f) (M:Nat->Nat->Rat) {p:Nat} (hp:p < n) (v:Nat->Rat) (e:Nat->Nat->Rat):∀ m,f (ar M p λj=>aE (λc=>v c * e c j) m)=aE (λc=>v c * f (ar M p (e c))) m
 | 0=>h.B1 M hp
 | m + 1=>by
   have:=h.lin M hp 1 (v m) (λj=>aE (λc=>v c * e c j) m) (e m)
   simp only [Rat.one_mul] at this
   rw [aE,<- ML.sum h M hp v e m]
   exact this
theorem ML.comb (h:ML n f) (M:Nat->Nat->Rat) {p k:Nat} (hp:p < n) (hk:k<=p) (d:Rat) (β:Nat->Rat):f (ar M p λj=>d * M p j + aE (λi=>β i * M i j) k)=d * f M:=by
 have e:=h.lin M hp d 1 (M p) (λj=>aE (λi=>β i * M i j) k)
 simp only [Rat.one_mul] at e
 rw [e,bG,h.sum M hp β M k,cA,Rat.add_zero]
 intro i hi
 rw [h.same (p:=i) (q:=p) (by omega) hp (by omega) (by rw [bX (by omega),bU]),Rat.mul_zero]
end
noncomputable def idQ (i j:Nat):Rat:=if i=j then 1 else 0
noncomputable def un1 (σ:Nat->Nat) (i j:Nat):Rat:=if σ i=j then 1 else 0
theorem vI:∀ (m:Nat) (σ:Nat->Nat),(∀ i < m + 1,σ i < m)->∃ i j,i < j/\j < m + 1/\σ i=σ j
 | 0,σ,h=>absurd (h 0 (by decide)) (Nat.not_lt_zero _)
 | m + 1,σ,h=>by
   by_cases q:∃ i,i < m + 1/\σ i=σ (m + 1)
   · obtain ⟨i,hi,e⟩:=q
     exact ⟨i,m + 1,hi,by omega,e⟩
   · have q':∀ i < m + 1,σ i ≠ σ (m + 1):=λi hi z=>q ⟨i,hi,z⟩
     obtain ⟨i,j,h1,h2,e⟩:=vI m (λi=>if σ (m + 1) < σ i then σ i - 1 else σ i) λi hi=>by
       have a:=h i (by omega)
       have b:=h (m + 1) (by omega)
       have c:=q' i hi
       split <;> omega
     refine ⟨i,j,h1,by omega,?_⟩
     have a:=q' i (by omega)
     have b:=q' j h2
     split at e <;> split at e <;> omega
theorem wU {n k:Nat} {σ:Nat->Nat} (h:∀ i < n,σ i < n) (hk:k < n) (hn:∀ i < n,σ i ≠ k):∃ i j,i < j/\j < n/\σ i=σ j:=by
 obtain ⟨m,rfl⟩:∃ m,n=m + 1:=⟨n - 1,by omega⟩
 obtain ⟨i,j,h1,h2,e⟩:=vI m (λi=>if k < σ i then σ i - 1 else σ i) λi hi=>by
   have a:=h i hi
   have b:=hn i hi
   split <;> omega
 refine ⟨i,j,h1,h2,?_⟩
 have a:=hn i (by omega)
 have b:=hn j h2
 split at e <;> split at e <;> omega
section
variable {n:Nat} {h:(Nat->Nat->Rat)->Rat}
theorem ML.ue (H:ML n h) (h0:h idQ=0):∀ (d k:Nat),k + d=n->∀ σ:Nat->Nat,(∀ i < n,σ i < n)->(∀ i < k,σ i=i)->h (un1 σ)=0
 | 0,k,hk,σ,_,hf=>by
   rw [<- h0]
   exact H.cong λi hi j _=>by unfold un1 idQ; rw [hf i (by omega)]
 | d + 1,k,hk,σ,hs,hf=>by
   by_cases q:∃ j,k<=j/\j < n/\σ j=k
   · obtain ⟨j,h1,h2,h3⟩:=q
     by_cases z:j=k
     · subst z
       exact ML.ue H h0 d (j + 1) (by omega) σ hs λi hi=>by
         by_cases y:i=j
         · rw [y]; exact h3
         · exact hf i (by omega)
     · have e:un1 σ=ar (ar (un1 σ) k (un1 σ k)) j (un1 σ j):=by rw [bG,bG]
       have e2:ar (ar (un1 σ) k (un1 σ j)) j (un1 σ k)=un1 λi=>if i=j then σ k else if i=k then σ j else σ i:=by
         funext r c
         have zk:¬ k=j:=λy=>z y.symm
         by_cases y1:r=j <;> by_cases y2:r=k <;> simp [ar,un1,y1,y2,zk]
       rw [e,H.swap (by omega) h2 (λy=>z y.symm),e2,ML.ue H h0 d (k + 1) (by omega) _ (λi hi=>?_) (λi hi=>?_)]
       · rfl
       · split
         · exact hs k (by omega)
         · split
           · exact hs j h2
           · exact hs i hi
       · rw [if_neg (by omega)]
         by_cases y:i=k
         · rw [if_pos y,h3,y]
         · rw [if_neg y]
           exact hf i (by omega)
   · obtain ⟨i,j,h1,h2,e⟩:=wU hs (show k < n by omega) λi hi z=>by
       by_cases y:i < k
       · have:=hf i y
         omega
       · exact q ⟨i,by omega,hi,z⟩
     exact H.same (p:=i) (q:=j) (by omega) h2 (by omega) (by funext c; unfold un1; rw [e])
noncomputable def nr (k:Nat) (M:Nat->Nat->Rat) (σ:Nat->Nat) (i j:Nat):Rat:=if i < k then M i j else un1 σ i j
theorem ML.CG (H:ML n h) (h0:h idQ=0) (M:Nat->Nat->Rat):∀ (k:Nat),k<=n->∀ σ:Nat->Nat,(∀ i < n,σ i < n)->h (nr k M σ)=0
 | 0,_,σ,hs=>by
   rw [<- ML.ue H h0 n 0 (by omega) σ hs λi hi=>absurd hi (Nat.not_lt_zero _)]
   exact H.cong λi _ j _=>by unfold nr; rw [if_neg (Nat.not_lt_zero _)]
 | k + 1,hk,σ,hs=>by
   have e:h (nr (k + 1) M σ)=h (ar (nr k M σ) k λj=>aE (λc=>M k c * idQ c j) n):=H.cong λi hi j hj=>by
     unfold ar nr
     by_cases y:i=k
     · subst y
       rw [if_pos (by omega),if_pos rfl]
       exact (cT (M i) j n hj).symm
     · rw [if_neg y]
       by_cases z:i < k
       · rw [if_pos (by omega),if_pos z]
       · rw [if_neg (by omega),if_neg z]
   rw [e,H.sum _ (by omega),cA]
   intro c hc
   have e2:ar (nr k M σ) k (idQ c)=nr k M λi=>if i=k then c else σ i:=by
     funext r j
     by_cases y:r=k <;> simp [ar,nr,un1,idQ,y]
   rw [e2,ML.CG H h0 M k (by omega) _ (λi hi=>?_),Rat.mul_zero]
   split
   · exact hc
   · exact hs i hi
theorem ML.zero (H:ML n h) (h0:h idQ=0) (M:Nat->Nat->Rat):h M=0:=by
 rw [<- ML.CG H h0 M n (Nat.le_refl _) (λi=>i) λi hi=>hi]
 exact H.cong λi hi j _=>by unfold nr; rw [if_pos hi]
end
theorem uv:minor idQ 0=idQ:=by
 funext r c
 unfold minor idQ skp
 rw [if_neg (Nat.not_lt_zero _)]
 by_cases h:r=c
 · rw [if_pos (by omega),if_pos h]
 · rw [if_neg (by omega),if_neg h]
theorem pR:∀ n,det n idQ=1
 | 0=>rfl
 | n + 1=>by
   unfold det
   rw [aC (g:=λi=>det n (minor idQ i) * idQ i 0) λi hi=>?_]
   · have:=cT (λi=>det n (minor idQ i)) 0 (n + 1) (by omega)
     have e:(λi=>det n (minor idQ i) * idQ i 0)=λk=>(λi=>det n (minor idQ i)) k * dq k 0:=rfl
     rw [e,this,uv,pR n]
   · by_cases z:i=0
     · subst z
       show 1 * 1 * _=_ * 1
       grind
     · unfold idQ
       rw [if_neg z]
       grind
theorem ML.uniq {n:Nat} {f:(Nat->Nat->Rat)->Rat} (F:ML n f) (M:Nat->Nat->Rat):f M=det n M * f idQ:=by
 have D:=fh n
 have H:ML n λM=>f M - det n M * f idQ:=by
   refine ⟨λ{M M'} e=>?_,λM p hp a b x y=>?_,λ{M p} hp e=>?_⟩
   · rw [F.cong e,D.cong e]
   · rw [F.lin M hp,D.lin M hp]
     grind
   · rw [F.alt hp e,D.alt hp e]
     grind
 have:=H.zero (by rw [pR]; grind) M
 grind
theorem jZ:∀ {n:Nat} (M:Nat->Nat->Rat) {q:Nat},q < n->∀ (a b:Rat) (x y:Nat->Rat),det n (cw M q λc=>a * x c + b * y c)=a * det n (cw M q x) + b * det n (cw M q y)
 | 0,_,_,h,_,_,_,_=>absurd h (Nat.not_lt_zero _)
 | n + 1,M,q,hq,a,b,x,y=>by
   unfold det
   rw [b7,b7,<- fg]
   refine aC λi hi=>?_
   cases q with
   | zero=>
     have e:∀ v,minor (cw M 0 v) i=minor M i:=λv=>by
       funext r c
       unfold minor cw
       rw [if_neg (by omega)]
     rw [e,e,e]
     simp only [cw,if_true]
     grind
   | succ q=>
     have e:∀ v,minor (cw M (q + 1) v) i=cw (minor M i) q λr=>v (skp i r):=λv=>by
       funext r c
       unfold minor cw
       by_cases z:c=q
       · rw [if_pos (by omega),if_pos z]
       · rw [if_neg (by omega),if_neg z]
     rw [e,e,e,jZ (minor M i) (show q < n by omega) a b]
     have z:¬ (0=q + 1):=by omega
     simp only [cw,if_neg z]
     grind
theorem lI (g:Nat->Rat) (i:Nat):∀ n,i<=n->aE (λj=>g (skp i j)) n=aE g (n + 1) - g i
 | 0,h=>by
   have:i=0:=by omega
   subst this
   show (0:Rat)=0 + g 0 - g 0
   grind
 | n + 1,h=>by
   by_cases q:i=n + 1
   · subst q
     have e:aE (λj=>g (skp (n + 1) j)) (n + 1)=aE g (n + 1):=aC λk hk=>by unfold skp; rw [if_pos hk]
     rw [e,aE.eq_2 g (n + 1)]
     grind
   · rw [aE,lI g i n (by omega),aE.eq_2 g (n + 1)]
     have:skp i n=n + 1:=by unfold skp; rw [if_neg (by omega)]
     rw [this]
     grind
theorem sQ {n:Nat} {G:Nat->Nat->Rat} (h:∀ i < n,∀ j < n,G i j=-G j i):aE (λi=>aE (λj=>G i j) n) n=0:=by
 have e:aE (λi=>aE (λj=>G i j) n) n=-1 * aE (λi=>aE (λj=>G i j) n) n:=by
   conv=>lhs; rw [iD]
   rw [b7]
   refine aC λi hi=>?_
   rw [b7]
   refine aC λj hj=>?_
   rw [h j hj i hi]
   grind
 grind
theorem xE {i j r:Nat} (h:i < j):skp i (skp (j - 1) r)=skp j (skp i r):=by
 unfold skp
 split <;> split <;> (try split) <;> (try split) <;> omega
theorem oM:∀ {n:Nat} {M:Nat->Nat->Rat} {q:Nat},q + 1 < n->(∀ r < n,M r q=M r (q + 1))->det n M=0
 | 0,_,_,h,_=>absurd h (Nat.not_lt_zero _)
 | 1,_,_,h,_=>by omega
 | n + 2,M,q + 1,hq,h=>by
   rw [det]
   refine cA λi hi=>?_
   rw [oM (M:=minor M i) (q:=q) (by omega) λr hr=>h _ (mT hr),Rat.mul_zero]
 | n + 2,M,0,hq,h=>by
   let D:Nat->Nat->Rat:=λi j=>det n λr c=>M (skp i (skp j r)) (c + 2)
   let G:Nat->Nat->Rat:=λi j=>if i < j then -(sgn i * sgn j * M i 0 * M j 0 * D i (j - 1)) else if j < i then sgn i * sgn j * M i 0 * M j 0 * D i j else 0
   have inner:∀ i < n + 2,sgn i * M i 0 * det (n + 1) (minor M i)=aE (λj=>G i j) (n + 2):=λi hi=>by
     have e:aE (λj=>G i j) (n + 2)=aE (λj=>G i (skp i j)) (n + 1):=by
       have g0:G i i=0:=by simp only [G]; rw [if_neg (Nat.lt_irrefl i),if_neg (Nat.lt_irrefl i)]
       rw [lI (λj=>G i j) i (n + 1) (by omega),g0]
       grind
     rw [e,det,b7]
     refine aC λj hj=>?_
     have m0:minor M i j 0=M (skp i j) 0:=(h _ (mT hj)).symm
     have mm:det n (minor (minor M i) j)=D i j:=rfl
     rw [m0,mm]
     simp only [G]
     by_cases z:j < i
     · have s:skp i j=j:=by unfold skp; rw [if_pos z]
       rw [s,if_neg (by omega),if_pos z]
       grind
     · have s:skp i j=j + 1:=by unfold skp; rw [if_neg z]
       rw [s,if_pos (by omega),eW,show j + 1 - 1=j by omega]
       grind
   rw [det,aC inner]
   refine sQ λi hi j hj=>?_
   have sy:∀ {i j:Nat},i < j->D i (j - 1)=D j i:=λ{i j} z=>by
     simp only [D]
     congr 1
     funext r c
     rw [xE z]
   simp only [G]
   rcases Nat.lt_trichotomy i j with z | z | z
   · rw [if_pos z,if_neg (by omega),if_pos z,sy z]
     grind
   · subst z
     rw [if_neg (Nat.lt_irrefl _),if_neg (Nat.lt_irrefl _)]
     rfl
   · rw [if_neg (by omega),if_pos z,if_pos z,sy z]
     grind
theorem jW (n:Nat) (M:Nat->Nat->Rat):det n (λi j=>M j i)=det n M:=by
 have H:ML n λM=>det n λi j=>M j i:=by
   refine ⟨λ{M M'} e=>aD λi hi j hj=>e j hj i hi,λM p hp a b x y=>?_,λ{M p} hp e=>oM hp λr hr=>e r hr⟩
   exact jZ (λi j=>M j i) hp a b x y
 have u:=H.uniq M
 have i1:(det n λi j=>idQ j i)=1:=by
   rw [<- pR n]
   congr 1
   funext i j
   unfold idQ
   by_cases z:i=j
   · rw [if_pos z,if_pos z.symm]
   · rw [if_neg z,if_neg λy=>z y.symm]
 simp only [i1,Rat.mul_one] at u
 exact u
theorem dU (m:Nat):∀ (k:Nat) (M:Nat->Nat->Rat),(∀ i,k<=i->i < k + m->∀ j < k,M i j=0)->det (k + m) M=det k M * det m λi j=>M (k + i) (k + j)
 | 0,M,_=>by
   rw [Nat.zero_add]
   show det m M=1 * _
   rw [Rat.one_mul]
   congr 1
   funext i j
   rw [Nat.zero_add,Nat.zero_add]
 | k + 1,M,h=>by
   have a:k + 1 + m=(k + m) + 1:=by omega
   rw [a,det,det,oR]
   have tail:∀ t,aE (λi=>sgn i * M i 0 * det (k + m) (minor M i)) (k + 1 + t)=aE (λi=>sgn i * M i 0 * det (k + m) (minor M i)) (k + 1)\/¬ t<=m:=by
     intro t
     induction t with
     | zero=>exact .inl rfl
     | succ t ih=>
       by_cases q:t + 1<=m
       · rcases ih with ih | ih
         · refine .inl ?_
           rw [show k + 1 + (t + 1)=(k + 1 + t) + 1 by omega,aE,ih,h (k + 1 + t) (by omega) (by omega) 0 (by omega)]
           grind
         · omega
       · exact .inr q
   rcases tail m with e | e
   · rw [show k + m + 1=k + 1 + m by omega,e]
     refine aC λi hi=>?_
     rw [dU m k (minor M i) λr h1 h2 c hc=>?_]
     · have:(λr c=>minor M i (k + r) (k + c))=λr c=>M (k + 1 + r) (k + 1 + c):=by
         funext r c
         unfold minor skp
         rw [if_neg (by omega),show k + r + 1=k + 1 + r by omega,show k + c + 1=k + 1 + c by omega]
       rw [this]
       grind
     · unfold minor skp
       rw [if_neg (by omega)]
       exact h _ (by omega) (by omega) _ (by omega)
   · exact absurd (Nat.le_refl m) e
theorem ju {n k:Nat} (d:Rat) (β:Nat->Nat->Rat) (M:Nat->Nat->Rat):∀ t,k + t<=n->det n (λi j=>if k<=i/\i < k + t then d * M i j + aE (λa=>β i a * M a j) k else M i j)=d ^ t * det n M
 | 0,_=>by
   rw [Rat.pow_zero,Rat.one_mul]
   congr 1
   funext i j
   have n0:¬ (k<=i/\i < k + 0):=by omega
   rw [if_neg n0]
 | t + 1,h=>by
   have ih:=ju (n:=n) (k:=k) d β M t (by omega)
   have c:=(fh n).comb (λi j=>if k<=i/\i < k + t then d * M i j + aE (λa=>β i a * M a j) k else M i j) (p:=k + t) (k:=k) (by omega) (by omega) d (β (k + t))
   rw [ih] at c
   rw [Rat.pow_succ,Rat.mul_comm (d ^ t) d,Rat.mul_assoc,<- c]
   congr 1
   funext i j
   unfold ar
   by_cases q:i=k + t
   · subst q
     have n1:¬ (k<=k + t/\k + t < k + t):=by omega
     have p1:k<=k + t/\k + t < k + (t + 1):=by omega
     rw [if_pos p1,if_pos rfl]
     dsimp only
     rw [if_neg n1]
     congr 1
     exact aC λa ha=>by
       have na:¬ (k<=a/\a < k + t):=by omega
       rw [if_neg na]
   · rw [if_neg q]
     dsimp only
     by_cases z:k<=i/\i < k + t
     · rw [if_pos (by omega),if_pos z]
     · rw [if_neg (by omega),if_neg z]
theorem vO {d:Rat} (h:d ≠ 0):∀ t:Nat,d ^ t ≠ 0
 | 0=>by rw [Rat.pow_zero]; exact λz=>by cases z
 | t + 1=>by
   rw [Rat.pow_succ]
   intro z
   rcases Rat.mul_eq_zero.mp z with y | y
   · exact vO h t y
   · exact h y
noncomputable def bm (Y:Nat->Nat->Rat) (k p q:Nat):Rat:=det (k + 1) λr c=>Y (if r < k then r else p) (if c < k then c else q)
noncomputable def bc (Y:Nat->Nat->Rat) (k p i:Nat):Rat:=det (k + 1) (ar (λr c=>Y (if c < k then c else p) r) k (idQ i))
theorem gU (M:Nat->Nat->Rat):det 1 M=M 0 0:=by
 show 0 + 1 * M 0 0 * 1=M 0 0
 grind
theorem wt (M:Nat->Nat->Rat):det 2 M=M 0 0 * M 1 1 - M 0 1 * M 1 0:=by
 show 0 + 1 * M 0 0 * det 1 (minor M 0) + -1 * M 1 0 * det 1 (minor M 1)=_
 rw [gU,gU]
 show 0 + 1 * M 0 0 * M 1 1 + -1 * M 1 0 * M 0 1=_
 grind
section
variable {Y:Nat->Nat->Rat} {k p q:Nat}
theorem uC:bm Y k p q=det k Y * Y p q + aE (λi=>bc Y k p i * Y i q) k:=by
 have e:bm Y k p q=det (k + 1) (ar (λr c=>Y (if c < k then c else p) r) k λr=>aE (λc=>Y (if c < k then c else p) q * idQ c r) (k + 1)):=by
   unfold bm
   rw [<- jW]
   refine aD λi hi j hj=>?_
   unfold ar
   by_cases z:i=k
   · subst z
     rw [if_pos rfl,if_neg (Nat.lt_irrefl _)]
     exact (cT (λc=>Y (if c < i then c else p) q) j (i + 1) hj).symm
   · rw [if_neg z,if_pos (show i < k by omega)]
 have last:det (k + 1) (ar (λr c=>Y (if c < k then c else p) r) k (idQ k))=det k Y:=by
   rw [dU 1 k _ λi h1 h2 j hj=>?_,gU]
   · have e1:ar (λr c=>Y (if c < k then c else p) r) k (idQ k) (k + 0) (k + 0)=1:=by
       unfold ar idQ
       rw [if_pos (Nat.add_zero k),if_pos (Nat.add_zero k).symm]
     rw [e1,Rat.mul_one,<- jW]
     refine aD λi hi j hj=>?_
     unfold ar
     rw [if_neg (by omega)]
     dsimp only
     rw [if_pos hi]
   · have:i=k:=by omega
     subst this
     unfold ar idQ
     rw [if_pos rfl,if_neg (by omega)]
 rw [e,(fh (k + 1)).sum _ (Nat.lt_succ_self k),aE,last,if_neg (Nat.lt_irrefl _),Rat.add_comm,Rat.mul_comm (Y p q)]
 congr 1
 exact aC λi hi=>by rw [if_pos hi,Rat.mul_comm]; rfl
theorem qX (h:q < k):bm Y k p q=0:=by
 unfold bm
 rw [<- jW]
 refine (fh (k + 1)).same (p:=q) (q:=k) (by omega) (by omega) (by omega) ?_
 funext r
 rw [if_pos h,if_neg (Nat.lt_irrefl _)]
theorem wQ:bm Y k k k=det (k + 1) Y:=by
 refine aD λi hi j hj=>?_
 have:∀ r,r < k + 1->(if r < k then r else k)=r:=λr hr=>by split <;> omega
 rw [this i hi,this j hj]
theorem w8 {i j:Nat} (h0:det k Y ≠ 0):det k Y * bm Y (k + 1) i j=bm Y k k k * bm Y k i j - bm Y k k j * bm Y k i k:=by
 let W:Nat->Nat->Rat:=λr c=>Y (if r < k + 1 then r else i) (if c < k + 1 then c else j)
 have e:=ju (n:=k + 2) (k:=k) (det k Y) (λr a=>bc Y k (if r < k + 1 then r else i) a) W 2 (Nat.le_refl _)
 have ent:∀ r c,(if k<=r/\r < k + 2 then det k Y * W r c + aE (λa=>bc Y k (if r < k + 1 then r else i) a * W a c) k else W r c)=if k<=r/\r < k + 2 then bm Y k (if r < k + 1 then r else i) (if c < k + 1 then c else j) else W r c:=λr c=>by
   by_cases z:k<=r/\r < k + 2
   · rw [if_pos z,if_pos z,uC]
     congr 1
     exact aC λa ha=>by simp only [W]; rw [if_pos (show a < k + 1 by omega)]
   · rw [if_neg z,if_neg z]
 simp only [ent] at e
 rw [dU 2 k _ λr h1 h2 c hc=>?_,wt] at e
 · have a0:k<=k + 0/\k + 0 < k + 2:=by omega
   have a1:k<=k + 1/\k + 1 < k + 2:=by omega
   have b0:k + 0 < k + 1:=by omega
   have b1:¬ k + 1 < k + 1:=by omega
   rw [if_pos a0,if_pos a1,if_pos a0,if_pos a1,if_pos b0,if_neg b1,if_pos b0,if_neg b1,Nat.add_zero] at e
   have dk:(det k λr c=>if k<=r/\r < k + 2 then bm Y k (if r < k + 1 then r else i) (if c < k + 1 then c else j) else W r c)=det k Y:=aD λr hr c hc=>by
     rw [if_neg (by omega)]
     simp only [W]
     rw [if_pos (by omega),if_pos (by omega)]
   rw [dk] at e
   have dw:det (k + 2) W=bm Y (k + 1) i j:=rfl
   rw [dw] at e
   have c:=Rat.inv_mul_cancel (det k Y) h0
   have p2:det k Y ^ 2=det k Y * det k Y:=by rw [Rat.pow_succ,Rat.pow_succ,Rat.pow_zero,Rat.one_mul]
   rw [p2] at e
   have e2:(det k Y)⁻¹ * (det k Y * det k Y * bm Y (k + 1) i j)=(det k Y)⁻¹ * (det k Y * (bm Y k k k * bm Y k i j - bm Y k k j * bm Y k i k)):=congrArg _ e.symm
   rw [Rat.mul_assoc,<- Rat.mul_assoc,c,Rat.one_mul,<- Rat.mul_assoc,c,Rat.one_mul] at e2
   exact e2
 · rw [if_pos ⟨h1,h2⟩,if_pos (show c < k + 1 by omega)]
   exact qX hc
theorem wG {n:Nat} (h0:det k Y ≠ 0) (hk:k < n) (h:∀ p,k<=p->p < n->bm Y k p k=0):det n Y=0:=by
 have e:=ju (n:=n) (k:=k) (det k Y) (λr a=>bc Y k r a) Y (n - k) (by omega)
 have ent:∀ r c,(if k<=r/\r < k + (n - k) then det k Y * Y r c + aE (λa=>bc Y k r a * Y a c) k else Y r c)=if k<=r/\r < k + (n - k) then bm Y k r c else Y r c:=λr c=>by
   by_cases z:k<=r/\r < k + (n - k)
   · rw [if_pos z,if_pos z,uC]
   · rw [if_neg z,if_neg z]
 simp only [ent] at e
 have z:(det n λr c=>if k<=r/\r < k + (n - k) then bm Y k r c else Y r c)=0:=by
   obtain ⟨m,hm⟩:∃ m,n=k + (m + 1):=⟨n - k - 1,by omega⟩
   subst hm
   rw [dU (m + 1) k _ λr h1 h2 c hc=>?_]
   · have:det (m + 1) (λi j=>if k<=k + i/\k + i < k + (k + (m + 1) - k) then bm Y k (k + i) (k + j) else Y (k + i) (k + j))=0:=by
       rw [det]
       refine cA λi hi=>?_
       rw [if_pos (by omega),Nat.add_zero,h (k + i) (by omega) (by omega)]
       grind
     rw [this,Rat.mul_zero]
   · rw [if_pos (by omega)]
     exact qX hc
 rw [z] at e
 rcases Rat.mul_eq_zero.mp e.symm with y | y
 · exact absurd y (vO h0 _)
 · exact y
noncomputable def rho (k m r:Nat):Nat:=if r < k then r else if r=k then k + m else if r<=k + m then r - 1 else r
theorem m9 {n:Nat}:∀ (m:Nat) (Y:Nat->Nat->Rat),k + m < n->(det n λr=>Y (rho k m r))=sgn m * det n Y
 | 0,Y,_=>by
   have:(λr=>Y (rho k 0 r))=Y:=by
     funext r
     congr 1
     unfold rho
     split
     · rfl
     · split
       · omega
       · split <;> omega
   rw [this]
   show _=1 * _
   rw [Rat.one_mul]
 | m + 1,Y,h=>by
   have ih:=m9 (n:=n) m (ar (ar Y (k + m) (Y (k + m + 1))) (k + m + 1) (Y (k + m))) (by omega)
   have s:=(fh n).nb Y (p:=k + m) (by omega) (Y (k + m + 1)) (Y (k + m))
   rw [bG,bG] at s
   rw [s] at ih
   rw [eW]
   have e:(λr=>ar (ar Y (k + m) (Y (k + m + 1))) (k + m + 1) (Y (k + m)) (rho k m r))=λr=>Y (rho k (m + 1) r):=by
     funext r
     by_cases z:rho k m r=k + m + 1
     · rw [z,bU]
       congr 1
       unfold rho at z ⊢
       split at z
       · omega
       · split at z
         · omega
         · split at z
           · omega
           · rename_i a b c
             rw [if_neg a,if_neg b,if_pos (by omega)]
             omega
     · rw [bX z]
       by_cases y:rho k m r=k + m
       · rw [y,bU]
         congr 1
         unfold rho at y z ⊢
         split at y
         · omega
         · split at y
           · rename_i a b
             rw [if_neg a,if_pos b]
             omega
           · split at y
             · omega
             · omega
       · rw [bX y]
         congr 1
         unfold rho at y z ⊢
         split at y
         · rename_i a
           rw [if_pos a,if_pos a]
         · rename_i a
           rw [if_neg a] at z
           split at y
           · omega
           · rename_i b
             rw [if_neg b] at z
             rw [if_neg a,if_neg b,if_neg a,if_neg b]
             split at y
             · rename_i c
               rw [if_pos c,if_pos (by omega)]
             · rename_i c
               rw [if_neg c] at z
               rw [if_neg c,if_neg (by omega)]
   rw [e] at ih
   rw [ih]
   grind
theorem zq {m:Nat}:bm (λr=>Y (rho k m r)) k p q=bm Y k (rho k m p) q:=by
 refine aD λr hr c hc=>?_
 dsimp only
 congr 1
 by_cases z:r < k
 · rw [if_pos z,if_pos z]
   unfold rho
   rw [if_pos z]
 · rw [if_neg z,if_neg z]
theorem k6 {m:Nat}:(det k λr=>Y (rho k m r))=det k Y:=aD λr hr c hc=>by
 unfold rho
 rw [if_pos hr]
end
noncomputable def ZB (b:Nat) (x:Rat):Prop:=∃ z:Int,x=(z:Rat)/\z.natAbs<=2 ^ b
theorem ZB.mono {b c:Nat} {x:Rat} (h:ZB b x) (hc:b<=c):ZB c x:=by
 obtain ⟨z,e,l⟩:=h
 exact ⟨z,e,Nat.le_trans l (Nat.pow_le_pow_right (by decide) hc)⟩
theorem ZB.mul {b c:Nat} {x y:Rat} (h:ZB b x) (g:ZB c y):ZB (b + c) (x * y):=by
 obtain ⟨u,rfl,l⟩:=h
 obtain ⟨v,rfl,k⟩:=g
 exact ⟨u * v,(Rat.intCast_mul u v).symm,by rw [Int.natAbs_mul,Nat.pow_add]; exact Nat.mul_le_mul l k⟩
theorem ZB.sgn (i:Nat):ZB 0 (sgn i):=by
 show ZB 0 (if i % 2=0 then 1 else -1)
 split
 · exact ⟨1,rfl,by decide⟩
 · exact ⟨-1,rfl,by decide⟩
theorem ZB.sum {b:Nat} {f:Nat->Rat}:∀ {n:Nat},(∀ i < n,ZB b (f i))->∃ z:Int,aE f n=(z:Rat)/\z.natAbs<=n * 2 ^ b
 | 0,_=>⟨0,rfl,Nat.zero_le _⟩
 | n + 1,h=>by
   obtain ⟨u,e,l⟩:=ZB.sum λi hi=>h i (Nat.lt_succ_of_lt hi)
   obtain ⟨v,e',l'⟩:=h n (Nat.lt_succ_self n)
   refine ⟨u + v,by rw [aE,e,e',Rat.intCast_add],?_⟩
   rw [Nat.succ_mul]
   exact Nat.le_trans (Int.natAbs_add_le _ _) (Nat.add_le_add l l')
theorem xi {b:Nat}:∀ {n:Nat} {M:Nat->Nat->Rat},n<=8->(∀ i < n,∀ j < n,ZB b (M i j))->ZB (n * (b + 3)) (det n M)
 | 0,_,_,_=>⟨1,rfl,Nat.one_le_two_pow⟩
 | n + 1,M,hn,h=>by
   obtain ⟨z,e,l⟩:=ZB.sum (b:=b + n * (b + 3)) (f:=λi=>sgn i * M i 0 * det n (minor M i)) (n:=n + 1) λi hi=>by
     have:=((ZB.sgn i).mul (h i hi 0 (by omega))).mul (xi (n:=n) (M:=minor M i) (by omega) λr hr c hc=>h _ (mT hr) _ (by omega))
     exact this.mono (by omega)
   refine ⟨z,e,Nat.le_trans l ?_⟩
   rw [show (n + 1) * (b + 3)=3 + (b + n * (b + 3)) by rw [Nat.succ_mul]; omega,Nat.pow_add 2 3]
   exact Nat.mul_le_mul_right _ (by omega)
noncomputable def fR (s:Nat->Rat):Nat->Rat
 | 0=>1
 | n + 1=>fR s n * s n
theorem ir {n:Nat} (s:Nat->Rat) (M:Nat->Nat->Rat):∀ t,t<=n->det n (λi j=>if i < t then s i * M i j else M i j)=fR s t * det n M
 | 0,_=>by
   rw [fR,Rat.one_mul]
   exact aD λi _ j _=>if_neg (Nat.not_lt_zero _)
 | t + 1,h=>by
   have ih:=ir (n:=n) s M t (by omega)
   have c:=(fh n).comb (λi j=>if i < t then s i * M i j else M i j) (p:=t) (k:=0) (by omega) (Nat.zero_le _) (s t) (λ_=>0)
   rw [ih] at c
   rw [fR,Rat.mul_comm (fR s t),Rat.mul_assoc,<- c]
   refine aD λi _ j _=>?_
   unfold ar
   by_cases q:i=t
   · subst q
     rw [if_pos (Nat.lt_succ_self i),if_pos rfl]
     dsimp only
     rw [if_neg (Nat.lt_irrefl i)]
     show _=_ + 0
     rw [Rat.add_zero]
   · rw [if_neg q]
     dsimp only
     by_cases z:i < t
     · rw [if_pos (by omega),if_pos z]
     · rw [if_neg (by omega),if_neg z]
noncomputable def ql (k:Int) (j:Nat):Bool:=decide (Builtin.bitAnd (k / 2 ^ j) 1=1)
noncomputable def jx (k:Int) (j:Nat):Int:=Builtin.bitOr k (1 * 2 ^ j)
noncomputable def sgZ (b:Int):Int:=1 - 2 * b.fmod 2
noncomputable def jj (row:List Int) (k v:Int) (j:Nat) (s:Int × List (Int × Int)):Int × List (Int × Int):=
 if ql k j then (s.1 + 1,s.2) else (s.1,eO s.2 (jx k j) ((bA s.2 (jx k j)).getD 0 + sgZ s.1 * row.getD j 0 * v))
noncomputable def bY (n:Nat) (row:List Int) (k v:Int) (kv:List (Int × Int)):Nat->Int × List (Int × Int)
 | 0=>(0,kv)
 | c + 1=>jj row k v (n - 1 - c) (bY n row k v kv c)
noncomputable def ba (n:Nat) (row:List Int) (kv:List (Int × Int)):Nat->List (Int × Int)
 | 0=>[]
 | t + 1=>(bY n row (kv.getD t (0,0)).1 ((bA kv (kv.getD t (0,0)).1).getD 0) (ba n row kv t) n).2
theorem vg (m:Nat) (Y:Nat->Nat->Rat):det (m + 1) Y=aE (λc=>sgn (m + c) * Y m c * det m λr q=>Y r (skp c q)) (m + 1):=by
 have e1:=m9 (k:=0) (n:=m + 1) m Y (by omega)
 have e2:=jW (m + 1) λr=>Y (rho 0 m r)
 rw [det] at e2
 have r0:rho 0 m 0=m:=by unfold rho; rw [if_neg (by omega),if_pos rfl]; omega
 have rs:∀ r,r < m->rho 0 m (r + 1)=r:=λr hr=>by
   unfold rho
   rw [if_neg (by omega),if_neg (by omega),if_pos (by omega)]
   omega
 have e3:aE (λc=>sgn c * Y m c * det m λr q=>Y r (skp c q)) (m + 1)=sgn m * det (m + 1) Y:=by
   rw [<- e1,<- e2]
   refine aC λc _=>?_
   rw [r0,<- jW m]
   congr 1
   exact aD λr hr q hq=>by
     unfold minor
     dsimp only
     rw [rs q hq]
 have sm:∀ c,sgn (m + c)=sgn m * sgn c:=λc=>by
   induction c with
   | zero=>rw [Nat.add_zero,show sgn 0=1 from rfl,Rat.mul_one]
   | succ c ih=>rw [<- Nat.add_assoc,eW,ih,eW]; grind
 have:aE (λc=>sgn (m + c) * Y m c * det m λr q=>Y r (skp c q)) (m + 1)=sgn m * aE (λc=>sgn c * Y m c * det m λr q=>Y r (skp c q)) (m + 1):=by
   rw [b7]
   refine aC λc _=>?_
   rw [sm]
   grind
 rw [this,e3,<- Rat.mul_assoc,Aq,Rat.one_mul]
noncomputable def cN (M:Nat->Nat->Rat) (L:List Nat):Rat:=det L.length λr c=>M r (L.getD c 0)
theorem kb {M:Nat->Nat->Rat} {L:List Nat} {m:Nat} (h:L.length=m + 1):cN M L=aE (λc=>sgn (m - c) * M m (L.getD c 0) * cN M (L.eraseIdx c)) (m + 1):=by
 unfold cN
 rw [h,vg]
 refine aC λc hc=>?_
 have e1:sgn (m + c)=sgn (m - c):=by
   unfold sgn
   by_cases z:(m + c) % 2=0
   · rw [if_pos z,if_pos (by omega)]
   · rw [if_neg z,if_neg (by omega)]
 have e2:(L.eraseIdx c).length=m:=by rw [List.length_eraseIdx_of_lt (by omega)]; omega
 rw [e1,e2]
 refine congrArg (λx=>sgn (m - c) * M m (L.getD c 0) * x) (aD λr _ q hq=>?_)
 rw [List.getD_eq_getElem?_getD,List.getD_eq_getElem?_getD,List.getElem?_eraseIdx]
 unfold skp
 split <;> rfl
noncomputable def cols (n S:Nat):List Nat:=(List.range n).filter λj=>S.testBit j
theorem oO {n S j:Nat}:j ∈ cols n S ↔ j < n/\S.testBit j=true:=by
 unfold cols
 rw [List.mem_filter,List.mem_range]
theorem xj {n S j:Nat} (hj:j < n) (h:S.testBit j=false):cols n (S ||| 2 ^ j)=(cols j S)++j :: ((List.range (n - (j + 1))).map (j + 1 + ·)).filter (λk=>S.testBit k):=by
 unfold cols
 obtain ⟨d,rfl⟩:=Nat.exists_eq_add_of_le (show j + 1<=n from hj)
 rw [List.range_add,List.range_succ,List.filter_append,List.filter_append,show j + 1 + d - (j + 1)=d by omega,List.append_assoc]
 have lo:(List.range j).filter (λk=>(S ||| 2 ^ j).testBit k)=(List.range j).filter λk=>S.testBit k:=List.filter_congr λk hk=>by
   have:=List.mem_range.mp hk
   rw [Nat.testBit_or,Nat.testBit_two_pow_of_ne (by omega),Bool.or_false]
 have hi:((List.range d).map (j + 1 + ·)).filter (λk=>(S ||| 2 ^ j).testBit k)=((List.range d).map (j + 1 + ·)).filter λk=>S.testBit k:=List.filter_congr λk hk=>by
   obtain ⟨q,_,rfl⟩:=List.mem_map.mp hk
   rw [Nat.testBit_or,Nat.testBit_two_pow_of_ne (by omega),Bool.or_false]
 rw [lo,hi,List.filter_cons_of_pos (by rw [Nat.testBit_or,Nat.testBit_two_pow_self,Bool.or_true]),List.filter_nil]
 rfl
noncomputable def above (n j S:Nat):List Nat:=((List.range (n - (j + 1))).map (j + 1 + ·)).filter λk=>S.testBit k
theorem pJ {n S j:Nat} (hj:j < n) (h:S.testBit j=false):cols n S=cols j S++above n j S:=by
 unfold cols above
 obtain ⟨d,rfl⟩:=Nat.exists_eq_add_of_le (show j + 1<=n from hj)
 rw [List.range_add,List.range_succ,List.filter_append,List.filter_append,show j + 1 + d - (j + 1)=d by omega,List.filter_cons_of_neg (by rw [h]; decide),List.filter_nil,List.append_nil]
theorem jB {n S j:Nat} (hj:j < n) (h:S.testBit j=false):(cols n (S ||| 2 ^ j)).length=(cols n S).length + 1/\(cols n (S ||| 2 ^ j)).getD (cols j S).length 0=j/\(cols n (S ||| 2 ^ j)).eraseIdx (cols j S).length=cols n S/\(cols n S).length - (cols j S).length=(above n j S).length/\(cols j S).length<=(cols n S).length:=by
 rw [xj hj h,pJ hj h]
 refine ⟨by simp only [List.length_append,List.length_cons]; rfl,?_,?_,by rw [List.length_append]; omega,by rw [List.length_append]; omega⟩
 · rw [List.getD_eq_getElem?_getD,List.getElem?_append_right (Nat.le_refl _),Nat.sub_self]
   rfl
 · rw [List.eraseIdx_append_of_length_le (Nat.le_refl _),Nat.sub_self]
   rfl
theorem tI (n S:Nat):cols (n + 1) S=if S.testBit n then cols n S++[n] else cols n S:=by
 unfold cols
 rw [List.range_succ,List.filter_append]
 cases h:S.testBit n with
 | true=>rw [List.filter_cons_of_pos h,List.filter_nil,if_pos rfl]
 | false=>rw [List.filter_cons_of_neg (by rw [h]; decide),List.filter_nil,List.append_nil,if_neg (by decide)]
theorem oY (G:Nat->Nat->Rat) (S:Nat):∀ n,aE (λc=>G c ((cols n S).getD c 0)) (cols n S).length=aE (λj=>if S.testBit j then G (cols j S).length j else 0) n
 | 0=>rfl
 | n + 1=>by
   rw [tI,aE,<- oY G S n]
   cases h:S.testBit n with
   | true=>
     rw [if_pos rfl,if_pos rfl,List.length_append,List.length_singleton,aE]
     have e1:(cols n S++[n]).getD (cols n S).length 0=n:=by
       rw [List.getD_eq_getElem?_getD,List.getElem?_append_right (Nat.le_refl _),Nat.sub_self]
       rfl
     rw [e1]
     refine congrArg (· + G (cols n S).length n) (aC λc hc=>?_)
     rw [List.getD_eq_getElem?_getD,List.getElem?_append_left hc,<- List.getD_eq_getElem?_getD]
   | false=>rw [if_neg (by decide),if_neg (by decide),Rat.add_zero]
theorem gL {S j:Nat} (h:S.testBit j=true):(S ^^^ 2 ^ j).testBit j=false/\(S ^^^ 2 ^ j) ||| 2 ^ j=S/\∀ k,k ≠ j->(S ^^^ 2 ^ j).testBit k=S.testBit k:=by
 have a:∀ k,k ≠ j->(S ^^^ 2 ^ j).testBit k=S.testBit k:=λk hk=>by rw [Nat.testBit_xor,Nat.testBit_two_pow_of_ne (Ne.symm hk),Bool.xor_false]
 have b:(S ^^^ 2 ^ j).testBit j=false:=by rw [Nat.testBit_xor,Nat.testBit_two_pow_self,h]; rfl
 refine ⟨b,Nat.eq_of_testBit_eq λk=>?_,a⟩
 rw [Nat.testBit_or]
 by_cases z:k=j
 · subst z
   rw [Nat.testBit_two_pow_self,Bool.or_true,h]
 · rw [a k z,Nat.testBit_two_pow_of_ne (Ne.symm z),Bool.or_false]
theorem tG {M:Nat->Nat->Rat} {n m S:Nat} (h:(cols n S).length=m + 1):cN M (cols n S)=aE (λj=>if S.testBit j then sgn (above n j S).length * M m j * cN M (cols n (S ^^^ 2 ^ j)) else 0) n:=by
 rw [kb h,<- h,oY (λc j=>sgn (m - c) * M m j * cN M ((cols n S).eraseIdx c)) S n]
 refine aC λj hj=>?_
 cases hb:S.testBit j with
 | false=>rfl
 | true=>
   rw [if_pos rfl,if_pos rfl]
   obtain ⟨b1,b2,b3⟩:=gL hb
   obtain ⟨c1,c2,c3,c4,c5⟩:=jB hj b1
   rw [b2] at c1 c2 c3
   have l1:cols j (S ^^^ 2 ^ j)=cols j S:=List.filter_congr λk hk=>b3 k (by have:=List.mem_range.mp hk; omega)
   have l2:above n j (S ^^^ 2 ^ j)=above n j S:=List.filter_congr λk hk=>by
     obtain ⟨q,_,rfl⟩:=List.mem_map.mp hk
     exact b3 _ (by omega)
   rw [l1] at c3 c4
   rw [l2] at c4
   rw [c3,<- c4,show (cols n (S ^^^ 2 ^ j)).length=m by omega]
theorem yN (S j:Nat):ql (S:Int) j=S.testBit j:=by
 unfold ql
 have e:(S:Int) / 2 ^ j=((S / 2 ^ j:Nat):Int):=by simp
 rw [e,PyProof.Rows.bitAnd_pp (Int.natCast_nonneg _) (by decide),Int.toNat_natCast,Nat.testBit_eq_decide_div_mod_eq]
 have:(S / 2 ^ j) &&& (1:Int).toNat=S / 2 ^ j % 2:=by show (S / 2 ^ j) &&& 1=_; rw [Nat.and_one_is_mod]
 rw [this]
 congr 1
 rw [eq_iff_iff]
 omega
theorem Ce (S j:Nat):jx (S:Int) j=((S ||| 2 ^ j:Nat):Int):=by
 unfold jx
 have e:(1:Int) * 2 ^ j=((2 ^ j:Nat):Int):=by simp
 rw [e]
 generalize 2 ^ j=y
 unfold Builtin.bitOr
 have h1:¬ (0<=Builtin.bitNot (S:Int)):=by unfold Builtin.bitNot; omega
 have h2:¬ (0<=Builtin.bitNot (y:Int)):=by unfold Builtin.bitNot; omega
 rw [PyProof.Rows.bitAnd_nn h1 h2]
 have h3:∀ x:Int,Builtin.bitNot (Builtin.bitNot x)=x:=λx=>by unfold Builtin.bitNot; omega
 rw [h3,h3,h3,Int.toNat_natCast,Int.toNat_natCast]
theorem Df (k:Nat):((sgZ (k:Int):Int):Rat)=sgn k:=by
 unfold sgZ sgn
 rw [Int.fmod_eq_emod_of_nonneg _ (by decide)]
 by_cases h:k % 2=0
 · rw [if_pos h,show (k:Int) % 2=0 by omega]; rfl
 · rw [if_neg h,show (k:Int) % 2=1 by omega]; rfl
theorem mP (kv:List (Int × Int)) (k v j:Int):bA (eO kv k v) j=if j=k then some v else bA kv j:=by
 have e:=uR (Ev.b9 kv) (Sum.inl k) (Sum.inl j) (V.int v)
 rw [rO,gO,gO] at e
 by_cases h:j=k
 · rw [if_pos (congrArg Sum.inl h)] at e
   rw [if_pos h]
   cases z:bA (eO kv k v) j with
   | none=>rw [z] at e; cases e
   | some x=>rw [z] at e; cases e; rfl
 · rw [if_neg (λz=>h (Sum.inl.inj z))] at e
   rw [if_neg h]
   cases z:bA (eO kv k v) j <;> cases z':bA kv j <;> rw [z,z'] at e <;> cases e <;> rfl
theorem oD (kv:List (Int × Int)) (k v:Int):(eO kv k v).map (·.1)=if (kv.any λp=>decide (p.1=k))=true then kv.map (·.1) else kv.map (·.1)++[k]:=by
 unfold eO
 split
 · rw [List.map_map]
   refine List.map_congr_left λp _=>?_
   simp only [Function.comp]
   split <;> rfl
 · rw [List.map_append]; rfl
theorem zK {kv:List (Int × Int)} {k v:Int} (h:(kv.map (·.1)).Nodup):((eO kv k v).map (·.1)).Nodup:=by
 rw [oD]
 split
 · exact h
 · rename_i z
   rw [List.nodup_append]
   refine ⟨h,by simp,λa ha b hb e=>z ?_⟩
   obtain ⟨p,hp,rfl⟩:=List.mem_map.mp ha
   rw [List.mem_singleton] at hb
   exact List.any_eq_true.mpr ⟨p,hp,decide_eq_true (e.trans hb)⟩
theorem xT {kv:List (Int × Int)} {k v x:Int} (h:x ∈ (eO kv k v).map (·.1)):x=k\/x ∈ kv.map (·.1):=by
 rw [oD] at h
 split at h
 · exact .inr h
 · rcases List.mem_append.mp h with h | h
   · exact .inr h
   · exact .inl (List.mem_singleton.mp h)
theorem vU:∀ {kv:List (Int × Int)} {q:Int × Int},(kv.map (·.1)).Nodup->q ∈ kv->bA kv q.1=some q.2
 | p :: t,q,h,hq=>by
   rw [List.map_cons,List.nodup_cons] at h
   unfold bA
   by_cases z:p.1=q.1
   · rw [List.find?_cons_of_pos (by simp [z])]
     rcases List.mem_cons.mp hq with e | hq
     · rw [e]; rfl
     · exact absurd (List.mem_map.mpr ⟨q,hq,z.symm⟩) h.1
   · rw [List.find?_cons_of_neg (by simp [z])]
     rcases List.mem_cons.mp hq with e | hq
     · exact absurd (by rw [e]) z
     · exact vU h.2 hq
theorem u3:∀ {kv:List (Int × Int)} {k v:Int},bA kv k=some v->(k,v) ∈ kv
 | p :: t,k,v,h=>by
   unfold bA at h
   by_cases z:p.1=k
   · rw [List.find?_cons_of_pos (by simp [z])] at h
     cases h
     rw [<- z]
     exact List.mem_cons_self ..
   · rw [List.find?_cons_of_neg (by simp [z])] at h
     exact List.mem_cons_of_mem _ (u3 h)
noncomputable def gv (kv:List (Int × Int)) (k:Int):Rat:=(((bA kv k).getD 0:Int):Rat)
theorem Ar (kv:List (Int × Int)) (k j x:Int):gv (eO kv k ((bA kv k).getD 0 + x)) j=gv kv j + if j=k then (x:Rat) else 0:=by
 unfold gv
 rw [mP]
 by_cases h:j=k
 · rw [if_pos h,if_pos h,h,Option.getD_some,Rat.intCast_add]
 · rw [if_neg h,if_neg h,Rat.add_zero]
theorem pK {n j S:Nat} (h:j + 1 < n):(above n j S).length=(if S.testBit (j + 1) then 1 else 0) + (above n (j + 1) S).length:=by
 unfold above
 obtain ⟨d,rfl⟩:=Nat.exists_eq_add_of_le (show j + 2<=n from h)
 rw [show j + 2 + d - (j + 1)=d + 1 by omega,show j + 2 + d - (j + 1 + 1)=d by omega,List.range_succ_eq_map,List.map_cons,List.map_map,List.filter_cons]
 have e:(List.range d).map ((j + 1 + ·) ∘ Nat.succ)=(List.range d).map (j + 1 + 1 + ·):=List.map_congr_left λk _=>by simp only [Function.comp]; omega
 rw [e,Nat.add_zero]
 split
 · rw [List.length_cons]; omega
 · omega
theorem pG {n S:Nat}:(above (n + 1) n S).length=0:=by
 unfold above
 rw [show n + 1 - (n + 1)=0 by omega]
 rfl
theorem jz (g:Nat->Rat):∀ n,aE g (n + 1)=g 0 + aE (λk=>g (k + 1)) n
 | 0=>by simp only [aE,Rat.add_zero,Rat.zero_add]
 | n + 1=>by
   rw [aE,jz g n,aE,Rat.add_assoc]
theorem oq (f:Nat->Rat):∀ n,aE (λt=>f (n - 1 - t)) n=aE f n
 | 0=>rfl
 | n + 1=>by
   rw [jz,aE,Rat.add_comm,show n + 1 - 1 - 0=n by omega,<- oq f n]
   refine congrArg (· + f n) (aC λk hk=>?_)
   rw [show n + 1 - 1 - (k + 1)=n - 1 - k by omega]
noncomputable def pC (n S:Nat):Nat->Nat
 | 0=>0
 | c + 1=>pC n S c + if S.testBit (n - 1 - c) then 1 else 0
theorem lC {n S:Nat}:∀ c,c < n->pC n S c=(above n (n - 1 - c) S).length
 | 0,h=>by
   obtain ⟨m,rfl⟩:=Nat.exists_eq_succ_of_ne_zero (show n ≠ 0 by omega)
   rw [show m.succ - 1 - 0=m by omega,pG]
   rfl
 | c + 1,h=>by
   rw [pC,lC c (by omega),pK (n:=n) (j:=n - 1 - (c + 1)) (by omega),show n - 1 - (c + 1) + 1=n - 1 - c by omega]
   omega
noncomputable def evQ (n:Nat) (row:List Int) (S:Nat) (v:Rat) (T:Int) (j:Nat):Rat:=if S.testBit j then 0 else if T=((S ||| 2 ^ j:Nat):Int) then sgn (above n j S).length * ((row.getD j 0:Int):Rat) * v else 0
structure CI (n S:Nat) (row:List Int) (v:Int) (lk:List (Int × Int)) (c:Nat) (r:Int × List (Int × Int)):Prop where
 cnt:r.1=(pC n S c:Nat)
 val:∀ T,gv r.2 T=gv lk T + aE (λt=>evQ n row S v T (n - 1 - t)) c
 key:∀ x ∈ r.2.map (·.1),x ∈ lk.map (·.1)\/∃ j,j < n/\S.testBit j=false/\x=((S ||| 2 ^ j:Nat):Int)
 nd:(r.2.map (·.1)).Nodup
 old:∀ T,bA lk T ≠ none->bA r.2 T ≠ none
 new:∀ t < c,S.testBit (n - 1 - t)=false->bA r.2 ((S ||| 2 ^ (n - 1 - t):Nat):Int) ≠ none
theorem qY {n S:Nat} {row:List Int} {v:Int} {lk:List (Int × Int)} (hn:(lk.map (·.1)).Nodup):∀ c,c<=n->CI n S row v lk c (bY n row (S:Int) v lk c)
 | 0,_=>⟨rfl,λT=>by rw [aE,Rat.add_zero]; rfl,λx h=>.inl h,hn,λ_ h=>h,λt h=>by omega⟩
 | c + 1,hc=>by
   obtain ⟨h1,h2,h3,h4,h5,h6⟩:=qY (n:=n) (S:=S) (row:=row) (v:=v) hn c (by omega)
   rw [bY,jj,yN,Ce]
   generalize bY n row (S:Int) v lk c=r at h1 h2 h3 h4 h5 h6 ⊢
   cases hb:S.testBit (n - 1 - c) with
   | true=>
     rw [if_pos rfl]
     refine ⟨by dsimp only; rw [h1,pC,hb,if_pos rfl]; omega,λT=>?_,h3,h4,h5,λt ht hf=>?_⟩
     · rw [aE,evQ,if_pos hb,Rat.add_zero]; exact h2 T
     · rcases Nat.lt_or_ge t c with z | z
       · exact h6 t z hf
       · obtain rfl:t=c:=by omega
         rw [hb] at hf; cases hf
   | false=>
     rw [if_neg (by decide)]
     refine ⟨by dsimp only; rw [h1,pC,hb]; rfl,λT=>?_,λx hx=>?_,zK h4,λT hT=>?_,λt ht hf=>?_⟩
     · dsimp only
       have e:evQ n row S v T (n - 1 - c)=if T=((S ||| 2 ^ (n - 1 - c):Nat):Int) then sgn (pC n S c) * ((row.getD (n - 1 - c) 0:Int):Rat) * v else 0:=by
         unfold evQ
         rw [if_neg (by rw [hb]; decide),<- lC (n:=n) (S:=S) c (by omega)]
       rw [Ar,h2,aE,<- Rat.add_assoc,e,h1,Rat.intCast_mul,Rat.intCast_mul,Df]
     · rcases xT hx with e | e
       · exact .inr ⟨n - 1 - c,by omega,hb,e⟩
       · exact h3 x e
     · dsimp only
       rw [mP]
       split
       · exact nofun
       · exact h5 T hT
     · dsimp only
       rw [mP]
       split
       · exact nofun
       · rename_i z
         rcases Nat.lt_or_ge t c with y | y
         · exact h6 t y hf
         · obtain rfl:t=c:=by omega
           exact absurd rfl z
structure MI (n:Nat) (row:List Int) (Sf:Nat->Nat) (vf:Nat->Rat) (t:Nat) (r:List (Int × Int)):Prop where
 val:∀ T,gv r T=aE (λs=>aE (evQ n row (Sf s) (vf s) T) n) t
 key:∀ x ∈ r.map (·.1),∃ s < t,∃ j,j < n/\(Sf s).testBit j=false/\x=((Sf s ||| 2 ^ j:Nat):Int)
 nd:(r.map (·.1)).Nodup
 new:∀ s < t,∀ j < n,(Sf s).testBit j=false->bA r ((Sf s ||| 2 ^ j:Nat):Int) ≠ none
theorem nG {n:Nat} {row:List Int} {kv:List (Int × Int)} {Sf:Nat->Nat} (hS:∀ s < kv.length,(kv.getD s (0,0)).1=(Sf s:Int)):∀ t,t<=kv.length->MI n row Sf (λs=>gv kv (Sf s)) t (ba n row kv t)
 | 0,_=>⟨λT=>rfl,λx h=>by simp [ba] at h,by simp [ba],λs h=>by omega⟩
 | t + 1,ht=>by
   obtain ⟨h1,h2,h3,h4⟩:=nG (n:=n) (row:=row) hS t (by omega)
   rw [ba,hS t (by omega)]
   generalize ba n row kv t=r at h1 h2 h3 h4 ⊢
   obtain ⟨_,c2,c3,c4,c5,c6⟩:=qY (n:=n) (S:=Sf t) (row:=row) (v:=(bA kv (Sf t:Int)).getD 0) h3 n (Nat.le_refl _)
   refine ⟨λT=>?_,λx hx=>?_,c4,λs hs j hj hf=>?_⟩
   · rw [c2,h1,aE,oq (evQ n row (Sf t) _ T)]
     rfl
   · rcases c3 x hx with e | ⟨j,e⟩
     · obtain ⟨s,hs,e⟩:=h2 x e
       exact ⟨s,by omega,e⟩
     · exact ⟨t,by omega,j,e⟩
   · rcases Nat.lt_or_ge s t with z | z
     · exact c5 _ (h4 s z j hj hf)
     · obtain rfl:s=t:=by omega
       have:=c6 (n - 1 - j) (by omega)
       rw [show n - 1 - (n - 1 - j)=j by omega] at this
       exact this hf
structure RI (n i:Nat) (M:Nat->Nat->Rat) (kv:List (Int × Int)):Prop where
 key:∀ x ∈ kv.map (·.1),∃ S:Nat,x=(S:Int)/\S < 2 ^ n/\(cols n S).length=i
 nd:(kv.map (·.1)).Nodup
 all:∀ S:Nat,S < 2 ^ n->(cols n S).length=i->bA kv (S:Int) ≠ none/\gv kv (S:Int)=cN M (cols n S)
theorem ub {S T j:Nat} (h:S.testBit j=false) (e:T=S ||| 2 ^ j):T.testBit j=true/\S=T ^^^ 2 ^ j:=by
 have h1:T.testBit j=true:=by rw [e,Nat.testBit_or,Nat.testBit_two_pow_self,Bool.or_true]
 refine ⟨h1,Nat.eq_of_testBit_eq λk=>?_⟩
 obtain ⟨b1,_,b3⟩:=gL h1
 by_cases z:k=j
 · subst z; rw [h,b1]
 · rw [b3 k z,e,Nat.testBit_or,Nat.testBit_two_pow_of_ne (Ne.symm z),Bool.or_false]
theorem RI.step {n i:Nat} {M:Nat->Nat->Rat} {kv:List (Int × Int)} {row:List Int} (h:RI n i M kv) (hr:∀ j < n,((row.getD j 0:Int):Rat)=M i j):RI n (i + 1) M (ba n row kv kv.length):=by
 have hS:∀ s < kv.length,(kv.getD s (0,0)).1=((kv.getD s (0,0)).1.toNat:Int)/\(kv.getD s (0,0)).1.toNat < 2 ^ n/\(cols n (kv.getD s (0,0)).1.toNat).length=i:=λs hs=>by
   have hm:kv.getD s (0,0) ∈ kv:=by rw [List.getD_eq_getElem?_getD,List.getElem?_eq_getElem hs]; exact List.getElem_mem hs
   obtain ⟨S,e1,e2,e3⟩:=h.key _ (List.mem_map.mpr ⟨_,hm,rfl⟩)
   rw [e1,Int.toNat_natCast]
   exact ⟨rfl,e2,e3⟩
 obtain ⟨m1,m2,m3,m4⟩:=nG (n:=n) (row:=row) (kv:=kv) (Sf:=λs=>(kv.getD s (0,0)).1.toNat) (λs hs=>(hS s hs).1) kv.length (Nat.le_refl _)
 have off:∀ {T j:Nat},T < 2 ^ n->(cols n T).length=i + 1->j < n->T.testBit j=true->T ^^^ 2 ^ j < 2 ^ n/\(cols n (T ^^^ 2 ^ j)).length=i/\∃ s < kv.length,(kv.getD s (0,0)).1.toNat=T ^^^ 2 ^ j:=λ{T j} hT hl hj hb=>by
   obtain ⟨b1,b2,_⟩:=gL hb
   have l1:T ^^^ 2 ^ j < 2 ^ n:=Nat.xor_lt_two_pow hT (Nat.pow_lt_pow_right (by decide) hj)
   have l2:=(jB hj b1).1
   rw [b2,hl] at l2
   refine ⟨l1,by omega,?_⟩
   obtain ⟨q,_⟩:=h.all _ l1 (by omega)
   cases z:bA kv ((T ^^^ 2 ^ j:Nat):Int) with
   | none=>exact absurd z q
   | some v=>
     obtain ⟨s,hs⟩:=List.getElem?_of_mem (u3 z)
     refine ⟨s,(List.getElem?_eq_some_iff.mp hs).1,?_⟩
     rw [List.getD_eq_getElem?_getD,hs]
     show (((T ^^^ 2 ^ j:Nat):Int)).toNat=_
     rw [Int.toNat_natCast]
 refine ⟨λx hx=>?_,m3,λT hT hl=>⟨?_,?_⟩⟩
 · obtain ⟨s,hs,j,hj,hf,rfl⟩:=m2 x hx
   obtain ⟨_,e2,e3⟩:=hS s hs
   exact ⟨_,rfl,Nat.or_lt_two_pow e2 (Nat.pow_lt_pow_right (by decide) hj),by rw [(jB hj hf).1,e3]⟩
 · obtain ⟨j,hj⟩:=List.exists_mem_of_length_pos (l:=cols n T) (by omega)
   obtain ⟨hj,hb⟩:=oO.mp hj
   obtain ⟨_,_,s,hs,e⟩:=off hT hl hj hb
   obtain ⟨b1,b2,_⟩:=gL hb
   have:=m4 s hs j hj
   try dsimp only at this
   rw [e,b2] at this
   exact this b1
 · rw [m1,iD (λs j=>evQ n row (kv.getD s (0,0)).1.toNat (gv kv ((kv.getD s (0,0)).1.toNat:Int)) (T:Int) j) n kv.length,tG hl]
   refine aC λj hj=>?_
   cases hb:T.testBit j with
   | false=>
     rw [if_neg (by decide)]
     refine cA λs hs=>?_
     unfold evQ
     cases hf:(kv.getD s (0,0)).1.toNat.testBit j with
     | true=>rw [if_pos rfl]
     | false=>
       rw [if_neg (by decide),if_neg λz=>?_]
       have:=(ub hf (Int.ofNat.inj z)).1
       rw [hb] at this; cases this
   | true=>
     rw [if_pos rfl]
     obtain ⟨l1,l2,s0,hs0,e0⟩:=off hT hl hj hb
     obtain ⟨b1,b2,b3⟩:=gL hb
     have ea:above n j (T ^^^ 2 ^ j)=above n j T:=List.filter_congr λk hk=>by
       obtain ⟨q,_,rfl⟩:=List.mem_map.mp hk
       exact b3 _ (by omega)
     rw [<- (h.all _ l1 l2).2,<- hr j hj,<- ea,<- cT (λ_=>sgn (above n j (T ^^^ 2 ^ j)).length * ((row.getD j 0:Int):Rat) * gv kv ((T ^^^ 2 ^ j:Nat):Int)) s0 kv.length hs0]
     refine aC λs hs=>?_
     unfold evQ dq
     by_cases z:s=s0
     · subst z
       rw [e0,b1,b2,if_neg (by decide),if_pos rfl,if_pos rfl,Rat.mul_one]
     · rw [if_neg z,Rat.mul_zero]
       cases hf:(kv.getD s (0,0)).1.toNat.testBit j with
       | true=>rw [if_pos rfl]
       | false=>
         rw [if_neg (by decide),if_neg λy=>z ?_]
         have e1:=(ub hf (Int.ofNat.inj y)).2
         have e2:(kv.map (·.1))[s]?=(kv.map (·.1))[s0]?:=by
           have g:∀ s < kv.length,(kv.map (·.1))[s]?=some (kv.getD s (0,0)).1:=λs hs=>by
             rw [List.getElem?_map,List.getD_eq_getElem?_getD,List.getElem?_eq_getElem hs]; rfl
           rw [g s hs,g s0 hs0,(hS s hs).1,(hS s0 hs0).1,e1,e0]
         exact (List.getElem?_inj (by rw [List.length_map]; exact hs) h.nd).mp e2
theorem RI.zero (n:Nat) (M:Nat->Nat->Rat):RI n 0 M [(0,1)]:=by
 have c0:∀ S:Nat,S < 2 ^ n->(cols n S).length=0->S=0:=λS hS h=>Nat.eq_of_testBit_eq λk=>by
   rw [Nat.zero_testBit]
   rcases Nat.lt_or_ge k n with z | z
   · cases hb:S.testBit k with
     | false=>rfl
     | true=>
       have:=oO.mpr ⟨z,hb⟩
       rw [List.length_eq_zero_iff.mp h] at this
       cases this
   · exact Nat.testBit_lt_two_pow (Nat.lt_of_lt_of_le hS (Nat.pow_le_pow_right (by decide) z))
 refine ⟨λx hx=>⟨0,?_,Nat.two_pow_pos n,?_⟩,by simp,λS hS h=>?_⟩
 · simpa using hx
 · unfold cols
   rw [List.filter_eq_nil_iff.mpr λa _=>by rw [Nat.zero_testBit]; decide]
   rfl
 · obtain rfl:=c0 S hS h
   refine ⟨nofun,?_⟩
   rw [cN,h]
   rfl
section
variable {P:Program} {w:World} {K:PySem.W.Frag} {mg:Str->Option Value} {base:Heap} {k:Nat} {f:Addr} {fd:FuncData} {qual:Str}
end
noncomputable def mi (M:Nat->Nat->Rat) (k:Nat) (ρ γ:Nat->Nat):Rat:=det k λr c=>M (ρ r) (γ c)
noncomputable def k2 (Y:Nat->Nat->Rat) (s x y:Nat):Rat:=det (s + 2) λr c=>Y r (if c < s then c else if c=s then x else y)
noncomputable def Inc (k:Nat) (γ:Nat->Nat):Prop:=∀ i,i + 1 < k->γ i < γ (i + 1)
theorem Inc.lt {k:Nat} {γ:Nat->Nat} (h:Inc k γ):∀ (d i:Nat),i + d + 1 < k->γ i < γ (i + d + 1)
 | 0,i,hi=>h i hi
 | d + 1,i,hi=>Nat.lt_trans (h.lt d i (by omega)) (h (i + d + 1) hi)
theorem Inc.mono {k:Nat} {γ:Nat->Nat} (h:Inc k γ) {i j:Nat} (hij:i < j) (hj:j < k):γ i < γ j:=by
 have:=h.lt (j - i - 1) i (by omega)
 rwa [show i + (j - i - 1) + 1=j by omega] at this
theorem Inc.le {k l:Nat} {γ:Nat->Nat} (h:Inc k γ) (hl:l<=k):Inc l γ:=λi hi=>h i (by omega)
section
variable {P:Program} {w:World} {K:PySem.W.Frag} {mg:Str->Option Value} {base:Heap} {k:Nat} {f:Addr} {fd:FuncData} {qual:Str}
end
theorem Inc.ne {k:Nat} {γ:Nat->Nat} (h:Inc k γ) {i j:Nat} (hi:i < k) (hj:j < k) (ne:i ≠ j):γ i ≠ γ j:=by
 rcases Nat.lt_or_ge i j with z | z
 · have:=h.mono z hj; omega
 · have:=h.mono (show j < i by omega) hi; omega
theorem sN {n:Nat} {M:Nat->Nat->Rat} {p q:Nat} (hp:p < n) (hq:q < n) (hpq:p ≠ q) (e:∀ r,M r p=M r q):det n M=0:=by
 rw [<- jW]
 exact (fh n).same hp hq hpq (funext e)
section
variable {P:Program} {w:World} {K:PySem.W.Frag} {mg:Str->Option Value} {base:Heap} {k:Nat} {f:Addr} {fd:FuncData} {qual:Str}
end
noncomputable def j3:Int->List Int->List Int
 | _,[]=>[]
 | c,b :: r=>c.fmod b :: j3 (c.fdiv b) r
noncomputable def wx (c:Int) (bs:List Int):Int:=bs.foldl (λc b=>c.fdiv b) c
noncomputable def zg (c:Int) (k:Nat) (b:Int):Int:=(((((c * 48271 + (k:Int) * k * 69621 + (k:Int) * 16807 + 11).fmod 2147483647) * 40692 + c + 31 * (k:Int)).fmod 2147483399).fdiv 7).fmod b
noncomputable def xg (c:Int) (bs:List Int):List Int:=(List.range bs.length).map λk=>zg c k (bs.getD k 0)
noncomputable def nums (c:Int) (bs:List Int):List Int:=if (10:Int) ^ (18:Int).toNat<=xx c then j3 c bs else xg c bs
theorem lE:∀ (bs:List Int) (c b:Int),j3 c (bs++[b])=j3 c bs++[(wx c bs).fmod b]
 | [],_,_=>rfl
 | a :: bs,c,b=>by rw [List.cons_append,j3,j3,lE bs]; rfl
theorem jG:∀ (bs:List Int) (c:Int),(j3 c bs).length=bs.length
 | [],_=>rfl
 | _ :: bs,c=>congrArg (· + 1) (jG bs _)
theorem fB (c:Int) (bs:List Int):(nums c bs).length=bs.length:=by
 unfold nums
 split
 · exact jG bs c
 · simp [xg]
theorem rq:∀ (bs:List Int) (c:Int),(∀ b ∈ bs,0 < b)->∀ (i:Nat),i < bs.length->0<=(j3 c bs).getD i 0/\(j3 c bs).getD i 0 < bs.getD i 0
 | b :: bs,c,h,0,_=>by
   have:=h b (List.mem_cons_self ..)
   exact ⟨Int.fmod_nonneg_of_pos c this,Int.fmod_lt_of_pos c this⟩
 | b :: bs,c,h,i + 1,hi=>by
   have:=rq bs (c.fdiv b) (λx hx=>h x (List.mem_cons_of_mem _ hx)) i (by simpa using hi)
   simpa [j3] using this
theorem i8 {c:Int} {bs:List Int} (h:∀ b ∈ bs,0 < b) {i:Nat} (hi:i < bs.length):0<=(nums c bs).getD i 0/\(nums c bs).getD i 0 < bs.getD i 0:=by
 unfold nums
 split
 · exact rq bs c h i hi
 · have hp:0 < bs.getD i 0:=h _ (by simp [hi])
   have e:(xg c bs).getD i 0=zg c i (bs.getD i 0):=by simp [xg,hi]
   rw [e]
   exact ⟨Int.fmod_nonneg_of_pos _ hp,Int.fmod_lt_of_pos _ hp⟩
theorem take_snoc {α:Type} {xs:List α} {i:Nat} (d:α) (h:i < xs.length):xs.take (i + 1)=xs.take i++[xs.getD i d]:=by
 rw [List.take_add_one,List.getElem?_eq_getElem h]
 simp [h]
theorem wB {b:Int} (h0:0 < b) (h:b < 2 ^ 60):0 < b/\aA b:=⟨h0,mkD (by omega) (by omega)⟩
noncomputable def bW (ds:List D) (r:Sl):Prop:=∃ (c:Int) (bs:List Int),ds=[.int c,.lst (bs.map .int)]/\bs.length<=10000/\(∀ b ∈ bs,0 < b/\aA b)/\r=.o ((nums c bs).map .int)
section
variable {P:Program} {w:World} {K:PySem.W.Frag} {mg:Str->Option Value} {base:Heap} {k:Nat} {f:Addr} {fd:FuncData} {qual:Str}
theorem ni (F:Fun K "_law_numbers" qual (top 55) f fd) (hb:∀ x ∈ ah,mg x=none):aN P w K mg base CX0 (k + 1) f fd ["_law_cell_here","_law_bases"] (spD K bW):=by
 refine fnD F gC hb (by rintro _ _ ⟨_,_,rfl,_⟩; rfl) ?_
 rintro _ _ ⟨c,bs,rfl,hl,hbs,rfl⟩ cdv A outer s H E b
 have nd:=gC.nd
 have hp:∀ i,i < bs.length->0 < bs.getD i 0/\aA (bs.getD i 0):=λi hi=>hbs _ (by simp [hi])
 refine az 2 nd (cb af) ?_
 refine eZ (bf (a4 b (ab (aa 0) af) oX) (aB ae ae (Bm ⟨by decide,by decide,by decide⟩)) zX) (λh=>?_) λh=>?_
 · refine bE 3 (λi τ=>∃ s3,τ=[.d (.int (wx c (bs.take i))),.d (.lst (bs.map .int)),.o ((j3 c (bs.take i)).map .int),s3,.un,.un]) b nd (aR (aa 1)) k5 ⟨_,rfl⟩ (λi hi τ h=>?_) λτ h=>?_
   · obtain ⟨s3,rfl⟩:=h
     have hi:i < bs.length:=by simpa using hi
     obtain ⟨p1,p2⟩:=hp i hi
     refine kX 2 (aB (aa 0) (aa 3) (eF (by omega))) ?_ ?_
     · rw [List.length_map,jG,List.length_take]; omega
     refine az 0 nd (aB (aa 0) (aa 3) (a5 p2)) (aM ?_)
     apply ex1
     show [Sl.d (.int ((wx c (bs.take i)).fdiv (bs.getD i 0))),_,Sl.o _,_,_,_]=_
     rw [take_snoc 0 hi,lE,List.map_append]
     unfold wx
     rw [List.foldl_append]
     rfl
   · obtain ⟨s3,rfl⟩:=h
     refine iI 2 ?_
     rw [List.length_map,List.take_of_length_le (Nat.le_refl _)]
     unfold nums
     rw [if_pos (of_decide_eq_true h)]
 · refine pF 4 3 (λi τ=>∃ s3 s4 s5,τ=[.d (.int c),.d (.lst (bs.map .int)),.o (((List.range i).map λk=>zg c k (bs.getD k 0)).map .int),s3,s4,s5]) b nd (yz b (aa 1)) Cp ⟨_,_,_,rfl⟩ (λi hi τ h=>?_) λτ h=>?_
   · obtain ⟨s3,s4,s5,rfl⟩:=h
     have hi:i < bs.length:=by rw [cV,List.length_map] at hi; exact hi
     obtain ⟨p1,p2⟩:=hp i hi
     refine az 5 nd (aB (aB (aB (aB (aB (aa 0) ae (aW (mkR (by decide)))) (aB (aB (aa 4) (aa 4) (aW (mkL (by omega)))) ae (aW (mkR (by decide)))) bD) (aB (aa 4) ae (aW (mkR (by decide)))) bD) ae bD) ae (eF (by decide))) ?_
     refine kX 2 (aB (aB (aB (aB (aB (aB (aa 5) ae (aW (mkR (by decide)))) (aa 0) bD) (aB ae (aa 4) (aW (mkL (by decide)))) bD) ae (eF (by decide))) ae (a5 (mkD (by decide) (by decide)))) (aa 3) (eF (by omega))) ?_ (aM ?_)
     · rw [List.length_map,List.length_map,List.length_range]; omega
     apply ex3
     rw [List.range_succ,List.map_append,List.map_append]
     rfl
   · obtain ⟨s3,s4,s5,rfl⟩:=h
     refine iI 2 ?_
     rw [cV,List.length_map]
     unfold nums
     rw [if_neg (of_decide_eq_false h)]
     rfl
end
theorem oN (b:Int):sgZ b=1\/sgZ b=-1:=by
 unfold sgZ
 rw [Int.fmod_eq_emod_of_nonneg _ (by decide)]
 omega
theorem jF (n:Nat) (row:List Int) (k v:Int) (kv:List (Int × Int)):∀ c,(bY n row k v kv c).2.length<=kv.length + c
 | 0=>Nat.le_refl _
 | c + 1=>by
   have:=jF n row k v kv c
   rw [bY,jj]
   split
   · dsimp only; omega
   · have:=xB (bY n row k v kv c).2 (jx k (n - 1 - c)) ((bA (bY n row k v kv c).2 (jx k (n - 1 - c))).getD 0 + sgZ (bY n row k v kv c).1 * row.getD (n - 1 - c) 0 * v)
     dsimp only
     omega
theorem iA (n:Nat) (row:List Int) (kv:List (Int × Int)):∀ t,(ba n row kv t).length<=t * n
 | 0=>by rw [ba,List.length_nil]; omega
 | t + 1=>by
   have h1:=iA n row kv t
   have h2:=jF n row (kv.getD t (0,0)).1 ((bA kv (kv.getD t (0,0)).1).getD 0) (ba n row kv t) n
   rw [ba,Nat.succ_mul]
   omega
noncomputable def dtR (r:List Int):D:=.lst (r.map .int)
noncomputable def dtM (Ms:List (List Int)) (i j:Nat):Rat:=(((Ms.getD i []).getD j 0:Int):Rat)
theorem atR {row:List Int} {j:Nat} (h:j < row.length):atI (row.map D.int) (j:Int)=some (.int (row.getD j 0)):=gc (i:=(j:Int)) (by omega) (by omega)
section
variable {P:Program} {w:World} {K:PySem.W.Frag} {mg:Str->Option Value} {base:Heap} {k:Nat} {f:Addr} {fd:FuncData} {qual:Str}
end
noncomputable def frD (q:Rat):D:=.tup [.int q.num,.int (q.den:Nat)]
theorem b6 (x:Rat):x * (((x.den:Nat):Int):Rat)=(x.num:Rat):=by
 have h:mkRat x.num x.den=x:=by rw [<- Rat.normalize_eq_mkRat x.den_nz]; exact Rat.normalize_self x
 rw [Rat.mkRat_eq_div] at h
 have hd:((x.den:Nat):Rat) ≠ 0:=λz=>x.den_nz (Rat.natCast_eq_zero_iff.mp z)
 rw [Rat.intCast_natCast]
 conv=>lhs; lhs; rw [<- h]
 exact Rat.div_mul_cancel hd
theorem cy {t b:Int} {x:Rat} (hb:0 < b) (h:(t:Rat)=x * (b:Rat)):x.num=t / (Int.gcd t b:Int)/\((x.den:Nat):Int)=b / (Int.gcd t b:Int):=by
 have hb0:((b.toNat:Nat):Rat) ≠ 0:=λz=>by have:=Rat.natCast_eq_zero_iff.mp z; omega
 have hbb:((b:Int):Rat)=((b.toNat:Nat):Rat):=by rw [<- Rat.intCast_natCast,Int.toNat_of_nonneg (by omega)]
 have e:x=mkRat t b.toNat:=by
   rw [Rat.mkRat_eq_div,h,hbb,Rat.mul_div_cancel hb0]
 have g:b.toNat.gcd t.natAbs=Int.gcd t b:=by
   rw [Int.gcd,Nat.gcd_comm,show b.natAbs=b.toNat by omega]
 have nz:¬ b.toNat=0:=by omega
 constructor
 · rw [e,Rat.num_mkRat,if_neg nz,g]
 · rw [e,Rat.den_mkRat,if_neg nz,g,Int.natCast_ediv,Int.toNat_of_nonneg (by omega)]
theorem den_pos (q:Rat):0 < ((q.den:Nat):Int):=by have:=q.den_pos; omega
theorem vW {b:Int} (hb:0 < b):(b:Rat) ≠ 0:=λz=>by have:=Rat.intCast_eq_zero_iff.mp z; omega
noncomputable def Bd (n:Nat) (i:Int):Prop:=i.natAbs < 2 ^ n
theorem Bd.mono {m n:Nat} {i:Int} (h:Bd m i) (hm:m<=n):Bd n i:=Nat.lt_of_lt_of_le h (Nat.pow_le_pow_right (by decide) hm)
theorem Bd.log {n:Nat} {i:Int} (h:Bd n i) (hn:0 < n):i.natAbs.log2 < n:=by
 rcases Nat.eq_zero_or_pos i.natAbs with z | z
 · rw [z]; exact hn
 · exact (Nat.log2_lt (by omega)).mpr h
theorem Bd.mul {m n:Nat} {i j:Int} (h:Bd m i) (g:Bd n j):Bd (m + n) (i * j):=by
 unfold Bd at *
 rw [Int.natAbs_mul,Nat.pow_add]
 rcases Nat.eq_zero_or_pos j.natAbs with z | z
 · rw [z,Nat.mul_zero]; exact Nat.mul_pos (Nat.two_pow_pos m) (Nat.two_pow_pos n)
 · exact Nat.lt_of_lt_of_le (Nat.mul_lt_mul_of_pos_right h z) (Nat.mul_le_mul_left _ (Nat.le_of_lt g))
theorem Bd.neg {n:Nat} {i:Int} (h:Bd n i):Bd n (-i):=by unfold Bd at *; rwa [Int.natAbs_neg]
theorem Bd.ay {m n:Nat} {i j:Int} (h:Bd m i) (g:Bd n j) (hm:m<=1000000) (hn:n<=1000000):ay i j:=
 .inr (.inr ⟨(h.mono (Nat.le_succ_of_le hm)).log (by omega) |> λz=>by
   rcases Nat.eq_zero_or_pos i.natAbs with q | q
   · rw [q]; decide
   · exact Nat.lt_of_lt_of_le ((Nat.log2_lt (by omega)).mpr h) hm,by
   rcases Nat.eq_zero_or_pos j.natAbs with q | q
   · rw [q]; decide
   · exact Nat.lt_of_lt_of_le ((Nat.log2_lt (by omega)).mpr g) hn⟩)
theorem Bd.aA {n:Nat} {j:Int} (h:Bd n j) (h0:j ≠ 0) (hn:n<=9000):aA j:=⟨h0,Nat.lt_of_lt_of_le ((Nat.log2_lt (by omega)).mpr h) hn⟩
theorem Bd.of_dvd {n:Nat} {i j:Int} (h:Bd n j) (hd:i ∣ j) (h0:j ≠ 0):Bd n i:=Nat.lt_of_le_of_lt (Nat.le_of_dvd (by omega) (Int.natAbs_dvd_natAbs.mpr hd)) h
theorem Bd.ediv {n:Nat} {i:Int} (h:Bd n i) (j:Int):Bd n (i / j):=Nat.lt_of_le_of_lt (Int.natAbs_ediv_le_natAbs i j) h
theorem Bd.gcd {n:Nat} {i j:Int} (h:Bd n j) (h0:j ≠ 0):Bd n (Int.gcd i j:Int):=h.of_dvd (Int.gcd_dvd_right ..) h0
theorem eg {i j:Int} (h0:j ≠ 0):(Int.gcd i j:Int) ≠ 0:=λz=>h0 (by have:=Int.gcd_eq_zero_iff.mp (Int.ofNat_eq_zero.mp z); exact this.2)
theorem aY {i j:Int} (t:Int):t.fdiv (Int.gcd i j:Int)=t / (Int.gcd i j:Int):=Int.fdiv_eq_ediv_of_nonneg _ (Int.natCast_nonneg _)
structure Sq (n:Nat) (q:Rat):Prop where
 num:Bd n q.num
 den:Bd n (q.den:Nat)
theorem Sq.mono {m n:Nat} {q:Rat} (h:Sq m q) (hm:m<=n):Sq n q:=⟨h.num.mono hm,h.den.mono hm⟩
theorem Sq.cy {n:Nat} {t b:Int} {x:Rat} (hb:0 < b) (h:(t:Rat)=x * (b:Rat)) (h1:Bd n t) (h2:Bd n b):Sq n x:=by
 obtain ⟨e1,e2⟩:=K54.cy hb h
 exact ⟨by rw [e1]; exact h1.ediv _,by rw [e2]; exact h2.ediv _⟩
noncomputable def whl (x:D):Bool:=px .int x && !px .bool x
noncomputable def cu (ds:List D) (r:Sl):Prop:=∃ x,ds=[x]/\r=.d (.bl (whl x))
noncomputable def aZ (ds:List D) (r:Sl):Prop:=∃ a b:Int,ds=[.int a,.int b]/\r=.d (.int (Int.gcd a b:Int))
theorem g9 (i:Int):xx i=(i.natAbs:Int):=by unfold xx; omega
noncomputable def sL:D->Bool
 | .tup [.int a,.int b]=>decide (1<=b) && decide ((Int.gcd a b:Int)=1)
 | _=>false
theorem wZ (q:Rat):sL (frD q)=true:=by
 have h1:=den_pos q
 have h2:Int.gcd q.num (q.den:Nat)=1:=q.reduced
 show (decide ((1:Int)<=(q.den:Nat)) && decide ((Int.gcd q.num (q.den:Nat):Int)=1))=true
 rw [h2,decide_eq_true (show (1:Int)<=(q.den:Nat) by omega)]
 rfl
theorem uL {xs:List D} (h:xs.length ≠ 2):sL (.tup xs)=false:=by
 unfold sL
 split
 · rename_i e; cases e; exact absurd rfl h
 · rfl
noncomputable def dM (ds:List D) (r:Sl):Prop:=∃ x,ds=[x]/\r=.d (.bl (sL x))
noncomputable def bx (ds:List D) (r:Sl):Prop:=∃ (t b:Int) (q:Rat),ds=[.int t,.int b]/\b ≠ 0/\Bd 8999 b/\(t:Rat)=q * (b:Rat)/\r=.d (frD q)
noncomputable def gn (ds:List D) (r:Sl):Prop:=∃ (t b:Int) (q:Rat),ds=[.int t,.int b]/\b ≠ 0/\Bd 8999 b/\(t:Rat)=q * (b:Rat)/\r=.d (frD q)
noncomputable def a7 (ds:List D) (r:Sl):Prop:=∃ xs,ds=[.lst xs]/\r=.d (.bl (decide ((1:Int)<=(xs.length:Nat)) && decide (((xs.length:Nat):Int)<=7)))
section
variable {P:Program} {w:World} {K:PySem.W.Frag} {mg:Str->Option Value} {base:Heap} {k:Nat} {f:Addr} {fd:FuncData} {qual:Str}
theorem ou (F:Fun K "is_whole" qual (top 8) f fd) (hb:∀ x ∈ ah,mg x=none):aN P w K mg base CX0 (k + 1) f fd ["thing"] (spD K cu):=by
 refine fnD F oQ hb (by rintro _ _ ⟨_,rfl,_⟩; rfl) ?_
 rintro _ _ ⟨x,rfl,rfl⟩ cdv A outer s H E b
 exact aK (fS (jH .int b (aa 0)) λh=>(fb (BU (jH .bool b (aa 0))))) rfl
theorem gP (F:Fun K "common_divisor" qual (top 11) f fd) (hb:∀ x ∈ ah,mg x=none):aN P w K mg base CX0 (k + 1) f fd ["one","other"] (spD K aZ):=by
 refine fnD F de hb (by rintro _ _ ⟨_,_,rfl,_⟩; rfl) ?_
 rintro _ _ ⟨x,y,rfl,rfl⟩ cdv A outer s H E b
 have nd:=de.nd
 refine az 2 nd (a4 b (ab (aa 0) af) oX) (az 3 nd (a4 b (ab (aa 1) af) oX) ?_)
 rw [g9,g9]
 refine rY (λn t τ=>∃ (g:Nat) (s4:Sl),Nat.gcd g n=Int.gcd x y/\t=(!decide ((n:Int)=0))/\τ=[.d (.int x),.d (.int y),.d (.int g),.d (.int n),s4]) b ⟨_,_,_,_,rfl,rfl,rfl⟩ (λn t τ h=>?_) (λn τ h=>?_) λn τ h=>?_
 · obtain ⟨g,s4,_,rfl,rfl⟩:=h
   exact bf (aa 3) ae pg
 · obtain ⟨g,s4,hg,ht,rfl⟩:=h
   have hl:n ≠ 0:=λz=>by simp [z] at ht
   have e:(g:Int).fmod n=((g % n:Nat):Int):=by rw [Int.fmod_eq_emod_of_nonneg _ (by omega)]; rfl
   refine az 4 nd (aB (aa 2) (aa 3) (eF (by omega))) ?_
   rw [e]
   refine az 2 nd (aa 3) (az 3 nd (aa 4) (aM ⟨g % n,_,Nat.mod_lt g (Nat.pos_of_ne_zero hl),n,_,?_,rfl,rfl⟩))
   rw [<- hg,Nat.gcd_comm n,<- Nat.gcd_rec,Nat.gcd_comm]
 · obtain ⟨g,s4,hg,ht,rfl⟩:=h
   have hl:n=0:=by simpa using ht
   refine aK (aa 2) ?_
   rw [<- hg,hl,Nat.gcd_zero_right]
theorem jo (F:Fun K "is_fraction" qual (top 10) f fd) (hb:∀ x ∈ ah,mg x=none) (c_is_whole:Cal P w K mg base k "is_whole" cu) (c_common_divisor:Cal P w K mg base k "common_divisor" aZ):aN P w K mg base CX0 (k + 1) f fd ["thing"] (spD K dM):=by
 refine fnD F jv hb (by rintro _ _ ⟨_,rfl,_⟩; rfl) ?_
 rintro _ _ ⟨x,rfl,rfl⟩ cdv A outer s H E b
 by_cases ht:px .tuple x=true
 · obtain ⟨xs,rfl⟩:∃ xs,x=.tup xs:=by cases x <;> first | exact ⟨_,rfl⟩ | cases ht
   refine eZ (PW.pt (ny (bV (bP (jH .tuple b (aa 0)))) λh=>(jX (bf (a4 b (ab (aa 0) af) wa) ae pg)))) (λh=>?_) λh=>?_
   · refine aK tN ?_
     have h:(!decide ((xs.length:Int)=2))=true:=h
     have:xs.length ≠ 2:=λz=>by rw [z] at h; cases h
     rw [uL this]
   · have h:(!decide ((xs.length:Int)=2))=false:=h
     have h2:xs.length=2:=by simp at h; omega
     obtain ⟨u,v,rfl⟩:∃ u v,xs=[u,v]:=by
       match xs,h2 with
       | [u,v],_=>exact ⟨u,v,rfl⟩
     refine eZ (PW.pt (ny (bV (bP (x_call b c_is_whole (ab (aG (aa 0) ae (aJ (aw (i:=0) rfl))) af) ⟨_,rfl,rfl⟩))) λh=>(jX (bV (bP (x_call b c_is_whole (ab (aG (aa 0) ae (aJ (aw (i:=1) rfl))) af) ⟨_,rfl,rfl⟩)))))) (λh=>?_) λh=>?_
     · refine aK tN ?_
       have:sL (.tup [u,v])=false:=by cases u <;> cases v <;> first | rfl | cases h
       rw [this]
     · obtain ⟨i,j,rfl,rfl⟩:∃ i j,u=.int i/\v=.int j:=by cases u <;> cases v <;> first | exact ⟨_,_,rfl,rfl⟩ | cases h
       exact aK (fS (cO (aG (aa 0) ae (aJ (aw (i:=1) rfl))) ae zX) λh=>(fb (cO (x_call b c_common_divisor (ab (aG (aa 0) ae (aJ (aw (i:=0) rfl))) (ab (aG (aa 0) ae (aJ (aw (i:=1) rfl))) af)) ⟨_,_,rfl,rfl⟩) ae gN))) rfl
 · have e:px .tuple x=false:=by simpa using ht
   have ef:sL x=false:=by cases x <;> first | rfl | cases e
   refine eZ (PW.pt (ny (q:=true) (bV (bP (jH .tuple b (aa 0)))) λh=>(by rw [e] at h; cases h))) (λh=>?_) λh=>?_
   · refine aK tN ?_
     rw [ef]
   · rw [Bool.or_true] at h; cases h
theorem gz (F:Fun K "in_lowest_terms" qual (top 12) f fd) (hb:∀ x ∈ ah,mg x=none) (c_common_divisor:Cal P w K mg base k "common_divisor" aZ):aN P w K mg base CX0 (k + 1) f fd ["top","bottom"] (spD K bx):=by
 refine fnD F cY hb (by rintro _ _ ⟨_,_,_,rfl,_⟩; rfl) ?_
 rintro _ _ ⟨t,c,q,rfl,h0,h1,hq,rfl⟩ cdv A outer s H E b
 have nd:=cY.nd
 refine az 2 nd (x_call b c_common_divisor (ab (aa 0) (ab (aa 1) af)) ⟨_,_,rfl,rfl⟩) ?_
 have g0:=eg (i:=t) h0
 have gb:=h1.gcd (i:=t) h0
 refine jK (M:=λτ=>τ=[.d (.int t),.d (.int c),.d (.int (if c < 0 then -(Int.gcd t c:Int) else (Int.gcd t c:Int)))]) (bf (aa 1) ae kM) (λh=>?_) (λh=>?_) λτ h=>?_
 · rw [if_pos (of_decide_eq_true h)]
   exact az 2 nd (qv (aa 2)) (aM rfl)
 · rw [if_neg (of_decide_eq_false h)]
   exact aM rfl
 subst h
 have dv:aA (if c < 0 then -(Int.gcd t c:Int) else (Int.gcd t c:Int)):=by
   split
   · exact gb.neg.aA (by omega) (by decide)
   · exact gb.aA g0 (by decide)
 refine aK (cC (ab (aB (aa 0) (aa 2) (a5 dv)) (ab (aB (aa 1) (aa 2) (a5 dv)) af))) ?_
 by_cases hc:c < 0
 · have hq':((-t:Int):Rat)=q * ((-c:Int):Rat):=by rw [Rat.intCast_neg,Rat.intCast_neg,hq,Rat.mul_neg]
   obtain ⟨e1,e2⟩:=cy (by omega) hq'
   rw [Int.neg_gcd,Int.gcd_neg] at e1 e2
   rw [if_pos hc,frD,e1,e2,<- aY (-t),<- aY (-c),<- Int.neg_fdiv_neg (-t),<- Int.neg_fdiv_neg (-c),Int.neg_neg,Int.neg_neg]
 · obtain ⟨e1,e2⟩:=cy (by omega) hq
   rw [if_neg hc,frD,e1,e2,aY,aY]
theorem nQ (F:Fun K "fraction" qual (top 13) f fd) (hb:∀ x ∈ ah,mg x=none) (c_in_lowest_terms:Cal P w K mg base k "in_lowest_terms" bx) (c_is_whole:Cal P w K mg base k "is_whole" cu):aN P w K mg base CX0 (k + 1) f fd ["top","bottom"] (spD K gn):=by
 refine fnD F oy hb (by rintro _ _ ⟨_,_,_,rfl,_⟩; rfl) ?_
 rintro _ _ ⟨t,c,q,rfl,h0,h1,hq,rfl⟩ cdv A outer s H E b
 refine cM (PW.pt (ny (bV (bP (x_call b c_is_whole (ab (aa 0) af) ⟨_,rfl,rfl⟩))) λh=>(jX (bV (bP (x_call b c_is_whole (ab (aa 1) af) ⟨_,rfl,rfl⟩)))))) rfl ?_
 refine cM (bf (aa 1) ae gN) (decide_eq_false h0) ?_
 exact aK (x_call b c_in_lowest_terms (ab (aa 0) (ab (aa 1) af)) ⟨t,c,q,rfl,h0,h1,hq,rfl⟩) rfl
theorem hZ (F:Fun K "is_short_list" qual (top 19) f fd) (hb:∀ x ∈ ah,mg x=none) (y_MOST:∃ t,mg "MOST" = some (.int 7 t)):aN P w K mg base CX0 (k + 1) f fd ["thing"] (spD K a7):=by
 refine fnD F iq hb (by rintro _ _ ⟨_,rfl,_⟩; rfl) ?_
 rintro _ _ ⟨xs,rfl,rfl⟩ cdv A outer s H E b
 exact aK (fS (jH .list b (aa 0)) λh=>(fb (rF ae (a4 b (ab (aa 0) af) eG) (y7 y_MOST) xt xt).1)) rfl
end
noncomputable def sg (x y:Rat):Int:=(Int.gcd (x.den:Nat) (y.den:Nat):Int)
noncomputable def stop (x y:Rat):Int:=x.num * (((y.den:Nat):Int) / sg x y) + y.num * (((x.den:Nat):Int) / sg x y)
noncomputable def sdiv (x y:Rat):Int:=(Int.gcd (stop x y) (sg x y):Int)
theorem BO {t:Int} {d g:Nat} {h1 h2 h3 h4}:(Rat.maybeNormalize t d g h1 h2 h3 h4).num=t / (g:Int)/\(Rat.maybeNormalize t d g h1 h2 h3 h4).den=d / g:=by
 unfold Rat.maybeNormalize
 split
 · rename_i e
   subst e
   exact ⟨(Int.ediv_one _).symm,(Nat.div_one _).symm⟩
 · exact ⟨rfl,rfl⟩
theorem Co (x y:Rat):(x + y).num=stop x y / sdiv x y/\(((x + y).den:Nat):Int)=((x.den:Nat):Int) / sg x y * (((y.den:Nat):Int) / sdiv x y):=by
 have hg:sg x y=((x.den.gcd y.den:Nat):Int):=rfl
 show (Rat.add x y).num=_/\(((Rat.add x y).den:Nat):Int)=_
 unfold Rat.add
 by_cases h:x.den.gcd y.den=1
 · simp only [dif_pos h]
   have e1:sg x y=1:=by rw [hg,h]; rfl
   have e2:sdiv x y=1:=by unfold sdiv; rw [e1,Int.gcd_one_right]; rfl
   unfold stop
   rw [e2,e1,Int.ediv_one,Int.ediv_one,Int.ediv_one]
   exact ⟨rfl,Int.natCast_mul _ _⟩
 · simp only [dif_neg h]
   have d:sdiv x y=(((stop x y).natAbs.gcd (x.den.gcd y.den):Nat):Int):=rfl
   have dd:(stop x y).natAbs.gcd (x.den.gcd y.den) ∣ y.den:=Nat.dvd_trans (Nat.gcd_dvd_right _ _) (Nat.gcd_dvd_right _ _)
   refine ⟨BO.1,?_⟩
   rw [BO.2,d]
   show ((x.den / x.den.gcd y.den * y.den / (stop x y).natAbs.gcd (x.den.gcd y.den):Nat):Int)=((x.den / x.den.gcd y.den:Nat):Int) * ((y.den / (stop x y).natAbs.gcd (x.den.gcd y.den):Nat):Int)
   rw [Nat.mul_div_assoc _ dd,Int.natCast_mul]
theorem zj (x y:Rat):(x * y).num=x.num / (Int.gcd x.num (y.den:Nat):Int) * (y.num / (Int.gcd y.num (x.den:Nat):Int))/\(((x * y).den:Nat):Int)=((x.den:Nat):Int) / (Int.gcd y.num (x.den:Nat):Int) * (((y.den:Nat):Int) / (Int.gcd x.num (y.den:Nat):Int)):=by
 show (Rat.mul x y).num=_/\(((Rat.mul x y).den:Nat):Int)=_
 unfold Rat.mul
 exact ⟨rfl,rfl⟩
theorem inv_mul {q:Rat} (h0:q ≠ 0):((((q.den:Nat):Int)):Rat)=q⁻¹ * (q.num:Rat):=by
 rw [<- b6 q,<- Rat.mul_assoc,Rat.inv_mul_cancel q h0,Rat.one_mul]
theorem Sq.inv {n:Nat} {q:Rat} (h:Sq n q) (h0:q ≠ 0):Sq n q⁻¹:=by
 have hn:q.num ≠ 0:=λz=>h0 (Rat.num_eq_zero.mp z)
 have e:=inv_mul h0
 rcases Int.lt_or_lt_of_ne hn with z | z
 · exact Sq.cy (t:=-((q.den:Nat):Int)) (b:=-q.num) (by omega) (by rw [Rat.intCast_neg,Rat.intCast_neg,e,Rat.mul_neg]) h.den.neg h.num.neg
 · exact Sq.cy z e h.den h.num
theorem tX (p q:Rat):((p.num * ((q.den:Nat):Int) + q.num * ((p.den:Nat):Int):Int):Rat)=(p + q) * (((p.den:Nat):Int) * ((q.den:Nat):Int):Int):=by
 rw [Rat.intCast_add,Rat.intCast_mul,Rat.intCast_mul,Rat.intCast_mul,<- b6 p,<- b6 q]
 grind
noncomputable def ka (ds:List D) (r:Sl):Prop:=∃ (m n:Nat) (p q:Rat),ds=[frD p,frD q]/\Sq m p/\Sq n q/\m + n<=8990/\r=.d (frD (p + q))
noncomputable def cR (ds:List D) (r:Sl):Prop:=∃ (m n:Nat) (p q:Rat),ds=[frD p,frD q]/\Sq m p/\Sq n q/\m + n<=8990/\r=.d (frD (p * q))
noncomputable def dD (ds:List D) (r:Sl):Prop:=∃ (m n:Nat) (p q:Rat),ds=[frD p,frD q]/\q ≠ 0/\Sq m p/\Sq n q/\m + n<=8990/\r=.d (frD (p / q))
section
variable {P:Program} {w:World} {K:PySem.W.Frag} {mg:Str->Option Value} {base:Heap} {k:Nat} {f:Addr} {fd:FuncData} {qual:Str}
theorem sI (F:Fun K "sum_of" qual (top 14) f fd) (hb:∀ x ∈ ah,mg x=none) (c_common_divisor:Cal P w K mg base k "common_divisor" aZ):aN P w K mg base CX0 (k + 1) f fd ["one","other"] (spD K ka):=by
 refine fnD F lU hb (by rintro _ _ ⟨_,_,_,_,rfl,_⟩; rfl) ?_
 rintro _ _ ⟨m,n,p,q,rfl,h1,h2,hl,rfl⟩ cdv A outer s H E b
 have nd:=lU.nd
 have hq:=den_pos q
 have hp:=den_pos p
 have s0:sg p q ≠ 0:=eg (by omega)
 have sb:Bd n (sg p q):=h2.den.gcd (by omega)
 have g0:sdiv p q ≠ 0:=eg s0
 have gb:Bd n (sdiv p q):=sb.gcd s0
 have fd1:∀ t:Int,t.fdiv (sg p q)=t / sg p q:=λt=>aY t
 have fd2:∀ t:Int,t.fdiv (sdiv p q)=t / sdiv p q:=λt=>aY t
 refine az 2 nd (x_call b c_common_divisor (ab (aG (aa 0) ae (aJ (aw (i:=1) rfl))) (ab (aG (aa 1) ae (aJ (aw (i:=1) rfl))) af)) ⟨_,_,rfl,rfl⟩) ?_
 show PSs _ _ (dS K [_,_,.d (.int (sg p q)),_,_] _)
 have e3:p.num * ((q.den:Nat):Int).fdiv (sg p q) + q.num * ((p.den:Nat):Int).fdiv (sg p q)=stop p q:=by rw [fd1,fd1]; rfl
 refine az 3 nd (aB (aB (aG (aa 0) ae (aJ (aw (i:=0) rfl))) (aB (aG (aa 1) ae (aJ (aw (i:=1) rfl))) (aa 2) (a5 (sb.aA s0 (by omega)))) (aW (by rw [fd1]; exact h1.num.ay (h2.den.ediv _) (by omega) (by omega)))) (aB (aG (aa 1) ae (aJ (aw (i:=0) rfl))) (aB (aG (aa 0) ae (aJ (aw (i:=1) rfl))) (aa 2) (a5 (sb.aA s0 (by omega)))) (aW (by rw [fd1]; exact h2.num.ay (h1.den.ediv _) (by omega) (by omega)))) bD) ?_
 rw [e3]
 refine az 4 nd (x_call b c_common_divisor (ab (aa 3) (ab (aa 2) af)) ⟨_,_,rfl,rfl⟩) ?_
 show PSs _ _ (dS K [_,_,_,_,.d (.int (sdiv p q))] _)
 obtain ⟨q1,q2⟩:=Co p q
 refine aK (cC (ab (aB (aa 3) (aa 4) (a5 (gb.aA g0 (by omega)))) (ab (aB (aB (aG (aa 0) ae (aJ (aw (i:=1) rfl))) (aa 2) (a5 (sb.aA s0 (by omega)))) (aB (aG (aa 1) ae (aJ (aw (i:=1) rfl))) (aa 4) (a5 (gb.aA g0 (by omega)))) (aW (by rw [fd1,fd2]; exact (h1.den.ediv _).ay (h2.den.ediv _) (by omega) (by omega)))) af))) ?_
 rw [fd1,fd2,fd2,<- q1,<- q2]
 rfl
theorem kF (F:Fun K "product_of" qual (top 15) f fd) (hb:∀ x ∈ ah,mg x=none) (c_common_divisor:Cal P w K mg base k "common_divisor" aZ):aN P w K mg base CX0 (k + 1) f fd ["one","other"] (spD K cR):=by
 refine fnD F fV hb (by rintro _ _ ⟨_,_,_,_,rfl,_⟩; rfl) ?_
 rintro _ _ ⟨m,n,p,q,rfl,h1,h2,hl,rfl⟩ cdv A outer s H E b
 have nd:=fV.nd
 have hq:=den_pos q
 have hp:=den_pos p
 have n1:(Int.gcd p.num (q.den:Nat):Int) ≠ 0:=eg (by omega)
 have n2:(Int.gcd q.num (p.den:Nat):Int) ≠ 0:=eg (by omega)
 have d1:=(h2.den.gcd (i:=p.num) (by omega)).aA n1 (by omega)
 have d2:=(h1.den.gcd (i:=q.num) (by omega)).aA n2 (by omega)
 obtain ⟨q1,q2⟩:=zj p q
 refine az 2 nd (x_call b c_common_divisor (ab (aG (aa 0) ae (aJ (aw (i:=0) rfl))) (ab (aG (aa 1) ae (aJ (aw (i:=1) rfl))) af)) ⟨_,_,rfl,rfl⟩) ?_
 refine az 3 nd (x_call b c_common_divisor (ab (aG (aa 1) ae (aJ (aw (i:=0) rfl))) (ab (aG (aa 0) ae (aJ (aw (i:=1) rfl))) af)) ⟨_,_,rfl,rfl⟩) ?_
 refine aK (cC (ab (aB (aB (aG (aa 0) ae (aJ (aw (i:=0) rfl))) (aa 2) (a5 d1)) (aB (aG (aa 1) ae (aJ (aw (i:=0) rfl))) (aa 3) (a5 d2)) (aW (by rw [aY,aY]; exact (h1.num.ediv _).ay (h2.num.ediv _) (by omega) (by omega)))) (ab (aB (aB (aG (aa 0) ae (aJ (aw (i:=1) rfl))) (aa 3) (a5 d2)) (aB (aG (aa 1) ae (aJ (aw (i:=1) rfl))) (aa 2) (a5 d1)) (aW (by rw [aY,aY]; exact (h1.den.ediv _).ay (h2.den.ediv _) (by omega) (by omega)))) af))) ?_
 rw [aY,aY,aY,aY,<- q1,<- q2]
 rfl
theorem jt (F:Fun K "quotient_of" qual (top 16) f fd) (hb:∀ x ∈ ah,mg x=none) (c_product_of:Cal P w K mg base k "product_of" cR) (c_in_lowest_terms:Cal P w K mg base k "in_lowest_terms" bx):aN P w K mg base CX0 (k + 1) f fd ["one","other"] (spD K dD):=by
 refine fnD F jL hb (by rintro _ _ ⟨_,_,_,_,rfl,_⟩; rfl) ?_
 rintro _ _ ⟨m,n,p,q,rfl,h0,h1,h2,hl,rfl⟩ cdv A outer s H E b
 have hn:q.num ≠ 0:=λz=>h0 (Rat.num_eq_zero.mp z)
 refine cM (bf (aG (aa 1) ae (aJ (aw (i:=0) rfl))) ae gN) (decide_eq_false hn) ?_
 exact aK (x_call b c_product_of (ab (aa 0) (ab (x_call b c_in_lowest_terms (ab (aG (aa 1) ae (aJ (aw (i:=1) rfl))) (ab (aG (aa 1) ae (aJ (aw (i:=0) rfl))) af)) ⟨_,_,q⁻¹,rfl,hn,h2.num.mono (by omega),inv_mul h0,rfl⟩) af)) ⟨m,n,p,q⁻¹,rfl,h1,h2.inv h0,hl,by rw [Rat.div_def]⟩) rfl
end
noncomputable def rwQ (r:List Rat):D:=.lst (r.map frD)
noncomputable def tbQ (M:List (List Rat)):D:=.lst (M.map rwQ)
structure Tq (R C:Nat) (M:List (List Rat)):Prop where
 r1:1<=R
 r7:R<=7
 c1:1<=C
 c7:C<=7
 len:M.length=R
 row:∀ r ∈ M,r.length=C
theorem cF {α:Type} {f:α->D} {xs:List α} (d:α):∀ i (h:i < (xs.map f).length),(xs.map f)[i]=f (xs.getD i d):=λi h=>by
 have:i < xs.length:=by simpa using h
 simp [this]
theorem du {α:Type} {f:α->D} {xs:List α} (d:α) {i:Nat} (h:i < xs.length):atI (xs.map f) (i:Int)=some (f (xs.getD i d)):=aw (by simp [h])
theorem bj {α:Type} {xs:List α} {d:α} {i:Nat} (h:i < xs.length):xs.getD i d ∈ xs:=by simp [h]
theorem Tq.at_ {R C:Nat} {M:List (List Rat)} (h:Tq R C M) {i:Nat} (hi:i < R):(M.getD i []).length=C:=h.row _ (bj (by rw [h.len]; exact hi))
theorem ud (n:Nat) (f:Nat->Bool) (h:∀ i,i < n->f i=true):((List.range n).map f).all id=true:=by
 rw [List.all_map,List.all_eq_true]
 intro i hi
 exact h i (List.mem_range.mp hi)
structure Qs (d v:Nat) (q:Rat):Prop where
 den:Bd d (q.den:Nat)
 val:q.num.natAbs<=2 ^ v * q.den
theorem cD {X:Cx} {xs:List D} {n:Nat} (h:xs.length=n):jI X (.builtin "len") [.lst xs] (.d (.int n)):=h ▸ eG
theorem df {α:Type} (f:α->D) (xs:List α) (d:α) {m:Nat} (h:m=xs.length):(List.range m).map (λi=>f (xs.getD i d))=xs.map f:=by
 subst h
 refine List.ext_getElem (by simp) λi h1 h2=>?_
 have:i < xs.length:=by simpa using h2
 simp [this]
theorem u0 {m:Int} {n:Nat} (i:Nat) (h:i < (fP m n).length):(fP m n)[i]=.int (m + (i:Nat)):=fJ m n i h
noncomputable def jM (ds:List D) (r:Sl):Prop:=∃ q:List Rat,ds=[rwQ q]/\1<=q.length/\q.length<=7/\r=.d (.bl true)
noncomputable def gk (ds:List D) (r:Sl):Prop:=∃ (R C:Nat) (M:List (List Rat)),ds=[tbQ M]/\Tq R C M/\r=.d (.bl true)
noncomputable def cQ (ds:List D) (r:Sl):Prop:=∃ (R C:Nat) (M:List (List Rat)),ds=[tbQ M]/\Tq R C M/\r=.d .non
structure Pk (n:Nat) (ps:List Int):Prop where
 len:ps.length<=1000
 at_:∀ i,i < ps.length->0<=ps.getD i 0/\ps.getD i 0 < n
noncomputable def pkL {α:Type} (xs:List α) (ps:List Int) (d:α):List α:=ps.map λp=>xs.getD p.toNat d
noncomputable def kg (ds:List D) (r:Sl):Prop:=∃ (q:List Rat) (ps:List Int),ds=[rwQ q,.lst (ps.map .int)]/\Pk q.length ps/\r=.o ((pkL q ps 0).map frD)
theorem yW {α:Type} {f:α->D} {xs:List α} (d:α) {p:Int} (h:0<=p/\p < xs.length):atI (xs.map f) p=some (f (xs.getD p.toNat d)):=by
 obtain ⟨n,rfl⟩:=Int.eq_ofNat_of_zero_le h.1
 rw [Int.toNat_natCast]
 exact du d (by omega)
theorem zw {α:Type} (f:α->D) (xs:List α) (ps:List Int) (d:α) {m:Nat} (h:m=ps.length):(List.range m).map (λi=>f (xs.getD (ps.getD i 0).toNat d))=(pkL xs ps d).map f:=by
 unfold pkL
 rw [List.map_map]
 exact df (λp:Int=>f (xs.getD p.toNat d)) ps 0 h
noncomputable def chM (M:List (List Rat)) (rs cs:List Int):List (List Rat):=rs.map λr=>pkL (M.getD r.toNat []) cs 0
noncomputable def jV (ds:List D) (r:Sl):Prop:=∃ (R C:Nat) (M:List (List Rat)) (rs cs:List Int),ds=[tbQ M,.lst (rs.map .int),.lst (cs.map .int)]/\Tq R C M/\Pk R rs/\Pk C cs/\r=.o ((chM M rs cs).map rwQ)
section
variable {P:Program} {w:World} {K:PySem.W.Frag} {mg:Str->Option Value} {base:Heap} {k:Nat} {f:Addr} {fd:FuncData} {qual:Str}
theorem sJ (F:Fun K "is_row" qual (top 20) f fd) (hb:∀ x ∈ ah,mg x=none) (c_is_short_list:Cal P w K mg base k "is_short_list" a7) (c_is_fraction:Cal P w K mg base k "is_fraction" dM):aN P w K mg base CX0 (k + 1) f fd ["thing"] (spD K jM):=by
 refine fnD F sF hb (by rintro _ _ ⟨_,rfl,_⟩; rfl) ?_
 rintro _ _ ⟨q,rfl,h1,h7,rfl⟩ cdv A outer s H E b
 refine aK (fS (x_call b c_is_short_list (ab (aa 0) af) ⟨_,rfl,rfl⟩) λh=>(fb (a4 b (ab (aS (bZ (cmp 0 (f:=λ_=>.bl true) b (aR (aa 0)) (cF (f:=frD) (xs:=q) 0) (by rw [List.length_map]; omega) λi hi s0 H0 fp=>(x_call (b.comp s0 H0 _ fp) c_is_fraction (ab (aa 0) af) ⟨_,rfl,by rw [wZ]⟩)))) af) (fT b.calm ((List.range (q.map frD).length).map λ_=>true) (by rw [List.map_map]; rfl))))) ?_
 rw [List.length_map,decide_eq_true (by omega),decide_eq_true (by omega),ud _ _ λ_ _=>rfl]
 rfl
theorem nX (F:Fun K "is_table" qual (top 21) f fd) (hb:∀ x ∈ ah,mg x=none) (c_is_short_list:Cal P w K mg base k "is_short_list" a7) (c_is_row:Cal P w K mg base k "is_row" jM):aN P w K mg base CX0 (k + 1) f fd ["thing"] (spD K gk):=by
 refine fnD F oP hb (by rintro _ _ ⟨_,_,_,rfl,_⟩; rfl) ?_
 rintro _ _ ⟨R,C,M,rfl,t,rfl⟩ cdv A outer s H E b
 have hl:(M.map rwQ).length=R:=by rw [List.length_map,t.len]
 have r1:=t.r1
 have r7:=t.r7
 have c1:=t.c1
 have c7:=t.c7
 refine cM (PW.pt (ny (bV (bP (x_call b c_is_short_list (ab (aa 0) af) ⟨_,rfl,rfl⟩))) λh=>(jX (bV (bP (a4 b (ab (aS (bZ (cmp 0 (f:=λ_=>.bl true) b (aR (aa 0)) (cF (f:=rwQ) (xs:=M) []) (by rw [hl]; omega) λi hi s0 H0 fp=>(x_call (b.comp s0 H0 _ fp) c_is_row (ab (aa 0) af) ⟨_,rfl,?_,?_,rfl⟩)))) af) (fT b.calm ((List.range (M.map rwQ).length).map λ_=>true) (by rw [List.map_map]; rfl)))))))) ?_ ?_
 · rw [t.at_ (by rw [hl] at hi; exact hi)]; exact c1
 · rw [t.at_ (by rw [hl] at hi; exact hi)]; exact c7
 · rw [hl,decide_eq_true (by omega),decide_eq_true (by omega),ud _ _ λ_ _=>rfl]; rfl
 have e0:atI (M.map rwQ) 0=some (rwQ (M.getD 0 [])):=du [] (i:=0) (by rw [t.len]; omega)
 refine aK (a4 b (ab (aS (bZ (cmp 0 (f:=λ_=>.bl (decide ((C:Int)=(C:Int)))) b (aR (aa 0)) (cF (f:=rwQ) (xs:=M) []) (by rw [hl]; omega) λi hi s0 H0 fp=>(cO (a4 (b.comp s0 H0 _ fp) (ab (aa 0) af) (cD (n:=C) (by rw [List.length_map]; exact t.at_ (by rw [hl] at hi; exact hi)))) (a4 (b.comp s0 H0 _ fp) (ab (aG (aa 1) ae (aU e0)) af) (cD (n:=C) (by rw [List.length_map]; exact t.at_ (by omega)))) gN)))) af) (fT b.calm ((List.range (M.map rwQ).length).map λ_=>decide ((C:Int)=(C:Int))) (by rw [List.map_map]; rfl))) ?_
 rw [ud _ _ λ_ _=>decide_eq_true rfl]
theorem kO (F:Fun K "look_table" qual (top 24) f fd) (hb:∀ x ∈ ah,mg x=none) (c_is_table:Cal P w K mg base k "is_table" gk):aN P w K mg base CX0 (k + 1) f fd ["thing"] (spD K cQ):=by
 refine fnD F kA hb (by rintro _ _ ⟨_,_,_,rfl,_⟩; rfl) ?_
 rintro _ _ ⟨R,C,M,rfl,t,rfl⟩ cdv A outer s H E b
 exact cM (bV (bP (x_call b c_is_table (ab (aa 0) af) ⟨R,C,M,rfl,t,rfl⟩))) rfl (aM rfl)
theorem sM (F:Fun K "picked" qual (top 26) f fd) (hb:∀ x ∈ ah,mg x=none):aN P w K mg base CX0 (k + 1) f fd ["things","places"] (spD K kg):=by
 refine fnD F sE hb (by rintro _ _ ⟨_,_,rfl,_⟩; rfl) ?_
 rintro _ _ ⟨q,ps,rfl,h,rfl⟩ cdv A outer s H E b
 refine aK (bZ (cmp 0 (f:=λi=>frD (q.getD (ps.getD i 0).toNat 0)) b (aR (aa 1)) (cF (f:=D.int) (xs:=ps) 0) (by rw [List.length_map]; have:=h.len; omega) λi hi s0 H0 fp=>(aG (aa 1) (aa 0) (aU (yW 0 (h.at_ i (by simpa using hi))))))) ?_
 rw [zw frD q ps 0 (List.length_map ..)]
theorem tE (F:Fun K "chosen" qual (top 27) f fd) (hb:∀ x ∈ ah,mg x=none) (c_picked:Cal P w K mg base k "picked" kg):aN P w K mg base CX0 (k + 1) f fd ["table","rows","columns"] (spD K jV):=by
 refine fnD F sW hb (by rintro _ _ ⟨_,_,_,_,_,rfl,_⟩; rfl) ?_
 rintro _ _ ⟨R,C,M,rs,cs,rfl,t,hr,hc,rfl⟩ cdv A outer s H E b
 refine aK (bZ (cmp 0 (f:=λi=>rwQ (pkL (M.getD (rs.getD i 0).toNat []) cs 0)) b (aR (aa 1)) (cF (f:=D.int) (xs:=rs) 0) (by rw [List.length_map]; have:=hr.len; omega) λi hi s0 H0 fp=>?_)) ?_
 · have hi:=hr.at_ i (by simpa using hi)
   exact aS (x_call (b.comp s0 H0 _ fp) c_picked (ab (aG (aa 2) (aa 0) (aU (yW [] (by rw [t.len]; exact hi)))) (ab (aa 1) af)) ⟨_,cs,rfl,by rw [t.at_ (by omega)]; exact hc,rfl⟩)
 · refine congrArg Sl.o ((df (λr:Int=>rwQ (pkL (M.getD r.toNat []) cs 0)) rs 0 (List.length_map ..)).trans ?_)
   unfold chM
   rw [List.map_map]
   rfl
end
noncomputable def scS (s:Int) (q:Rat):Int:=s / (Int.gcd s (q.den:Nat):Int) * (q.den:Nat)
noncomputable def scL (r:List Rat):Int:=r.foldl scS 1
theorem Ay {s:Int} (hs:0 < s) (q:Rat):0 < scS s q/\s ∣ scS s q/\((q.den:Nat):Int) ∣ scS s q:=by
 have hq:=den_pos q
 have g0:0 < (Int.gcd s (q.den:Nat):Int):=by
   have:=eg (i:=s) (j:=(q.den:Nat)) (by omega)
   have:=Int.natCast_nonneg (Int.gcd s (q.den:Nat))
   omega
 have d1:(Int.gcd s (q.den:Nat):Int) ∣ s:=Int.gcd_dvd_left ..
 have d2:(Int.gcd s (q.den:Nat):Int) ∣ ((q.den:Nat):Int):=Int.gcd_dvd_right ..
 have p1:0 < s / (Int.gcd s (q.den:Nat):Int):=Int.ediv_pos_of_pos_of_dvd hs (by omega) d1
 refine ⟨Int.mul_pos p1 hq,?_,Int.dvd_mul_left ..⟩
 obtain ⟨k,hk⟩:=d2
 refine ⟨k,?_⟩
 unfold scS
 conv=>lhs; rhs; rw [hk]
 rw [<- Int.mul_assoc,Int.ediv_mul_cancel d1]
theorem nY (r:List Rat) (q:Rat):scL (r++[q])=scS (scL r) q:=by unfold scL; rw [List.foldl_append]; rfl
theorem pU:∀ (r:List Rat) (s:Int),0 < s->0 < r.foldl scS s/\s ∣ r.foldl scS s/\∀ q ∈ r,((q.den:Nat):Int) ∣ r.foldl scS s
 | [],s,h=>⟨h,Int.dvd_refl _,λ_ z=>nomatch z⟩
 | q :: r,s,h=>by
   obtain ⟨a1,a2,a3⟩:=Ay h q
   obtain ⟨b1,b2,b3⟩:=pU r _ a1
   exact ⟨b1,Int.dvd_trans a2 b2,λx hx=>(List.mem_cons.mp hx).elim (λe=>by rw [e]; exact Int.dvd_trans a3 b2) (b3 x)⟩
theorem fA (r:List Rat):0 < scL r/\∀ q ∈ r,((q.den:Nat):Int) ∣ scL r:=⟨(pU r 1 (by decide)).1,(pU r 1 (by decide)).2.2⟩
theorem vF {d:Nat}:∀ (r:List Rat) (s:Int) (n:Nat),Bd n s->(∀ q ∈ r,Bd d (q.den:Nat))->Bd (n + r.length * d) (r.foldl scS s)
 | [],s,n,h,_=>by simpa using h
 | q :: r,s,n,h,hd=>by
   have h1:Bd (n + d) (scS s q):=(h.ediv _).mul (hd q (List.mem_cons_self ..))
   have:=vF r _ _ h1 λx hx=>hd x (List.mem_cons_of_mem _ hx)
   rw [List.length_cons,Nat.succ_mul]
   rwa [show n + d + r.length * d=n + (r.length * d + d) by omega] at this
theorem eD {d:Nat} {r:List Rat} (h:∀ q ∈ r,Bd d (q.den:Nat)):Bd (1 + r.length * d) (scL r):=vF r 1 1 (by unfold Bd; decide) h
noncomputable def gi (ds:List D) (r:Sl):Prop:=∃ (q:List Rat) (d:Nat),ds=[rwQ q]/\q.length<=1000/\(∀ x ∈ q,Bd d (x.den:Nat))/\1 + q.length * d<=8999/\d<=8999/\r=.d (.int (scL q))
noncomputable def whR (r:List Rat) (s:Int):List Int:=r.map λq=>q.num * (s / (q.den:Nat))
theorem Bf {q:Rat} {s:Int} (h:((q.den:Nat):Int) ∣ s):((q.num * (s / (q.den:Nat)):Int):Rat)=q * (s:Rat):=by
 obtain ⟨k,rfl⟩:=h
 have:=den_pos q
 rw [Int.mul_ediv_cancel_left _ (by omega),Rat.intCast_mul,Rat.intCast_mul,<- Rat.mul_assoc,b6]
theorem yI {d v n:Nat} {q:Rat} {s:Int} (hq:Qs d v q) (h:((q.den:Nat):Int) ∣ s) (hs:Bd n s):Bd (v + n) (q.num * (s / (q.den:Nat))):=by
 obtain ⟨k,rfl⟩:=h
 have hd:=den_pos q
 rw [Int.mul_ediv_cancel_left _ (by omega)]
 unfold Bd at hs ⊢
 rw [Int.natAbs_mul,Nat.pow_add]
 rw [Int.natAbs_mul,Int.natAbs_natCast] at hs
 have h1:q.num.natAbs * k.natAbs<=2 ^ v * q.den * k.natAbs:=Nat.mul_le_mul_right _ hq.val
 rw [Nat.mul_assoc] at h1
 exact Nat.lt_of_le_of_lt h1 (Nat.mul_lt_mul_of_pos_left hs (Nat.two_pow_pos v))
noncomputable def fE (ds:List D) (r:Sl):Prop:=∃ (q:List Rat) (s:Int) (n:Nat),ds=[rwQ q,.int s]/\q.length<=1000/\(∀ x ∈ q,Sq n x)/\n<=8999/\Bd 8999 s/\r=.o ((whR q s).map .int)
noncomputable def prZ (ns:List Int):Int:=ns.foldl (· * ·) 1
theorem jl (ns:List Int) (n:Int):prZ (ns++[n])=prZ ns * n:=by unfold prZ; rw [List.foldl_append]; rfl
theorem vm {d:Nat}:∀ (r:List Int) (s:Int) (n:Nat),Bd n s->(∀ q ∈ r,Bd d q)->Bd (n + r.length * d) (r.foldl (· * ·) s)
 | [],s,n,h,_=>by simpa using h
 | q :: r,s,n,h,hd=>by
   have:=vm r _ _ (h.mul (hd q (List.mem_cons_self ..))) λx hx=>hd x (List.mem_cons_of_mem _ hx)
   rw [List.length_cons,Nat.succ_mul]
   rwa [show n + d + r.length * d=n + (r.length * d + d) by omega] at this
theorem qp {d:Nat} {r:List Int} (h:∀ q ∈ r,Bd d q):Bd (1 + r.length * d) (prZ r):=vm r 1 1 (by unfold Bd; decide) h
theorem qR:∀ (r:List Int) (s:Int),0 < s->(∀ q ∈ r,0 < q)->0 < r.foldl (· * ·) s
 | [],_,h,_=>h
 | q :: r,s,h,hq=>qR r _ (Int.mul_pos h (hq q (List.mem_cons_self ..))) λx hx=>hq x (List.mem_cons_of_mem _ hx)
theorem xZ {r:List Int} (h:∀ q ∈ r,0 < q):0 < prZ r:=qR r 1 (by decide) h
noncomputable def cv (ds:List D) (r:Sl):Prop:=∃ (q:List Int) (d:Nat),ds=[.lst (q.map .int)]/\(∀ x ∈ q,Bd d x)/\1 + q.length * d<=900000/\d<=900000/\r=.d (.int (prZ q))
noncomputable def dr (ds:List D) (r:Sl):Prop:=∃ (R:Nat) (M:List (List Rat)),ds=[tbQ M]/\Tq R R M/\r=.d .non
section
variable {P:Program} {w:World} {K:PySem.W.Frag} {mg:Str->Option Value} {base:Heap} {k:Nat} {f:Addr} {fd:FuncData} {qual:Str}
theorem om (F:Fun K "scale_of" qual (top 33) f fd) (hb:∀ x ∈ ah,mg x=none) (c_common_divisor:Cal P w K mg base k "common_divisor" aZ):aN P w K mg base CX0 (k + 1) f fd ["row"] (spD K gi):=by
 refine fnD F iP hb (by rintro _ _ ⟨_,_,rfl,_⟩; rfl) ?_
 rintro _ _ ⟨q,d,rfl,hl,hd,hb1,hd1,rfl⟩ cdv A outer s H E b
 have nd:=iP.nd
 refine az 1 nd ae ?_
 refine bE 2 (g:=λi=>frD (q.getD i 0)) (λi τ=>i<=q.length/\∃ s2,τ=[.d (rwQ q),.d (.int (scL (q.take i))),s2]) b nd (aR (aa 0)) (cF (f:=frD) (xs:=q) 0) ⟨Nat.zero_le _,.un,rfl⟩ (λi hi τ h=>?_) λτ h=>?_
 · obtain ⟨_,s2,rfl⟩:=h
   have hi:i < q.length:=by simpa using hi
   have mm:=bj (d:=(0:Rat)) hi
   have hs:=(fA (q.take i)).1
   have bs:Bd (1 + q.length * d) (scL (q.take i)):=(eD λx hx=>hd x (List.mem_of_mem_take hx)).mono (by
     have:(q.take i).length * d<=q.length * d:=Nat.mul_le_mul_right _ (by rw [List.length_take]; omega)
     omega)
   have et:q.take (i + 1)=q.take i++[q.getD i 0]:=by rw [List.take_succ,List.getElem?_eq_getElem hi]; simp [hi]
   rw [et,nY]
   generalize scL (q.take i)=sc at hs bs ⊢
   generalize q.getD i 0=x at mm ⊢
   have hx:=den_pos x
   have dv:aA (Int.gcd sc (x.den:Nat):Int):=((hd x mm).gcd (by omega)).aA (eg (by omega)) (by omega)
   refine az 1 nd (aB (aB (aa 1) (x_call b c_common_divisor (ab (aa 1) (ab (aG (aa 2) ae (aJ (aw (i:=1) rfl))) af)) ⟨_,_,rfl,rfl⟩) (a5 dv)) (aG (aa 2) ae (aJ (aw (i:=1) rfl))) (aW ?_)) (aM ⟨hi,.d (frD x),?_⟩)
   · rw [aY]; exact (bs.ediv _).ay (hd x mm) (by omega) (by omega)
   · rw [aY]; rfl
 · obtain ⟨_,s2,rfl⟩:=h
   rw [List.length_map,List.take_length]
   exact aK (aa 1) rfl
theorem l6 (F:Fun K "whole_row" qual (top 34) f fd) (hb:∀ x ∈ ah,mg x=none):aN P w K mg base CX0 (k + 1) f fd ["row","scale"] (spD K fE):=by
 refine fnD F mL hb (by rintro _ _ ⟨_,_,_,rfl,_⟩; rfl) ?_
 rintro _ _ ⟨q,s0,n,rfl,hl,hq,hn,hs,rfl⟩ cdv A outer s H E b
 refine aK (bZ (cmp 0 (f:=λi=>.int ((q.getD i 0).num * (s0.fdiv ((q.getD i 0).den:Nat)))) b (aR (aa 0)) (cF (f:=frD) (xs:=q) 0) (by rw [List.length_map]; omega) λi hi s1 H0 fp=>?_)) ?_
 · have sq:=hq _ (bj (d:=(0:Rat)) (by simpa using hi))
   generalize q.getD i 0=x at sq ⊢
   have hx:=den_pos x
   have e:s0.fdiv (x.den:Nat)=s0 / (x.den:Nat):=Int.fdiv_eq_ediv_of_nonneg _ (by omega)
   exact aB (aG (aa 0) ae (aJ (aw (i:=0) rfl))) (aB (aa 1) (aG (aa 0) ae (aJ (aw (i:=1) rfl))) (a5 (sq.den.aA (by omega) (by omega)))) (aW (by rw [e]; exact sq.num.ay (hs.ediv _) (by omega) (by omega)))
 · refine congrArg Sl.o ((df (λx:Rat=>D.int (x.num * (s0.fdiv (x.den:Nat)))) q 0 (List.length_map ..)).trans ?_)
   unfold whR
   rw [List.map_map]
   refine List.map_congr_left λx _=>?_
   simp only [Function.comp]
   rw [Int.fdiv_eq_ediv_of_nonneg _ (by have:=den_pos x; omega)]
theorem gX (F:Fun K "product_of_all" qual (top 36) f fd) (hb:∀ x ∈ ah,mg x=none):aN P w K mg base CX0 (k + 1) f fd ["numbers"] (spD K cv):=by
 refine fnD F dg hb (by rintro _ _ ⟨_,_,rfl,_⟩; rfl) ?_
 rintro _ _ ⟨q,d,rfl,hd,hb1,hd1,rfl⟩ cdv A outer s H E b
 have nd:=dg.nd
 refine az 1 nd ae ?_
 refine bE 2 (g:=λi=>.int (q.getD i 0)) (λi τ=>i<=q.length/\∃ s2,τ=[.d (.lst (q.map .int)),.d (.int (prZ (q.take i))),s2]) b nd (aR (aa 0)) (cF (f:=D.int) (xs:=q) 0) ⟨Nat.zero_le _,.un,rfl⟩ (λi hi τ h=>?_) λτ h=>?_
 · obtain ⟨_,s2,rfl⟩:=h
   have hi:i < q.length:=by simpa using hi
   have mm:=bj (d:=(0:Int)) hi
   have bs:Bd (1 + q.length * d) (prZ (q.take i)):=(qp λx hx=>hd x (List.mem_of_mem_take hx)).mono (by
     have:(q.take i).length * d<=q.length * d:=Nat.mul_le_mul_right _ (by rw [List.length_take]; omega)
     omega)
   have et:q.take (i + 1)=q.take i++[q.getD i 0]:=by rw [List.take_succ,List.getElem?_eq_getElem hi]; simp [hi]
   rw [et,jl]
   exact az 1 nd (aB (aa 1) (aa 2) (aW (bs.ay (hd _ mm) (by omega) (by omega)))) (aM ⟨hi,_,rfl⟩)
 · obtain ⟨_,s2,rfl⟩:=h
   rw [List.length_map,List.take_length]
   exact aK (aa 1) rfl
theorem jE (F:Fun K "look_square" qual (top 32) f fd) (hb:∀ x ∈ ah,mg x=none):aN P w K mg base CX0 (k + 1) f fd ["table"] (spD K dr):=by
 refine fnD F jU hb (by rintro _ _ ⟨_,_,rfl,_⟩; rfl) ?_
 rintro _ _ ⟨R,M,rfl,t,rfl⟩ cdv A outer s H E b
 have r1:=t.r1
 have e0:atI (M.map rwQ) 0=some (rwQ (M.getD 0 [])):=du [] (i:=0) (by rw [t.len]; omega)
 refine cM (bf (a4 b (ab (aa 0) af) (cD (n:=R) (by rw [List.length_map]; exact t.len))) (a4 b (ab (aG (aa 0) ae (aU e0)) af) (cD (n:=R) (by rw [List.length_map]; exact t.at_ (by omega)))) pg) ?_ (aM rfl)
 rw [decide_eq_true rfl]; rfl
end
noncomputable def whM (M:List (List Rat)) (ss:List Int):List (List Int):=(List.range M.length).map λi=>whR (M.getD i []) (ss.getD i 0)
theorem tS {α β:Type} {f:α->D} {g:β->D} {xs:List α} {ys:List β} (d:α) (e:β) (i:Nat) (h:i < (ek (xs.map f) (ys.map g)).length):(ek (xs.map f) (ys.map g))[i]=.tup [f (xs.getD i d),g (ys.getD i e)]:=by
 rw [bJ,List.length_map,List.length_map] at h
 have h1:i < xs.length:=by omega
 have h2:i < ys.length:=by omega
 simp [ek,h1,h2]
noncomputable def dZ (ds:List D) (r:Sl):Prop:=∃ (M:List (List Rat)) (ss:List Int) (n:Nat),ds=[tbQ M,.lst (ss.map .int)]/\M.length=ss.length/\M.length<=1000/\(∀ r ∈ M,r.length<=1000/\∀ x ∈ r,Sq n x)/\n<=8999/\(∀ s ∈ ss,Bd 8999 s)/\r=.o ((whM M ss).map dtR)
noncomputable def pvF (G:List (List Int)) (k:Nat):Nat->Option Nat
 | 0=>none
 | t + 1=>match pvF G k t with
   | some i=>some i
   | none=>if (G.getD (k + t) []).getD k 0 ≠ 0 then some (k + t) else none
noncomputable def pvP (G:List (List Int)) (k:Nat):Option Nat:=pvF G k (G.length - k)
noncomputable def pvD:Option Nat->D
 | none=>.non
 | some i=>.int (i:Nat)
theorem pd {G:List (List Int)} {k:Nat}:∀ t,pvF G k t=none->∀ i,i < t->(G.getD (k + i) []).getD k 0=0
 | t + 1,h,i,hi=>by
   rw [pvF] at h
   cases e:pvF G k t with
   | some j=>rw [e] at h; cases h
   | none=>
     rw [e] at h
     have h:(if (G.getD (k + t) []).getD k 0 ≠ 0 then some (k + t) else none)=none:=h
     by_cases z:i < t
     · exact pd t e i z
     · obtain rfl:i=t:=by omega
       by_cases y:(G.getD (k + i) []).getD k 0=0
       · exact y
       · rw [if_pos y] at h; cases h
theorem oG {G:List (List Int)} {k:Nat}:∀ t j,pvF G k t=some j->k<=j/\j < k + t/\(G.getD j []).getD k 0 ≠ 0
 | t + 1,j,h=>by
   rw [pvF] at h
   cases e:pvF G k t with
   | some i=>
     rw [e] at h
     cases h
     have:=oG t _ e
     exact ⟨this.1,by omega,this.2.2⟩
   | none=>
     rw [e] at h
     have h:(if (G.getD (k + t) []).getD k 0 ≠ 0 then some (k + t) else none)=some j:=h
     split at h
     · rename_i y
       cases h
       exact ⟨by omega,by omega,y⟩
     · cases h
theorem nM {G:List (List Int)} {k:Nat} {t j:Nat} (h:pvF G k t=some j):∀ u,pvF G k (t + u)=some j
 | 0=>h
 | u + 1=>by rw [<- Nat.add_assoc,pvF,nM h u]
noncomputable def dH (ds:List D) (r:Sl):Prop:=∃ (n:Nat) (G:List (List Int)) (k:Nat),ds=[.lst (G.map dtR),.int (k:Nat)]/\G.length=n/\n<=1000/\(∀ r ∈ G,r.length=n)/\k < n/\r=.d (pvD (pvP G k))
noncomputable def clR (r p:List Int) (k:Nat) (l:Int) (n:Nat):List Int:=(List.range n).map λj=>((r.getD j 0 * p.getD k 0) - (p.getD j 0 * r.getD k 0)).fdiv l
noncomputable def ij (ds:List D) (r:Sl):Prop:=∃ (n:Nat) (q p:List Int) (k:Nat) (l:Int) (B:Nat),ds=[dtR q,dtR p,.int (k:Nat),.int l]/\q.length=n/\p.length=n/\n<=1000/\k < n/\(∀ x ∈ q,Bd B x)/\(∀ x ∈ p,Bd B x)/\B<=900000/\l ≠ 0/\Bd 8999 l/\r=.o ((clR q p k l n).map .int)
section
variable {P:Program} {w:World} {K:PySem.W.Frag} {mg:Str->Option Value} {base:Heap} {k:Nat} {f:Addr} {fd:FuncData} {qual:Str}
theorem kD (F:Fun K "whole_rows" qual (top 35) f fd) (hb:∀ x ∈ ah,mg x=none) (c_whole_row:Cal P w K mg base k "whole_row" fE):aN P w K mg base CX0 (k + 1) f fd ["table","scales"] (spD K dZ):=by
 refine fnD F kC hb (by rintro _ _ ⟨_,_,_,rfl,_⟩; rfl) ?_
 rintro _ _ ⟨M,ss,n,rfl,hl,h1,hM,hn,hs,rfl⟩ cdv A outer s H E b
 have zl:(ek (M.map rwQ) (ss.map D.int)).length=M.length:=by rw [bJ,List.length_map,List.length_map]; omega
 refine aK (bZ (yi 0 1 (g:=λi=>rwQ (M.getD i [])) (g':=λi=>.int (ss.getD i 0)) (f:=λi=>dtR (whR (M.getD i []) (ss.getD i 0))) b (rj b (aa 0) (aa 1)) (tS [] 0) (by rw [zl]; omega) λi hi s0 H0 fp=>?_)) ?_
 · rw [zl] at hi
   obtain ⟨g1,g2⟩:=hM _ (bj (d:=[]) hi)
   exact aS (x_call (b.comp s0 H0 _ fp) c_whole_row (ab (aa 0) (ab (aa 1) af)) ⟨_,_,n,rfl,g1,g2,hn,hs _ (bj (by omega)),rfl⟩)
 · unfold whM
   rw [zl,List.map_map]
   rfl
theorem jm (F:Fun K "pivot_place" qual (top 38) f fd) (hb:∀ x ∈ ah,mg x=none):aN P w K mg base CX0 (k + 1) f fd ["grid","k"] (spD K dH):=by
 refine fnD F fD hb (by rintro _ _ ⟨_,_,_,rfl,_⟩; rfl) ?_
 rintro _ _ ⟨n,G,k0,rfl,hG,h1,hr,hk,rfl⟩ cdv A outer s H E b
 have nd:=fD.nd
 refine bE 2 (λi τ=>pvF G k0 i=none/\∃ s2,τ=[.d (.lst (G.map dtR)),.d (.int (k0:Nat)),s2]) b nd (kf b (aa 1) (a4 b (ab (aa 0) af) (cD (n:=n) (by rw [List.length_map]; exact hG))) (by omega)) u0 ⟨rfl,.un,rfl⟩ (λi hi τ h=>?_) λτ h=>?_
 · obtain ⟨h0,s2,rfl⟩:=h
   rw [av] at hi
   have hi':k0 + i < n:=by omega
   have e:((k0:Int) + (i:Int))=((k0 + i:Nat):Int):=by omega
   rw [e]
   have a1:atI (G.map dtR) ((k0 + i:Nat):Int)=some (dtR (G.getD (k0 + i) [])):=du [] (by omega)
   have hl:(G.getD (k0 + i) []).length=n:=hr _ (bj (by omega))
   have a2:atI ((G.getD (k0 + i) []).map D.int) (k0:Int)=some (.int ((G.getD (k0 + i) []).getD k0 0)):=atR (by omega)
   refine eZ (bf (aG (aG (aa 0) (aa 2) (aU a1)) (aa 1) (aU a2)) ae pg) (λz=>?_) λz=>?_
   · refine aK (aa 2) ?_
     have z:(!decide ((G.getD (k0 + i) []).getD k0 0=0))=true:=z
     have z:(G.getD (k0 + i) []).getD k0 0 ≠ 0:=by simpa using z
     have e1:pvF G k0 (i + 1)=some (k0 + i):=by rw [pvF,h0]; exact if_pos z
     have e2:pvP G k0=some (k0 + i):=by
       unfold pvP
       have:=nM e1 (G.length - k0 - (i + 1))
       rwa [show i + 1 + (G.length - k0 - (i + 1))=G.length - k0 by omega] at this
     rw [e2]
     rfl
   · refine aM ⟨?_,_,rfl⟩
     have z:(!decide ((G.getD (k0 + i) []).getD k0 0=0))=false:=z
     have z:(G.getD (k0 + i) []).getD k0 0=0:=by simpa using z
     rw [pvF,h0]
     exact if_neg (λy=>y z)
 · obtain ⟨h0,s2,rfl⟩:=h
   rw [av] at h0
   refine aK ur ?_
   have:pvP G k0=none:=by
     unfold pvP
     rw [hG,<- h0]
     congr 1
     omega
   rw [this]
   rfl
theorem qo (F:Fun K "cleared" qual (top 39) f fd) (hb:∀ x ∈ ah,mg x=none):aN P w K mg base CX0 (k + 1) f fd ["row","pivot_row","k","last"] (spD K ij):=by
 refine fnD F jP hb (by rintro _ _ ⟨_,_,_,_,_,_,rfl,_⟩; rfl) ?_
 rintro _ _ ⟨n,q,p,k0,l,B,rfl,hq,hp,hn,hk,bq,bp,hB,hl,bl,rfl⟩ cdv A outer s H E b
 have nd:=jP.nd
 have zl:(ek (q.map D.int) (p.map D.int)).length=n:=by rw [bJ,List.length_map,List.length_map]; omega
 refine az 4 nd (aG (aa 1) (aa 2) (aU (atR (by omega)))) ?_
 refine az 5 nd (aG (aa 0) (aa 2) (aU (atR (by omega)))) ?_
 refine aK (bZ (yi 0 1 (g:=λi=>.int (q.getD i 0)) (g':=λi=>.int (p.getD i 0)) (f:=λj=>.int (((q.getD j 0 * p.getD k0 0) - (p.getD j 0 * q.getD k0 0)).fdiv l)) b (rj b (aa 0) (aa 1)) (tS 0 0) (by rw [zl]; omega) λi hi s0 H0 fp=>?_)) ?_
 · rw [zl] at hi
   have m1:=bq _ (bj (d:=(0:Int)) (show i < q.length by omega))
   have m2:=bp _ (bj (d:=(0:Int)) (show k0 < p.length by omega))
   have m3:=bp _ (bj (d:=(0:Int)) (show i < p.length by omega))
   have m4:=bq _ (bj (d:=(0:Int)) (show k0 < q.length by omega))
   exact aB (aB (aB (aa 0) (aa 4) (aW (m1.ay m2 (by omega) (by omega)))) (aB (aa 1) (aa 2) (aW (m3.ay m4 (by omega) (by omega)))) iO) (aa 3) (a5 (bl.aA hl (by decide)))
 · unfold clR
   rw [zl,List.map_map]
   rfl
end
theorem yV {α β:Type} (g:α->β) (x:α):∀ (m:Nat) (ys:List α),(ys.map g).insertIdx m (g x)=(ys.insertIdx m x).map g
 | 0,_=>rfl
 | m + 1,[]=>rfl
 | m + 1,y :: ys=>by rw [List.map_cons,List.insertIdx_succ_cons,List.insertIdx_succ_cons,List.map_cons,yV g x m ys]
theorem qb {α:Type} (d:α) {G:List α} {k m:Nat} (h:k + m < G.length) (i:Nat):((G.eraseIdx (k + m)).insertIdx k (G.getD (k + m) d)).getD i d=G.getD (rho k m i) d:=by
 have hl:(G.eraseIdx (k + m)).length=G.length - 1:=List.length_eraseIdx_of_lt h
 simp only [List.getD_eq_getElem?_getD]
 rw [List.getElem?_insertIdx]
 unfold rho
 by_cases h1:i < k
 · rw [if_pos h1,if_pos h1,List.getElem?_eraseIdx_of_lt (by omega)]
 · rw [if_neg h1,if_neg h1]
   by_cases h2:i=k
   · rw [if_pos h2,if_pos h2,if_pos (by omega)]
     rw [List.getElem?_eq_getElem h]
     rfl
   · rw [if_neg h2,if_neg h2,List.getElem?_eraseIdx]
     by_cases h3:i<=k + m
     · rw [if_pos h3,if_pos (by omega)]
     · rw [if_neg h3,if_neg (by omega),show i - 1 + 1=i by omega]
theorem mM {k m n i:Nat} (h:k + m < n) (hi:i < n):rho k m i < n/\(k<=i->k<=rho k m i):=by
 unfold rho
 repeat' split
 all_goals omega
theorem yk {n b k p q:Nat} {Y:Nat->Nat->Rat} (hY:∀ i < n,∀ j < n,ZB b (Y i j)) (hk:k < n) (hp:p < n) (hq:q < n) (h7:n<=7):ZB ((k + 1) * (b + 3)) (bm Y k p q):=by
 unfold bm
 exact xi (by omega) λr hr c hc=>hY _ (by split <;> omega) _ (by split <;> omega)
theorem ym {B c:Nat} {x:Rat} {z:Int} (h:ZB c x) (e:(z:Rat)=x) (hc:c < B):Bd B z:=by
 obtain ⟨y,e1,e2⟩:=h
 rw [e1] at e
 rw [Rat.intCast_inj.mp e]
 exact Nat.lt_of_le_of_lt e2 (Nat.pow_lt_pow_right (by decide) hc)
structure WI (n b:Nat) (M:Nat->Nat->Rat) (k:Nat) (G:List (List Int)) (s l:Int) (Y:Nat->Nat->Rat):Prop where
 zb:∀ i < n,∀ j < n,ZB b (Y i j)
 dt:det n M=(s:Rat) * det n Y
 sg:s=1\/s=-1
 last:(l:Rat)=det k Y
 nz:det k Y ≠ 0
 len:G.length=n
 row:∀ i,i < n->(G.getD i []).length=n
 ent:∀ i,k<=i->i < n->∀ j,j < n->(((G.getD i []).getD j 0:Int):Rat)=bm Y k i j
theorem WI.zero {n b:Nat} {Ms:List (List Int)} (h1:Ms.length=n) (hr:∀ r ∈ Ms,r.length=n/\∀ x ∈ r,x.natAbs<=2 ^ b):WI n b (dtM Ms) 0 Ms 1 1 (dtM Ms):=by
 have rw':∀ i,i < n->(Ms.getD i []).length=n:=λi hi=>(hr _ (bj (by omega))).1
 refine ⟨λi hi j hj=>⟨_,rfl,(hr _ (bj (d:=[]) (show i < Ms.length by omega))).2 _ (bj (d:=(0:Int)) (by rw [rw' i hi]; exact hj))⟩,?_,.inl rfl,rfl,by show (1:Rat) ≠ 0; decide,h1,rw',λi _ hi j hj=>?_⟩
 · rw [show ((1:Int):Rat)=1 from rfl,Rat.one_mul]
 · unfold bm
   rw [gU]
   rfl
theorem WI.rot {n b k m:Nat} {M Y:Nat->Nat->Rat} {G:List (List Int)} {s l:Int} (W:WI n b M k G s l Y) (h:k + m < n):WI n b M k ((G.eraseIdx (k + m)).insertIdx k (G.getD (k + m) [])) (if m % 2=1 then -s else s) l (λr=>Y (rho k m r)):=by
 have hG:k + m < G.length:=by rw [W.len]; exact h
 have e:=m9 (k:=k) (n:=n) m Y h
 refine ⟨λi hi j hj=>W.zb _ (mM h hi).1 j hj,?_,?_,?_,?_,?_,λi hi=>?_,λi ki hi j hj=>?_⟩
 · rw [e,W.dt]
   unfold sgn
   by_cases z:m % 2=1
   · rw [if_pos z,if_neg (by omega),Rat.intCast_neg]
     simp [Rat.neg_mul,Rat.mul_neg]
   · rw [if_neg z,if_pos (by omega),Rat.one_mul]
 · rcases W.sg with z | z <;> rw [z] <;> split <;> first | exact .inl rfl | exact .inr rfl
 · rw [k6]; exact W.last
 · rw [k6]; exact W.nz
 · rw [List.length_insertIdx_of_le_length (by rw [List.length_eraseIdx_of_lt hG]; omega),List.length_eraseIdx_of_lt hG,W.len]; omega
 · rw [qb [] hG]; exact W.row _ (mM h hi).1
 · rw [qb [] hG,zq]
   exact W.ent _ ((mM h hi).2 ki) (mM h hi).1 j hj
theorem WI.clear {n b k:Nat} {M Y:Nat->Nat->Rat} {G:List (List Int)} {s l:Int} (W:WI n b M k G s l Y) (h:k < n) (h7:n<=7) {i:Nat} (ki:k < i) (hi:i < n) {j:Nat} (hj:j < n):(((clR (G.getD i []) (G.getD k []) k l n).getD j 0:Int):Rat)=bm Y (k + 1) i j:=by
 have g0:(clR (G.getD i []) (G.getD k []) k l n).getD j 0=(((G.getD i []).getD j 0 * (G.getD k []).getD k 0) - ((G.getD k []).getD j 0 * (G.getD i []).getD k 0)).fdiv l:=by
   unfold clR
   simp [hj]
 obtain ⟨z,e1,_⟩:=yk (k:=k + 1) (p:=i) (q:=j) W.zb (by omega) hi hj h7
 have st:=w8 (Y:=Y) (k:=k) (i:=i) (j:=j) W.nz
 rw [<- W.ent k (Nat.le_refl _) h k h,<- W.ent i (by omega) hi j hj,<- W.ent k (Nat.le_refl _) h j hj,<- W.ent i (by omega) hi k h,e1,<- W.last] at st
 have st':l * z=(G.getD k []).getD k 0 * (G.getD i []).getD j 0 - (G.getD k []).getD j 0 * (G.getD i []).getD k 0:=by
   apply Rat.intCast_inj.mp
   rw [Rat.intCast_mul,Rat.intCast_sub,Rat.intCast_mul,Rat.intCast_mul]
   exact st
 have l0:l ≠ 0:=λq=>W.nz (by rw [<- W.last,q]; rfl)
 rw [g0,Int.mul_comm ((G.getD i []).getD j 0),<- st',e1,Int.mul_fdiv_cancel_left _ l0]
theorem WI.next {n b k:Nat} {M Y:Nat->Nat->Rat} {G G':List (List Int)} {s l:Int} (W:WI n b M k G s l Y) (h:k < n) (h7:n<=7) (hp:(G.getD k []).getD k 0 ≠ 0) (hl:G'.length=n) (hG:∀ i,i < n->G'.getD i []=if k < i then clR (G.getD i []) (G.getD k []) k l n else G.getD i []):WI n b M (k + 1) G' s ((G.getD k []).getD k 0) Y:=by
 have e:=W.ent k (Nat.le_refl _) h k h
 rw [wQ] at e
 refine ⟨W.zb,W.dt,W.sg,e,λz=>hp (by rw [z] at e; exact Rat.intCast_eq_zero_iff.mp e),hl,λi hi=>?_,λi ki hi j hj=>?_⟩
 · rw [hG i hi]
   split
   · unfold clR; simp
   · exact W.row i hi
 · rw [hG i hi,if_pos (by omega)]
   exact W.clear h h7 (by omega) hi hj
theorem WI.no {n b k:Nat} {M Y:Nat->Nat->Rat} {G:List (List Int)} {s l:Int} (W:WI n b M k G s l Y) (h:k < n) (hz:∀ i,i < n - k->(G.getD (k + i) []).getD k 0=0):det n M=0:=by
 rw [W.dt,wG W.nz h λp kp hp=>?_,Rat.mul_zero]
 rw [<- W.ent p kp hp k h,<- show k + (p - k)=p by omega,hz (p - k) (by omega)]
 rfl
theorem WI.bd {n b k:Nat} {M Y:Nat->Nat->Rat} {G:List (List Int)} {s l:Int} (W:WI n b M k G s l Y) (h7:n<=7) (hb:n * (b + 3)<=8998) {i:Nat} (ki:k<=i) (hi:i < n):∀ x ∈ G.getD i [],Bd 8999 x:=λx hx=>by
 obtain ⟨j,hj,rfl⟩:=List.getElem_of_mem hx
 have hj':j < n:=by rw [<- W.row i hi]; exact hj
 have e:=W.ent i ki hi j hj'
 have e2:(G.getD i []).getD j 0=(G.getD i [])[j]:=by rw [List.getD_eq_getElem?_getD (l:=G.getD i []),List.getElem?_eq_getElem hj]; rfl
 rw [e2] at e
 refine ym (yk W.zb (by omega) hi hj' h7) e ?_
 have:(k + 1) * (b + 3)<=n * (b + 3):=Nat.mul_le_mul_right _ (by omega)
 omega
theorem WI.lbd {n b k:Nat} {M Y:Nat->Nat->Rat} {G:List (List Int)} {s l:Int} (W:WI n b M k G s l Y) (hk:k<=n) (h7:n<=7) (hb:n * (b + 3)<=8998):Bd 8999 l:=by
 refine ym (xi (b:=b) (n:=k) (M:=Y) (by omega) λi hi j hj=>W.zb i (by omega) j (by omega)) W.last ?_
 have:k * (b + 3)<=n * (b + 3):=Nat.mul_le_mul_right _ hk
 omega
noncomputable def wdZ (Ms:List (List Int)):Int:=(det Ms.length (dtM Ms)).num
theorem v7 {Ms:List (List Int)} {z:Int} (h:(z:Rat)=det Ms.length (dtM Ms)):wdZ Ms=z:=by unfold wdZ; rw [<- h]; rfl
noncomputable def bO (ds:List D) (r:Sl):Prop:=∃ (n b:Nat) (Ms:List (List Int)),ds=[.lst (Ms.map dtR)]/\Ms.length=n/\n<=7/\(∀ r ∈ Ms,r.length=n/\∀ x ∈ r,x.natAbs<=2 ^ b)/\n * (b + 3)<=8998/\r=.d (.int (wdZ Ms))
theorem uM {X:Cx} {o:Option Nat}:cx X (compareOp .Is) (pvD o) .non (.bl o.isNone):=⟨_,zH,λ_ v w H Q _ d1 d2 k=>by
 cases d2
 cases o with
 | none=>cases d1; exact ⟨rfl,by rw [decide_eq_true rfl]; exact k _ H (aj.refl _) .bl⟩
 | some i=>cases d1; exact ⟨rfl,by rw [decide_eq_false (by intro z; cases z)]; exact k _ H (aj.refl _) .bl⟩⟩
theorem B4 (o:Option Nat):wI (.d (pvD o))=true:=by cases o <;> rfl
theorem xq (ns:List Int):wI (.o (ns.map .int))=true:=by
 show (ns.map D.int).all flat=true
 rw [List.all_map,List.all_eq_true]
 intro _ _
 rfl
theorem qA {n m:Nat} (h:m < n):ixN n (m:Int)=some m:=by
 unfold ixN
 rw [if_pos (by omega),if_pos (by omega)]
 simp
section
variable {P:Program} {w:World} {K:PySem.W.Frag} {mg:Str->Option Value} {base:Heap} {k:Nat} {f:Addr} {fd:FuncData} {qual:Str}
set_option maxHeartbeats 1000000 in
theorem fj (F:Fun K "whole_determinant" qual (top 37) f fd) (hb:∀ x ∈ ah,mg x=none) (c_pivot_place:Cal P w K mg base k "pivot_place" dH) (c_cleared:Cal P w K mg base k "cleared" ij):aN P w K mg base CX0 (k + 1) f fd ["rows"] (spD K bO):=by
 refine fnD F cG hb (by rintro _ _ ⟨_,_,_,rfl,_⟩; rfl) ?_
 rintro _ _ ⟨n,b0,Ms,rfl,hl,h7,hr,hb0,rfl⟩ cdv A outer s H E b
 have nd:=cG.nd
 refine az 1 nd (nK b (ab (aa 0) af) iF) ?_
 refine az 2 nd (a4 b (ab (aa 0) af) (cD (n:=n) (by rw [List.length_map]; exact hl))) ?_
 refine az 3 nd ae ?_
 refine az 4 nd ae ?_
 refine bE 5 (λi τ=>i<=n/\∃ G sg l Y s5 s6 s7,WI n b0 (dtM Ms) i G sg l Y/\τ=[.d (.lst (Ms.map dtR)),.o (G.map dtR),.d (.int (n:Nat)),.d (.int sg),.d (.int l),s5,s6,s7]) b nd (cH b (aa 2) (by omega) (by omega)) cE ⟨Nat.zero_le _,Ms,1,1,_,.un,.un,.un,WI.zero hl hr,rfl⟩ (λi hi τ h=>?_) λτ h=>?_
 · obtain ⟨_,G,sg,l,Y,s5,s6,s7,W,rfl⟩:=h
   have hi:i < n:=by rw [av] at hi; omega
   have gr:∀ r ∈ G,r.length=n:=λr hr'=>by
     obtain ⟨j,hj,rfl⟩:=List.getElem_of_mem hr'
     have:=W.row j (by rw [<- W.len]; exact hj)
     simpa [hj] using this
   refine az 6 nd (uJ 1 (C':=true) (s:=.d (pvD (pvP G i))) (x_call b c_pivot_place (ab (aa 1) (ab (aa 5) af)) ⟨n,G,i,rfl,W.len,by omega,gr,hi,rfl⟩) (B4 _)) ?_
   cases ep:pvP G i with
   | none=>
     refine eZ (bf (aa 6) ur (uM (o:=none))) (λ_=>?_) λz=>by cases z
     refine aK ae ?_
     unfold pvP at ep
     rw [W.len] at ep
     have:=W.no hi (pd _ ep)
     have:wdZ Ms=0:=v7 (by rw [hl]; exact this.symm)
     rw [this]
   | some j=>
     unfold pvP at ep
     obtain ⟨kj,jn,hp⟩:=oG _ _ ep
     rw [W.len] at jn
     obtain ⟨m,rfl⟩:∃ m,j=i + m:=⟨j - i,by omega⟩
     have him:i + m < n:=by omega
     refine cM (bf (aa 6) ur (uM (o:=some (i + m)))) rfl ?_
     have W2:=W.rot him
     refine jK (M:=λτ=>τ=[.d (.lst (Ms.map dtR)),.o (G.map dtR),.d (.int (n:Nat)),.d (.int (if m % 2=1 then -sg else sg)),.d (.int l),.d (.int (i:Nat)),.d (.int ((i + m:Nat):Int)),s7]) (bf (aB (aB (aa 6) (aa 5) iO) ae (eF (by decide))) ae gN) (λz=>?_) (λz=>?_) ?_
     · have z:=of_decide_eq_true z
       have:m % 2=1:=by rw [Int.fmod_eq_emod_of_nonneg _ (by decide)] at z; omega
       rw [if_pos this]
       exact az 3 nd (qv (aa 3)) (aM rfl)
     · have z:=of_decide_eq_false z
       have:¬ m % 2=1:=by rw [Int.fmod_eq_emod_of_nonneg _ (by decide)] at z; omega
       rw [if_neg this]
       exact aM rfl
     rintro _ rfl
     have hiG:i + m < G.length:=by rw [W.len]; exact him
     have hxj:(G.map dtR)[i + m]?=some (dtR (G.getD (i + m) [])):=by simp [hiG]
     refine B9 1 (k:=i) (j:=i + m) (dtR (G.getD (i + m) [])) (aa 5) (aa 6) hxj (by rw [List.length_map,W.len]; exact hi) (by rw [List.length_map,W.len]; omega) ?_
     have em:((G.map dtR).eraseIdx (i + m)).insertIdx i (dtR (G.getD (i + m) []))=((G.eraseIdx (i + m)).insertIdx i (G.getD (i + m) [])).map dtR:=by rw [<- uN,yV]
     rw [em]
     have hp2:(((G.eraseIdx (i + m)).insertIdx i (G.getD (i + m) [])).getD i []).getD i 0 ≠ 0:=by
       rw [qb [] (by rw [W.len]; exact him)]
       unfold rho
       rw [if_neg (by omega),if_pos rfl]
       exact hp
     generalize (G.eraseIdx (i + m)).insertIdx i (G.getD (i + m) [])=G2 at W2 hp2 ⊢
     generalize (if m % 2=1 then -sg else sg)=sg2 at W2 ⊢
     have l0:l ≠ 0:=λq=>W2.nz (by rw [<- W2.last,q]; rfl)
     refine bE 7 (g:=λt=>.int (((i:Int) + 1) + (t:Nat))) (λt τ=>∃ G3 s7,G3.length=n/\(∀ j,j < n->G3.getD j []=if i < j/\j < i + 1 + t then clR (G2.getD j []) (G2.getD i []) i l n else G2.getD j [])/\τ=[.d (.lst (Ms.map dtR)),.o (G3.map dtR),.d (.int (n:Nat)),.d (.int sg2),.d (.int l),.d (.int (i:Nat)),.d (.int ((i + m:Nat):Int)),s7]) b nd (kf b (aB (aa 5) ae bD) (aa 2) (by omega)) u0 ⟨G2,s7,W2.len,λj _=>by rw [if_neg (by omega)],rfl⟩ (λt ht τ h=>?_) λτ h=>?_
     · obtain ⟨G3,s7,g1,g2,rfl⟩:=h
       rw [av] at ht
       have hit:i + 1 + t < n:=by omega
       have ei:((i:Int) + 1) + (t:Nat)=((i + 1 + t:Nat):Int):=by omega
       rw [ei]
       have r3:G3.getD (i + 1 + t) []=G2.getD (i + 1 + t) []:=by rw [g2 _ hit,if_neg (by omega)]
       have r4:G3.getD i []=G2.getD i []:=by rw [g2 i hi,if_neg (by omega)]
       have a1:atI (G3.map dtR) ((i + 1 + t:Nat):Int)=some (dtR (G2.getD (i + 1 + t) [])):=by rw [<- r3]; exact du [] (by omega)
       have a2:atI (G3.map dtR) (i:Int)=some (dtR (G2.getD i [])):=by rw [<- r4]; exact du [] (by omega)
       refine Cz 1 (xs:=G3.map dtR) (j:=i + 1 + t) (x:=dtR (clR (G2.getD (i + 1 + t) []) (G2.getD i []) i l n)) (aa 7) (aS (uJ 1 (C':=true) (s:=.o ((clR (G2.getD (i + 1 + t) []) (G2.getD i []) i l n).map .int)) (x_call b c_cleared (ab (aG (aa 1) (aa 7) (aU a1)) (ab (aG (aa 1) (aa 5) (aU a2)) (ab (aa 5) (ab (aa 4) af)))) ⟨n,_,_,i,l,8999,rfl,W2.row _ hit,W2.row _ hi,by omega,hi,W2.bd h7 hb0 (by omega) hit,W2.bd h7 hb0 (Nat.le_refl _) hi,by decide,l0,W2.lbd (by omega) h7 hb0,rfl⟩) (xq _))) (qA (by rw [List.length_map,g1]; exact hit)) (aM ⟨G3.set (i + 1 + t) (clR (G2.getD (i + 1 + t) []) (G2.getD i []) i l n),.d (.int ((i + 1 + t:Nat):Int)),by rw [List.length_set]; exact g1,λj hj=>?_,by rw [List.map_set]; rfl⟩)
       by_cases z:j=i + 1 + t
       · subst z
         rw [if_pos (by omega)]
         simp [g1,hit]
       · have:(G3.set (i + 1 + t) (clR (G2.getD (i + 1 + t) []) (G2.getD i []) i l n)).getD j []=G3.getD j []:=by
           simp [List.getD_eq_getElem?_getD,List.getElem?_set_ne (Ne.symm z)]
         rw [this,g2 j hj]
         by_cases y:i < j/\j < i + 1 + t
         · rw [if_pos y,if_pos (by omega)]
         · rw [if_neg y,if_neg (by omega)]
     · obtain ⟨G3,s7,g1,g2,rfl⟩:=h
       rw [av] at g2
       have r4:G3.getD i []=G2.getD i []:=by rw [g2 i hi,if_neg (by omega)]
       have a2:atI (G3.map dtR) (i:Int)=some (dtR (G2.getD i [])):=by rw [<- r4]; exact du [] (by omega)
       have W3:=W2.next (G':=G3) hi h7 hp2 g1 λj hj=>by
         rw [g2 j hj]
         by_cases y:i < j
         · rw [if_pos (by omega),if_pos y]
         · rw [if_neg (by omega),if_neg y]
       exact az 4 nd (uJ 1 (C':=true) (s:=.d (.int ((G2.getD i []).getD i 0))) (aG (aG (aa 1) (aa 5) (aU a2)) (aa 5) (aU (atR (by rw [W2.row i hi]; exact hi)))) rfl) (aM ⟨hi,G3,sg2,_,_,_,_,_,W3,rfl⟩)
 · obtain ⟨_,G,sg,l,Y,s5,s6,s7,W,rfl⟩:=h
   rw [av,Int.toNat_natCast] at W
   refine aK (aB (aa 3) (aa 4) (aW (mkL (by rcases W.sg with z | z <;> rw [z] <;> decide)))) ?_
   rw [v7 (z:=sg * l) (by rw [hl,Rat.intCast_mul,W.last,W.dt])]
end
noncomputable def gE (c:List Int):Int:=c.getD (c.length - 1) 0
noncomputable def lea (t:Nat) (c:List Int):Int:=if 0 < t then gE c + 1 else 0
noncomputable def onC (n t:Nat) (c:List Int):List (List Int):=(List.range ((n:Int) - lea t c).toNat).map λk=>c++[lea t c + (k:Nat)]
noncomputable def chs (n:Nat):Nat->List (List Int)
 | 0=>[[]]
 | t + 1=>(chs n t).flatMap (onC n t)
structure Chs (n t:Nat) (c:List Int):Prop where
 len:c.length=t
 at_:∀ i,i < t->0<=c.getD i 0/\c.getD i 0 < n
theorem vH {c:List Int} {x:Int} {i:Nat}:(c++[x]).getD i 0=if i < c.length then c.getD i 0 else if i=c.length then x else 0:=by
 by_cases h:i < c.length
 · rw [if_pos h]; simp [List.getD,List.getElem?_append_left h]
 · rw [if_neg h]
   by_cases e:i=c.length
   · subst e; simp
   · rw [if_neg e]
     simp [List.getD]
     rw [List.getElem?_eq_none (by simp; omega)]
     rfl
theorem zd {n t:Nat} {c:List Int} (h:Chs n t c):0<=lea t c/\lea t c<=n:=by
 unfold lea
 by_cases ht:0 < t
 · have:=h.at_ (t - 1) (by omega)
   rw [if_pos ht,gE,h.len]
   omega
 · rw [if_neg ht]; omega
theorem tW (n:Nat):∀ t,∀ c ∈ chs n t,Chs n t c
 | 0,c,h=>by
   rw [chs,List.mem_singleton] at h
   subst h
   exact ⟨rfl,λi hi=>absurd hi (by omega)⟩
 | t + 1,c,h=>by
   rw [chs,List.mem_flatMap] at h
   obtain ⟨d,hd,hc⟩:=h
   have ih:=tW n t d hd
   have hl:=zd ih
   unfold onC at hc
   obtain ⟨k,hk,rfl⟩:=List.mem_map.mp hc
   rw [List.mem_range] at hk
   refine ⟨by rw [List.length_append,ih.len]; rfl,λi hi=>?_⟩
   rw [vH,ih.len]
   by_cases e:i < t
   · rw [if_pos e]; exact ih.at_ i e
   · rw [if_neg e,if_pos (by omega)]; omega
theorem fF {α:Type} {xs:List α} {i:Nat} {d:α} (h:i < xs.length):xs.getD i d ∈ xs:=by simp [h]
theorem xS {c:List Int} (h:c ≠ []):atI (c.map D.int) (-1)=some (.int (gE c)):=by
 have hl:0 < c.length:=List.length_pos_iff.mpr h
 unfold atI ixN gE
 rw [if_neg (by decide),if_pos (by rw [List.length_map]; omega),List.length_map]
 simp only [Option.bind_some]
 have e:(-1 + (c.length:Int)).toNat=c.length - 1:=by omega
 rw [e]
 simp [(by omega:c.length - 1 < c.length)]
structure ChO (m:Int) (ns:List Int):Prop where
 ne:ns ≠ []
 up:∀ i,i + 1 < ns.length->ns.getD i 0 < ns.getD (i + 1) 0
 lo:0<=ns.getD 0 0
 hi:gE ns < m
 len:ns.length<=1000
noncomputable def e7 (ds:List D) (r:Sl):Prop:=∃ ns:List Int,ds=[.lst (ns.map .int)]/\(∀ i,i + 1 < ns.length->ns.getD i 0 < ns.getD (i + 1) 0)/\ns.length<=1000/\r=.d (.bl true)
theorem ux (n:Nat) (f:Nat->Bool) (h:∀ i,i < n->f i=true):((List.range n).map f).all id=true:=by
 rw [List.all_map,List.all_eq_true]
 intro i hi
 exact h i (List.mem_range.mp hi)
noncomputable def fo (ds:List D) (r:Sl):Prop:=∃ (ns:List Int) (m:Int),ds=[.lst (ns.map .int),.int m]/\ChO m ns/\r=.d (.bl true)
noncomputable def cW (ds:List D) (r:Sl):Prop:=∃ (ns ms:List Int) (m n:Int),ds=[.lst (ns.map .int),.lst (ms.map .int),.int m,.int n]/\ChO m ns/\ChO n ms/\r=.d .non
section
variable {P:Program} {w:World} {K:PySem.W.Frag} {mg:Str->Option Value} {base:Heap} {k:Nat} {f:Addr} {fd:FuncData} {qual:Str}
theorem mv (F:Fun K "is_rising" qual (top 23) f fd) (hb:∀ x ∈ ah,mg x=none):aN P w K mg base CX0 (k + 1) f fd ["numbers"] (spD K e7):=by
 refine fnD F m5 hb (by rintro _ _ ⟨_,rfl,_⟩; rfl) ?_
 rintro _ _ ⟨ns,rfl,up,hl,rfl⟩ cdv A outer s H E b
 have el:(((ns.map D.int).length:Int) - 1).toNat=ns.length - 1:=by rw [List.length_map]; omega
 refine aK (a4 b (ab (aS (bZ (cmp 0 (g:=λi=>.int (1 + (i:Nat))) (f:=λi=>.bl (decide (ns.getD i 0 < ns.getD (i + 1) 0))) b (kf b ae (a4 b (ab (aa 0) af) eG) (by rw [List.length_map]; omega)) (λi h=>fJ 1 _ i h) (by rw [av]; omega) λi hi s0 H0 fp=>?_))) af) (fT b.calm ((List.range (ns.length - 1)).map λi=>decide (ns.getD i 0 < ns.getD (i + 1) 0)) (by rw [av,el,List.map_map]; rfl))) ?_
 · have hi:i < ns.length - 1:=by rw [av,el] at hi; exact hi
   have k0:atI (ns.map D.int) (1 + (i:Int) - 1)=some (.int (ns.getD i 0)):=by
     have e:(1 + (i:Int) - 1).toNat=i:=by omega
     have:=gc (ns:=ns) (i:=1 + (i:Int) - 1) (by omega) (by omega)
     rw [e] at this
     exact this
   have k1:atI (ns.map D.int) (1 + (i:Int))=some (.int (ns.getD (i + 1) 0)):=by
     have e:(1 + (i:Int)).toNat=i + 1:=by omega
     have:=gc (ns:=ns) (i:=1 + (i:Int)) (by omega) (by omega)
     rw [e] at this
     exact this
   exact cO (aG (aa 1) (aB (aa 0) ae iO) (aU k0)) (aG (aa 1) (aa 0) (aU k1)) kM
 · rw [ux (ns.length - 1) (λi=>decide (ns.getD i 0 < ns.getD (i + 1) 0)) λi hi=>decide_eq_true (up i (by omega))]
theorem mB (F:Fun K "is_choice" qual (top 22) f fd) (hb:∀ x ∈ ah,mg x=none) (c_is_rising:Cal P w K mg base k "is_rising" e7) (c_is_whole:Cal P w K mg base k "is_whole" cu):aN P w K mg base CX0 (k + 1) f fd ["thing","many"] (spD K fo):=by
 refine fnD F mx hb (by rintro _ _ ⟨_,_,rfl,_⟩; rfl) ?_
 rintro _ _ ⟨ns,m,rfl,h,rfl⟩ cdv A outer s H E b
 have hl:=h.len
 have l0:0 < ns.length:=List.length_pos_iff.mpr h.ne
 refine cM (PW.pt (ny (bV (bP (x_call b c_is_whole (ab (aa 1) af) ⟨_,rfl,rfl⟩))) λh=>(ny (bV (bP (jH .list b (aa 0)))) λh=>(jX (bf (a4 b (ab (aa 0) af) eG) ae gN))))) ?_ ?_
 · rw [decide_eq_false (by rw [List.length_map]; omega)]; rfl
 refine cM (bV (bP (a4 b (ab (aS (bZ (cmp 0 (f:=λl=>.bl true) b (aR (aa 0)) k5 (by rw [List.length_map]; omega) λl hl s0 H0 fp=>(x_call (b.comp s0 H0 _ fp) c_is_whole (ab (aa 0) af) ⟨_,rfl,rfl⟩)))) af) (fT b.calm ((List.range ns.length).map λ_=>true) (by rw [List.length_map,List.map_map]; rfl))))) ?_ ?_
 · rw [ux ns.length (λ_=>true) λ_ _=>rfl]; rfl
 refine aK (fS (x_call b c_is_rising (ab (aa 0) af) ⟨ns,rfl,h.up,hl,rfl⟩) λ_=>(fS (cO (aG (aa 0) ae (aU (gc (ns:=ns) (i:=0) (by decide) l0))) ae zX) λ_=>(fb (cO (aG (aa 0) (qv ae) (aU (xS h.ne))) (aa 1) kM)))) ?_
 rw [decide_eq_true (show ns.getD (0:Int).toNat 0 ≥ 0 from h.lo),decide_eq_true h.hi]
 rfl
theorem iZ (F:Fun K "look_choices" qual (top 25) f fd) (hb:∀ x ∈ ah,mg x=none) (c_is_choice:Cal P w K mg base k "is_choice" fo):aN P w K mg base CX0 (k + 1) f fd ["rows","columns","many_rows","many_columns"] (spD K cW):=by
 refine fnD F i6 hb (by rintro _ _ ⟨_,_,_,_,rfl,_⟩; rfl) ?_
 rintro _ _ ⟨ns,ms,m,n,rfl,h1,h2,rfl⟩ cdv A outer s H E b
 refine cM (bV (bP (x_call b c_is_choice (ab (aa 0) (ab (aa 2) af)) ⟨ns,m,rfl,h1,rfl⟩))) rfl ?_
 exact cM (bV (bP (x_call b c_is_choice (ab (aa 1) (ab (aa 3) af)) ⟨ms,n,rfl,h2,rfl⟩))) rfl (aM rfl)
end
noncomputable def qM (M:List (List Rat)) (i j:Nat):Rat:=(M.getD i []).getD j 0
structure Bz (m d v:Nat):Prop where
 b1:1 + m * d<=8999
 b2:m * (v + (1 + m * d) + 3)<=8998
 b3:1 + m * (1 + m * d)<=8999
 b4:v + d<=8999
theorem Qs.sq {d v:Nat} {q:Rat} (h:Qs d v q):Sq (v + d) q:=by
 refine ⟨?_,h.den.mono (by omega)⟩
 have h1:=h.den
 unfold Bd at h1 ⊢
 rw [Int.natAbs_natCast] at h1
 rw [Nat.pow_add]
 exact Nat.lt_of_le_of_lt h.val (Nat.mul_lt_mul_of_pos_left h1 (Nat.two_pow_pos v))
theorem qE (ns:List Int):∀ t,t<=ns.length->((prZ (ns.take t):Int):Rat)=fR (λi=>((ns.getD i 0:Int):Rat)) t
 | 0,_=>rfl
 | t + 1,h=>by
   have et:ns.take (t + 1)=ns.take t++[ns.getD t 0]:=by rw [List.take_succ,List.getElem?_eq_getElem (by omega)]; simp [show t < ns.length by omega]
   rw [et,jl,Rat.intCast_mul,qE ns t (by omega),fR]
theorem vY {M:List (List Rat)} {ss:List Int} {i j:Nat} (hi:i < M.length) (hj:j < (M.getD i []).length):((whM M ss).getD i []).getD j 0=((M.getD i []).getD j 0).num * (ss.getD i 0 / (((M.getD i []).getD j 0).den:Nat)):=by
 have e:(whM M ss).getD i []=whR (M.getD i []) (ss.getD i 0):=by unfold whM; simp [hi]
 rw [e]
 unfold whR
 rw [List.getD_eq_getElem?_getD,List.getElem?_map,List.getElem?_eq_getElem hj,List.getD_eq_getElem?_getD (l:=M.getD i []),List.getElem?_eq_getElem hj]
 rfl
theorem Bs {R d v:Nat} {M:List (List Rat)} (t:Tq R R M) (hq:∀ r ∈ M,∀ x ∈ r,Qs d v x) (z:Bz R d v):(whM M (M.map scL)).length=R/\(∀ r ∈ whM M (M.map scL),r.length=R/\∀ x ∈ r,x.natAbs<=2 ^ (v + (1 + R * d)))/\0 < prZ (M.map scL)/\Bd 8999 (prZ (M.map scL))/\((wdZ (whM M (M.map scL)):Int):Rat)=det R (qM M) * ((prZ (M.map scL):Int):Rat):=by
 have l1:(whM M (M.map scL)).length=R:=by unfold whM; simp [t.len]
 have sc:∀ i,i < R->(M.map scL).getD i 0=scL (M.getD i []):=λi hi=>by simp [show i < M.length by rw [t.len]; exact hi]
 have rowm:∀ r ∈ whM M (M.map scL),r.length=R/\∀ x ∈ r,x.natAbs<=2 ^ (v + (1 + R * d)):=λr hr=>by
   unfold whM at hr
   obtain ⟨i,hi,rfl⟩:=List.mem_map.mp hr
   rw [List.mem_range,t.len] at hi
   have mi:M.getD i [] ∈ M:=bj (by rw [t.len]; exact hi)
   refine ⟨by unfold whR; rw [List.length_map]; exact t.at_ hi,λx hx=>?_⟩
   unfold whR at hx
   obtain ⟨q,hq',rfl⟩:=List.mem_map.mp hx
   rw [sc i hi]
   have:=eD (d:=d) (r:=M.getD i []) λx hx=>(hq _ mi x hx).den
   rw [t.at_ hi] at this
   exact Nat.le_of_lt (yI (hq _ mi q hq') ((fA _).2 q hq') this)
 have bs:∀ s ∈ M.map scL,0 < s/\Bd (1 + R * d) s:=λs hs=>by
   obtain ⟨r,hr,rfl⟩:=List.mem_map.mp hs
   have:=eD (d:=d) (r:=r) λx hx=>(hq _ hr x hx).den
   rw [t.row r hr] at this
   exact ⟨(fA r).1,this⟩
 have bp:=qp (d:=1 + R * d) (r:=M.map scL) λs hs=>(bs s hs).2
 rw [List.length_map,t.len] at bp
 refine ⟨l1,rowm,xZ λs hs=>(bs s hs).1,bp.mono z.b3,?_⟩
 have zb:∀ i < R,∀ j < R,ZB (v + (1 + R * d)) (dtM (whM M (M.map scL)) i j):=λi hi j hj=>by
   have mi:=bj (xs:=whM M (M.map scL)) (d:=[]) (i:=i) (by rw [l1]; exact hi)
   exact ⟨_,rfl,(rowm _ mi).2 _ (bj (by rw [(rowm _ mi).1]; exact hj))⟩
 obtain ⟨w,e1,_⟩:=xi (n:=R) (by have:=t.r7; omega) zb
 have e2:wdZ (whM M (M.map scL))=w:=v7 (by rw [l1,e1])
 rw [e2,<- e1]
 have pr:=qE (M.map scL) R (by rw [List.length_map,t.len]; exact Nat.le_refl _)
 rw [List.take_of_length_le (by rw [List.length_map,t.len]; exact Nat.le_refl _)] at pr
 rw [pr,Rat.mul_comm,<- ir (n:=R) _ (qM M) R (Nat.le_refl _)]
 refine aD λi hi j hj=>?_
 rw [if_pos hi]
 have hj':j < (M.getD i []).length:=by rw [t.at_ hi]; exact hj
 unfold dtM
 rw [vY (by rw [t.len]; exact hi) hj',sc i hi,Bf ((fA _).2 _ (bj hj')),Rat.mul_comm]
 rfl
noncomputable def bH (ds:List D) (r:Sl):Prop:=∃ (R d v:Nat) (M:List (List Rat)),ds=[tbQ M]/\Tq R R M/\(∀ r ∈ M,∀ x ∈ r,Qs d v x)/\Bz R d v/\r=.d (frD (det R (qM M)))
theorem ChO.bd {m:Int} {ns:List Int} (h:ChO m ns):∀ i,i < ns.length->0<=ns.getD i 0/\ns.getD i 0 < m:=by
 have lo:∀ i,i < ns.length->0<=ns.getD i 0:=λi=>by
   induction i with
   | zero=>exact λ_=>h.lo
   | succ i ih=>exact λhi=>by have:=ih (by omega); have:=h.up i hi; omega
 have hi:∀ d i,i + d + 1=ns.length->ns.getD i 0 < m:=λd=>by
   induction d with
   | zero=>exact λi e=>by have:=h.hi; unfold gE at this; rwa [show ns.length - 1=i by omega] at this
   | succ d ih=>exact λi e=>by have:=ih (i + 1) (by omega); have:=h.up i (by omega); omega
 exact λi hi'=>⟨lo i hi',hi (ns.length - 1 - i) i (by omega)⟩
theorem zt {R C m:Nat} {M:List (List Rat)} {rs cs:List Int} (t:Tq R C M) (hr:ChO R rs) (hc:ChO C cs) (l1:rs.length=m) (l2:cs.length=m) (m7:m<=7):Tq m m (chM M rs cs):=by
 have m1:1<=m:=by
   rcases Nat.eq_zero_or_pos m with z | z
   · exact absurd (List.length_eq_zero_iff.mp (l1.trans z)) hr.ne
   · exact z
 refine ⟨m1,m7,m1,m7,by unfold chM; rw [List.length_map,l1],λr hr'=>?_⟩
 unfold chM at hr'
 obtain ⟨x,_,rfl⟩:=List.mem_map.mp hr'
 unfold pkL
 rw [List.length_map,l2]
theorem Ae {M:List (List Rat)} {rs cs:List Int} {a b:Nat} (ha:a < rs.length) (hb:b < cs.length):qM (chM M rs cs) a b=qM M (rs.getD a 0).toNat (cs.getD b 0).toNat:=by
 unfold qM chM pkL
 simp [ha,hb]
theorem AN {R C d v:Nat} {M:List (List Rat)} {rs cs:List Int} (t:Tq R C M) (hr:ChO R rs) (hc:ChO C cs) (hq:∀ r ∈ M,∀ x ∈ r,Qs d v x):∀ r ∈ chM M rs cs,∀ x ∈ r,Qs d v x:=λr hr' x hx=>by
 unfold chM at hr'
 obtain ⟨p,hp,rfl⟩:=List.mem_map.mp hr'
 unfold pkL at hx
 obtain ⟨q,hq',rfl⟩:=List.mem_map.mp hx
 obtain ⟨a,ha,rfl⟩:=List.getElem_of_mem hp
 obtain ⟨c,hc',rfl⟩:=List.getElem_of_mem hq'
 have b1:=hr.bd a ha
 have b2:=hc.bd c hc'
 have e1:rs.getD a 0=rs[a]:=by simp [ha]
 have e2:cs.getD c 0=cs[c]:=by simp [hc']
 rw [e1] at b1
 rw [e2] at b2
 exact hq _ (bj (by rw [t.len]; omega)) _ (bj (by rw [t.at_ (by omega)]; omega))
theorem ChO.pk {m:Nat} {ns:List Int} (h:ChO m ns):Pk m ns:=⟨h.len,h.bd⟩
noncomputable def mnQ (M:List (List Rat)) (rs cs:List Int):Rat:=det rs.length λa b=>qM M (rs.getD a 0).toNat (cs.getD b 0).toNat
noncomputable def l5 (ds:List D) (r:Sl):Prop:=∃ (R C m d v:Nat) (M:List (List Rat)) (rs cs:List Int),ds=[tbQ M,.lst (rs.map .int),.lst (cs.map .int)]/\Tq R C M/\ChO R rs/\ChO C cs/\rs.length=m/\cs.length=m/\m<=7/\(∀ r ∈ M,∀ x ∈ r,Qs d v x)/\Bz m d v/\r=.d (frD (mnQ M rs cs))
section
variable {P:Program} {w:World} {K:PySem.W.Frag} {mg:Str->Option Value} {base:Heap} {k:Nat} {f:Addr} {fd:FuncData} {qual:Str}
theorem eI (F:Fun K "square_determinant" qual (top 31) f fd) (hb:∀ x ∈ ah,mg x=none) (c_look_square:Cal P w K mg base k "look_square" dr) (c_fraction:Cal P w K mg base k "fraction" gn) (c_scale_of:Cal P w K mg base k "scale_of" gi) (c_whole_determinant:Cal P w K mg base k "whole_determinant" bO) (c_product_of_all:Cal P w K mg base k "product_of_all" cv) (c_whole_rows:Cal P w K mg base k "whole_rows" dZ):aN P w K mg base CX0 (k + 1) f fd ["table"] (spD K bH):=by
 refine fnD F cg hb (by rintro _ _ ⟨_,_,_,_,rfl,_⟩; rfl) ?_
 rintro _ _ ⟨R,d,v,M,rfl,t,hq,z,rfl⟩ cdv A outer s H E b
 have nd:=cg.nd
 have r7:=t.r7
 obtain ⟨o1,o2,o3,o4,o5⟩:=Bs t hq z
 refine ku (x_call b c_look_square (ab (aa 0) af) ⟨R,M,rfl,t,rfl⟩) ?_
 refine iz 1 nd (s:=.d (.lst ((M.map scL).map .int))) (cmp 0 (g:=λi=>rwQ (M.getD i [])) (f:=λi=>.int (scL (M.getD i []))) b (aR (aa 0)) (cF (f:=rwQ) (xs:=M) []) (by rw [List.length_map,t.len]; omega) λi hi s0 H0 fp=>(x_call (b.comp s0 H0 _ fp) c_scale_of (ab (aa 0) af) ⟨_,d,rfl,?_,?_,?_,?_,rfl⟩)) (.inr ?_) ?_
 · rw [t.at_ (by simpa [t.len] using hi)]; omega
 · exact λx hx=>(hq _ (bj (by simpa using hi)) x hx).den
 · rw [t.at_ (by simpa [t.len] using hi)]; exact z.b1
 · have:=z.b4; omega
 · exact congrArg (λl=>Sl.d (D.lst l)) (((df (λr:List Rat=>D.int (scL r)) M [] (List.length_map ..)).trans (by rw [List.map_map]; rfl)).symm)
 refine aK (x_call b c_fraction (ab (x_call b c_whole_determinant (ab (aS (x_call b c_whole_rows (ab (aa 0) (ab (aa 1) af)) ⟨M,M.map scL,v + d,rfl,by rw [List.length_map],by rw [t.len]; omega,λr hr=>⟨by rw [t.row r hr]; omega,λx hx=>(hq r hr x hx).sq⟩,z.b4,?_,rfl⟩)) af) ⟨R,v + (1 + R * d),_,rfl,o1,r7,o2,z.b2,rfl⟩) (ab (x_call b c_product_of_all (ab (aa 1) af) ⟨M.map scL,1 + R * d,rfl,?_,?_,?_,rfl⟩) af)) ⟨_,_,det R (qM M),rfl,Int.ne_of_gt o3,o4,o5,rfl⟩) rfl
 · intro s hs
   obtain ⟨r,hr,rfl⟩:=List.mem_map.mp hs
   have:=eD (d:=d) (r:=r) λx hx=>(hq _ hr x hx).den
   rw [t.row r hr] at this
   exact this.mono z.b1
 · intro s hs
   obtain ⟨r,hr,rfl⟩:=List.mem_map.mp hs
   have:=eD (d:=d) (r:=r) λx hx=>(hq _ hr x hx).den
   rw [t.row r hr] at this
   exact this
 · rw [List.length_map,t.len]; have:=z.b3; omega
 · have:=z.b1; omega
theorem v3 (F:Fun K "minor" qual (top 30) f fd) (hb:∀ x ∈ ah,mg x=none) (c_look_table:Cal P w K mg base k "look_table" cQ) (c_look_choices:Cal P w K mg base k "look_choices" cW) (c_square_determinant:Cal P w K mg base k "square_determinant" bH) (c_chosen:Cal P w K mg base k "chosen" jV):aN P w K mg base CX0 (k + 1) f fd ["table","rows","columns"] (spD K l5):=by
 refine fnD F tR hb (by rintro _ _ ⟨_,_,_,_,_,_,_,_,rfl,_⟩; rfl) ?_
 rintro _ _ ⟨R,C,m,d,v,M,rs,cs,rfl,t,hr,hc,l1,l2,m7,hq,z,rfl⟩ cdv A outer s H E b
 have r1:=t.r1
 have e0:atI (M.map rwQ) 0=some (rwQ (M.getD 0 [])):=du [] (i:=0) (by rw [t.len]; omega)
 refine ku (x_call b c_look_table (ab (aa 0) af) ⟨R,C,M,rfl,t,rfl⟩) ?_
 refine ku (x_call b c_look_choices (ab (aa 1) (ab (aa 2) (ab (a4 b (ab (aa 0) af) (cD (n:=R) (by rw [List.length_map]; exact t.len))) (ab (a4 b (ab (aG (aa 0) ae (aU e0)) af) (cD (n:=C) (by rw [List.length_map]; exact t.at_ (by omega)))) af)))) ⟨rs,cs,R,C,rfl,hr,hc,rfl⟩) ?_
 refine aK (x_call b c_square_determinant (ab (aS (x_call b c_chosen (ab (aa 0) (ab (aa 1) (ab (aa 2) af))) ⟨R,C,M,rs,cs,rfl,t,hr.pk,hc.pk,rfl⟩)) af) ⟨m,d,v,chM M rs cs,rfl,zt t hr hc l1 l2 m7,AN t hr hc hq,z,rfl⟩) ?_
 unfold mnQ
 rw [l1,aD λa ha b hb'=>Ae (M:=M) (rs:=rs) (cs:=cs) (by omega) (by omega)]
end
noncomputable def dj (ds:List D) (r:Sl):Prop:=∃ a b:Int,ds=[.int a,.int b]/\r=.d (.int (Int.gcd a b:Int))
noncomputable def eX (ds:List D) (r:Sl):Prop:=∃ (t b:Int) (q:Rat),ds=[.int t,.int b]/\0 < b/\Bd 8999 b/\(t:Rat)=q * (b:Rat)/\r=.d (frD q)
noncomputable def j4 (ds:List D) (r:Sl):Prop:=∃ (ns:List Int) (k:Nat),ds=[.lst (ns.map .int),.int k]/\r=.d (.int (ns.getD k 0))
theorem vV (p q:Rat):((p.num * q.num:Int):Rat)=p * q * (((p.den:Nat):Int) * ((q.den:Nat):Int):Int):=by
 rw [Rat.intCast_mul,Rat.intCast_mul,<- b6 p,<- b6 q]
 grind
theorem rH {a b:Int} (h:0 < a) (g:0 < b):0 < a * b:=Int.mul_pos h g
theorem Sq.mul {m n:Nat} {p q:Rat} (h:Sq m p) (g:Sq n q):Sq (m + n) (p * q):=Sq.cy (rH (den_pos p) (den_pos q)) (vV p q) (h.num.mul g.num) (h.den.mul g.den)
noncomputable def jD (ds:List D) (r:Sl):Prop:=∃ (m n:Nat) (p q:Rat),ds=[frD p,frD q]/\Sq m p/\Sq n q/\m + n<=8999/\r=.d (frD (p + q))
noncomputable def jy (ds:List D) (r:Sl):Prop:=∃ p q t:Rat,ds=[frD p,frD q,frD t]/\t ≠ 0/\Sq 2900 p/\Sq 2900 q/\Sq 2900 t/\r=.d (frD (p * q / t))
theorem qW {p q t:Rat} (h:t ≠ 0):((p.num * q.num * (t.den:Nat):Int):Rat)=p * q / t * (((p.den:Nat) * (q.den:Nat) * t.num:Int):Rat):=by
 rw [Rat.intCast_mul,Rat.intCast_mul,Rat.intCast_mul,Rat.intCast_mul,<- b6 p,<- b6 q,<- b6 t]
 have:t * t⁻¹=1:=Rat.mul_inv_cancel t h
 rw [Rat.div_def]
 generalize t⁻¹=i at this ⊢
 grind
section
variable {P:Program} {w:World} {K:PySem.W.Frag} {mg:Str->Option Value} {base:Heap} {k:Nat} {f:Addr} {fd:FuncData} {qual:Str}
theorem nA (F:Fun K "_law_divisor" qual (top 56) f fd) (hb:∀ x ∈ ah,mg x=none):aN P w K mg base CX0 (k + 1) f fd ["_law_one","_law_other"] (spD K dj):=by
 refine fnD F gB hb (by rintro _ _ ⟨_,_,rfl,_⟩; rfl) ?_
 rintro _ _ ⟨x,y,rfl,rfl⟩ cdv A outer s H E b
 have nd:=gB.nd
 refine az 0 nd (a4 b (ab (aa 0) af) oX) (az 1 nd (a4 b (ab (aa 1) af) oX) ?_)
 rw [g9,g9]
 refine rY (λn t τ=>∃ (g:Nat) (s2:Sl),Nat.gcd g n=Int.gcd x y/\t=(decide ((0:Int) < n))/\τ=[.d (.int g),.d (.int n),s2]) b ⟨_,_,_,_,rfl,rfl,rfl⟩ (λn t τ h=>?_) (λn τ h=>?_) λn τ h=>?_
 · obtain ⟨g,s2,_,rfl,rfl⟩:=h
   exact bf (aa 1) ae CJ
 · obtain ⟨g,s2,hg,ht,rfl⟩:=h
   have hl:n ≠ 0:=λz=>by simp [z] at ht
   have e:(g:Int).fmod n=((g % n:Nat):Int):=by rw [Int.fmod_eq_emod_of_nonneg _ (by omega)]; rfl
   refine az 2 nd (aB (aa 0) (aa 1) (eF (by omega))) ?_
   rw [e]
   refine az 0 nd (aa 1) (az 1 nd (aa 2) (aM ⟨g % n,_,Nat.mod_lt g (Nat.pos_of_ne_zero hl),n,_,?_,rfl,rfl⟩))
   rw [<- hg,Nat.gcd_comm n,<- Nat.gcd_rec,Nat.gcd_comm]
 · obtain ⟨g,s2,hg,ht,rfl⟩:=h
   have hl:n=0:=by have:=of_decide_eq_false ht.symm; omega
   refine aK (aa 0) ?_
   rw [<- hg,hl,Nat.gcd_zero_right]
theorem se (F:Fun K "_law_made" qual (top 57) f fd) (hb:∀ x ∈ ah,mg x=none) (c_l_divisor:Cal P w K mg base k "_law_divisor" dj):aN P w K mg base CX0 (k + 1) f fd ["_law_top","_law_bottom"] (spD K eX):=by
 refine fnD F lh hb (by rintro _ _ ⟨_,_,_,rfl,_⟩; rfl) ?_
 rintro _ _ ⟨t,c,q,rfl,h0,h1,hq,rfl⟩ cdv A outer s H E b
 have nd:=lh.nd
 have dv:aA (Int.gcd t c:Int):=(h1.gcd (by omega)).aA (eg (by omega)) (by decide)
 obtain ⟨e1,e2⟩:=cy h0 hq
 refine az 2 nd (x_call b c_l_divisor (ab (aa 0) (ab (aa 1) af)) ⟨_,_,rfl,rfl⟩) (aK (cC (ab (aB (aa 0) (aa 2) (a5 dv)) (ab (aB (aa 1) (aa 2) (a5 dv)) af))) ?_)
 rw [aY,aY,<- e1,<- e2]
 rfl
theorem tK (F:Fun K "_law_cell" qual (top 54) f fd) (hb:∀ x ∈ ah,mg x=none):aN P w K mg base CX0 (k + 1) f fd ["_law_script","_law_k"] (spD K j4):=by
 refine fnD F sY hb (by rintro _ _ ⟨_,_,rfl,_⟩; rfl) ?_
 rintro _ _ ⟨ns,n,rfl,rfl⟩ cdv A outer s H E b
 refine eZ (bf (aa 1) (a4 b (ab (aa 0) af) eG) kM) (λh=>?_) λh=>?_
 · have h:=of_decide_eq_true h
   rw [List.length_map] at h
   exact aK (aG (aa 0) (aa 1) (aU (gc (by omega) (by omega)))) rfl
 · have h:=of_decide_eq_false h
   rw [List.length_map] at h
   refine aK ae ?_
   show Sl.d (.int 0)=_
   rw [getD_none (by omega)]
theorem tm (F:Fun K "_law_plus" qual (top 61) f fd) (hb:∀ x ∈ ah,mg x=none) (c_l_made:Cal P w K mg base k "_law_made" eX):aN P w K mg base CX0 (k + 1) f fd ["_law_one","_law_other"] (spD K jD):=by
 refine fnD F sA hb (by rintro _ _ ⟨_,_,_,_,rfl,_⟩; rfl) ?_
 rintro _ _ ⟨m,n,p,q,rfl,h1,h2,hl,rfl⟩ cdv A outer s H E b
 exact aK (x_call b c_l_made (ab (aB (aB (aG (aa 0) ae (aJ (aw (i:=0) rfl))) (aG (aa 1) ae (aJ (aw (i:=1) rfl))) (aW (h1.num.ay h2.den (by omega) (by omega)))) (aB (aG (aa 1) ae (aJ (aw (i:=0) rfl))) (aG (aa 0) ae (aJ (aw (i:=1) rfl))) (aW (h2.num.ay h1.den (by omega) (by omega)))) bD) (ab (aB (aG (aa 0) ae (aJ (aw (i:=1) rfl))) (aG (aa 1) ae (aJ (aw (i:=1) rfl))) (aW (h1.den.ay h2.den (by omega) (by omega)))) af)) ⟨_,_,_,rfl,rH (den_pos p) (den_pos q),(h1.den.mul h2.den).mono hl,tX p q,rfl⟩) rfl
theorem tj (F:Fun K "_law_part" qual (top 62) f fd) (hb:∀ x ∈ ah,mg x=none) (c_l_made:Cal P w K mg base k "_law_made" eX):aN P w K mg base CX0 (k + 1) f fd ["_law_one","_law_other","_law_third"] (spD K jy):=by
 refine fnD F lG hb (by rintro _ _ ⟨_,_,_,rfl,_⟩; rfl) ?_
 rintro _ _ ⟨p,q,t,rfl,h0,sp,sq,st,rfl⟩ cdv A outer s H E b
 have nd:=lG.nd
 have e:=qW (p:=p) (q:=q) h0
 have m1:=sp.1.ay sq.1 (by decide) (by decide)
 have m2:=(sp.1.mul sq.1).ay st.2 (by decide) (by decide)
 have m3:=sp.2.ay sq.2 (by decide) (by decide)
 have m4:=(sp.2.mul sq.2).ay st.1 (by decide) (by decide)
 have bb:=((sp.2.mul sq.2).mul st.1).mono (show 2900 + 2900 + 2900<=8999 by decide)
 have b0:((p.den:Nat):Int) * (q.den:Nat) * t.num ≠ 0:=by
   have h1:=p.den_nz
   have h2:=q.den_nz
   have h3:t.num ≠ 0:=λz=>h0 (Rat.num_eq_zero.mp z)
   exact Int.mul_ne_zero (Int.mul_ne_zero (by omega) (by omega)) h3
 refine az 3 nd (aB (aB (aG (aa 0) ae (aJ (aw (i:=0) rfl))) (aG (aa 1) ae (aJ (aw (i:=0) rfl))) (aW m1)) (aG (aa 2) ae (aJ (aw (i:=1) rfl))) (aW m2)) ?_
 refine az 4 nd (aB (aB (aG (aa 0) ae (aJ (aw (i:=1) rfl))) (aG (aa 1) ae (aJ (aw (i:=1) rfl))) (aW m3)) (aG (aa 2) ae (aJ (aw (i:=0) rfl))) (aW m4)) ?_
 generalize p.num * q.num * ((t.den:Nat):Int)=u at e ⊢
 generalize ((p.den:Nat):Int) * ((q.den:Nat):Int) * t.num=v at e bb b0 ⊢
 refine eZ (bf (aa 4) ae kM) (λh=>?_) λh=>?_
 · have h:=of_decide_eq_true h
   have e1:0 - u=-u:=Int.zero_sub u
   have e2:0 - v=-v:=Int.zero_sub v
   exact aK (x_call b c_l_made (ab (aB ae (aa 3) iO) (ab (aB ae (aa 4) iO) af)) ⟨_,_,p * q / t,rfl,by omega,by rw [e2]; exact bb.neg,by rw [e1,e2,Rat.intCast_neg,Rat.intCast_neg,e,Rat.mul_neg],rfl⟩) rfl
 · have h:=of_decide_eq_false h
   exact aK (x_call b c_l_made (ab (aa 3) (ab (aa 4) af)) ⟨_,_,p * q / t,rfl,by omega,bb,e,rfl⟩) rfl
end
end K54
namespace Hy
open PySem PySem.Spec PyProof.Rows L2
open Ev (D Den aq ai aX aI)
noncomputable def Pj (σ:L2.St) (H:Hp) (i j k:Nat):Prop:=∃ a vs v,(σ[i]?).join=some (.ref a)/\H a=some (.lst vs)/\vs[k]?=some v/\σ[j]?=some (some v)
noncomputable def dEJ (K:PySem.W.Frag) (τ:List Sl) (i j k:Nat) (x:D):TE:=λσ H Q=>∃ A H₀ B,Sta K A H₀ τ B σ H/\Pj σ H i j k/\∀ v H',aj H H'->Den K (hd H' A) v x->Q v H'
section
variable {X:Cx} {τ τ1 τ2:List Sl} {x y z:D} {a b e o ix:Expr} {es:List Expr} {pos p q:Pos} {l:Nat} {s:Sl} {N:Po} {st:Stmt} {body rest:List Stmt} {i j k:Nat} {t c:Nd} {pt:List Nat} {xs:List Nd} {m:Nat} {ds:List D}
end
section
variable {X:Cx} {τ τ1 τ2:List Sl} {x y z:D} {a b e o ix:Expr} {es:List Expr} {pos p q:Pos} {l:Nat} {s:Sl} {N:Po} {st:Stmt} {body rest:List Stmt} {i j k:Nat} {t c:Nd} {pt:List Nat} {xs:List Nd} {m:Nat} {ds:List D}
theorem ej (h:PE X e (dE X.K false τ (.d x))):PE X e (dEJ X.K τ i j k x):=peW h λσ H Q ⟨A,H₀,B,S,_,q⟩=>aO S λv H' e d=>q v H' e d
end
section
variable {X:Cx} {τ τ1 τ2:List Sl} {x y z:D} {a b e o ix:Expr} {pos p q:Pos} {l:Nat} {N:Po} {st:Stmt} {body rest:List Stmt} {i j k:Nat} {t c:Nd} {pt:List Nat} {ds:List D}
end
section
variable {K:PySem.W.Frag} {G H:Hp}
inductive Nd3 (K:PySem.W.Frag) (G H:Hp):List V->List (List Addr)->List Nd->Prop where
 | nil:Nd3 K G H [] [] []
 | cons {v:V} {vs:List V} {b:List Addr} {bs:List (List Addr)} {c:Nd} {cs:List Nd} (h:bu K G H v b c) (r:Nd3 K G H vs bs cs):Nd3 K G H (v :: vs) (b :: bs) (c :: cs)
theorem Nd3.len:∀ {vs:List V} {bs:List (List Addr)} {xs:List Nd},Nd3 K G H vs bs xs->vs.length=xs.length/\bs.length=xs.length
 | _,_,_,.nil=>⟨rfl,rfl⟩
 | _,_,_,.cons _ r=>⟨congrArg (· + 1) r.len.1,congrArg (· + 1) r.len.2⟩
end
section
variable {X:Cx} {τ:List Sl} {ia ia2 ib ib2:Expr} {N:Po} {rest:List Stmt} {xs:List Nd} {xa xb:Nd}
end
section
variable {X:Cx} {τ:List Sl} {e2:Expr} {N:Po} {rest:List Stmt} {pos p tp:Pos} {x2:D} {t:Nd}
theorem A0 (i:Nat) {n:Str} {md} (h2:PE X e2 (dE X.K true τ (.d x2))) (h:N.rt (.n (.t [t,.d x2]))) (hi:τ[i]?=some (.n t):=by rfl) (hN:X.N[i]?=some n:=by rfl)
   (hv:Vis X.env.scope n:=by first | exact Or.inl rfl | exact Or.inr (Or.inl rfl) | exact Or.inr (Or.inr rfl)) (hd1:(n == ("__debug__" : Str))=false:=by decide) (hcd:(n == ("__classdict__" : Str))=false:=by decide)
   (s1:starEach [.Name n p,e2] X.env=(false,eval (.Name n p) X.env) :: starEach [e2] X.env:=by rfl) (s2:starEach [e2] X.env=(false,eval e2 X.env) :: starEach [] X.env:=by rfl) :
   PSs X (.Return (some (.Tuple [.Name n p,e2] md tp)) pos :: rest) (dS X.K τ N):=
 a6 (M:=λ_=>False) (psW (pD (vZ (bL (bN (i:=i) hN hv hd1 hcd) (bL h2 dX s2) s1))) λD σ H ⟨A,H₀,B,S,Me⟩=>by
   obtain ⟨_,u,eu,_⟩:=S.sl i _ hi
   refine ⟨_,slot_of eu,aO S λv2 H2 e2 d2=>⟨(show 2<=sizeLine by decide),λp hp=>?_⟩⟩
   have S2:=S.mono e2
   obtain ⟨nd,u',eu',ok⟩:=S2.sl i _ hi
   rw [eu] at eu'
   cases eu'
   have low:aj (hd H2 (own A B)) (hd H2 λb=>A b\/b ∈ B i):=au (aj.refl _) λb z=>z.elim .inl λz=>.inr ⟨i,z⟩
   have nds:aP X.K (hd H2 λb=>A b\/b ∈ B i) H2 [u,v2] (B i) [t,.d x2]:=by
     have:=aP.cons (ok.frame low λ_ _=>rfl) (.cons (b1:=[]) (b2:=[]) (.d (d2.mono low)) .nil)
     rw [List.append_nil,List.append_nil] at this
     exact this
   obtain ⟨z1,z2⟩:=yZ (o:=.tup [u,v2]) hp nds nd
   refine Me.rt (.ref p) _ (p :: B i) _ h (S2.same.trans (ai hp _)) (λb hb'=>?_) ⟨z2,_,rfl,.t aF z1⟩
   rcases List.mem_cons.mp hb' with w | w
   · subst w; exact ⟨S2.same.free hp,_,aF⟩
   · obtain ⟨o,w2⟩:=S2.bd i b w
     exact ⟨S2.fr i b w,o,ai hp _ _ _ w2⟩) λ_ e=>e.elim
end
section
variable {P:Program} {w:World} {K:PySem.W.Frag} {mg:Str->Option Value} {base:Heap}
end
section
variable {X:Cx} {τ:List Sl} {es:List Expr} {pos p q pr:Pos} {k:Nat} {s:Sl} {ds:List D} {N:Po} {rest:List Stmt}
end
end Hy
namespace K54
open PySem PySem.Spec PyProof.Rows L2 Hy
open Ev (D Den aq ay aA)
noncomputable def CA (t:List (List Rat)):D:=.lst (t.map λr=>.lst (r.map frD))
noncomputable def cS (t:List (List Rat)):Nd:=.l (t.map λr=>.l ((r.map frD).map .d))
theorem yL (xs:List D):mG (xs.map .d)=xs:=by
 induction xs with
 | nil=>rfl
 | cons x xs ih=>rw [List.map_cons,mG,ndD,ih]
theorem qf {α:Type} (f:α->List Nd):∀ t:List α,mG (t.map λr=>.l (f r))=t.map λr=>D.lst (mG (f r))
 | []=>rfl
 | r :: t=>by rw [List.map_cons,mG,ndD,qf f t]; rfl
theorem pE (t:List (List Rat)):ndD (cS t)=CA t:=by
 unfold cS CA
 rw [ndD,qf]
 congr 1
 exact List.map_congr_left λr _=>by rw [yL]
theorem oH {α β:Type} (f:α->β) (xs:List α) (d:α) {m:Nat} (h:m=xs.length):(List.range m).map (λi=>f (xs.getD i d))=xs.map f:=by
 subst h
 refine List.ext_getElem (by simp) λi h1 h2=>?_
 have:i < xs.length:=by simpa using h2
 simp [this]
theorem BW {s:Int} (hs:0 < s) (q:Rat):(s * (q.den:Nat)) / (Int.gcd s (q.den:Nat):Int)=scS s q:=by
 unfold scS
 have d1:(Int.gcd s (q.den:Nat):Int) ∣ s:=Int.gcd_dvd_left ..
 rw [Int.mul_comm s,Int.mul_ediv_assoc _ d1,Int.mul_comm]
noncomputable def rwN (r:List Int):Nd:=.l ((r.map D.int).map .d)
noncomputable def oB (R:List (List Int)):Nd:=.l (R.map rwN)
theorem AK (R:List (List Int)):ndD (oB R)=.lst (R.map dtR):=by
 unfold oB rwN
 rw [ndD,qf]
 congr 1
 exact List.map_congr_left λr _=>by rw [yL]; rfl
noncomputable def jY (ds:List D) (r:Sl):Prop:=∃ (R C d v:Nat) (M:List (List Rat)),ds=[tbQ M]/\Tq R C M/\(∀ r ∈ M,∀ x ∈ r,Qs d v x)/\1 + C * d<=8999/\v + d<=8999/\r=.n (.t [oB (whM M (M.map scL)),.d (.int (prZ (M.map scL)))])
theorem uu {M:List (List Rat)} {i:Nat} (h:i < M.length):((List.range (i + 1)).map λi=>whR (M.getD i []) (scL (M.getD i [])))=((List.range i).map λi=>whR (M.getD i []) (scL (M.getD i [])))++[whR (M.getD i []) (scL (M.getD i []))]:=by
 rw [List.range_succ,List.map_append]
 rfl
theorem w4 (M:List (List Rat)):(List.range M.length).map (λi=>whR (M.getD i []) (scL (M.getD i [])))=whM M (M.map scL):=by
 unfold whM
 refine List.map_congr_left λi hi=>?_
 have:i < M.length:=List.mem_range.mp hi
 simp [this]
section
variable {P:Program} {w:World} {K:PySem.W.Frag} {mg:Str->Option Value} {base:Heap} {k:Nat} {f:Addr} {fd:FuncData} {qual:Str}
set_option maxHeartbeats 1000000 in
theorem tu (F:Fun K "_law_rows" qual (top 59) f fd) (hb:∀ x ∈ ah,mg x=none) (c_l_divisor:Cal P w K mg base k "_law_divisor" dj):aN P w K mg base CX0 (k + 1) f fd ["_law_table"] (spD K jY):=by
 refine fnD F lD hb (by rintro _ _ ⟨_,_,_,_,_,rfl,_⟩; rfl) ?_
 rintro _ _ ⟨R,C,d,v,M,rfl,t,hq,z1,z2,rfl⟩ cdv A outer s H E b
 have nd:=lD.nd
 have r7:=t.r7
 have c7:=t.c7
 refine az 1 nd (cb af) ?_
 refine C6 1 (c:=.l []) ?_
 refine az 2 nd ae ?_
 refine bE 3 (g:=λi=>rwQ (M.getD i [])) (λi τ=>i<=M.length/\∃ s3 s4 s5,τ=[.d (tbQ M),.n (oB ((List.range i).map λi=>whR (M.getD i []) (scL (M.getD i [])))),.d (.int (prZ ((M.map scL).take i))),s3,s4,s5]) b nd (aR (aa 0)) (cF (f:=rwQ) (xs:=M) []) ⟨Nat.zero_le _,.un,.un,.un,rfl⟩ (λi hi τ h=>?_) λτ h=>?_
 · obtain ⟨_,s3,s4,s5,rfl⟩:=h
   have hi:i < M.length:=by simpa using hi
   have mi:=bj (xs:=M) (d:=[]) hi
   have hiR:i < R:=by rw [<- t.len]; exact hi
   have hC:=t.at_ hiR
   have qr:=hq _ mi
   rw [uu hi]
   have et:(M.map scL).take (i + 1)=(M.map scL).take i++[scL (M.getD i [])]:=by
     rw [List.take_succ,List.getElem?_map,List.getElem?_eq_getElem hi]
     simp [hi]
   rw [et,jl]
   have bpr:Bd (1 + R * 8999) (prZ ((M.map scL).take i)):=(qp (d:=8999) λx hx=>by
     obtain ⟨r,hr,rfl⟩:=List.mem_map.mp (List.mem_of_mem_take hx)
     have:=eD (d:=d) (r:=r) λx hx=>(hq r hr x hx).den
     rw [t.row r hr] at this
     exact this.mono z1).mono (by
       have:((M.map scL).take i).length<=R:=by rw [List.length_take,List.length_map,t.len]; omega
       have:=Nat.mul_le_mul_right 8999 this
       omega)
   generalize prZ ((M.map scL).take i)=pr at bpr ⊢
   generalize hg:((List.range i).map λi=>whR (M.getD i []) (scL (M.getD i [])))=Gs
   have lGs:Gs.length=i:=by rw [<- hg]; simp
   generalize M.getD i []=row at mi hC qr ⊢
   refine az 4 nd ae ?_
   refine bE 5 (g:=λj=>frD (row.getD j 0)) (λj τ=>j<=row.length/\∃ s5,τ=[.d (tbQ M),.n (oB Gs),.d (.int pr),.d (rwQ row),.d (.int (scL (row.take j))),s5]) b nd (aR (aa 3)) (cF (f:=frD) (xs:=row) 0) ⟨Nat.zero_le _,s5,rfl⟩ (λj hj τ h=>?_) λτ h=>?_
   · obtain ⟨_,s5,rfl⟩:=h
     have hj:j < row.length:=by simpa using hj
     have mm:=bj (d:=(0:Rat)) hj
     have hs:=(fA (row.take j)).1
     have bs:Bd (1 + C * d) (scL (row.take j)):=(eD λx hx=>(qr x (List.mem_of_mem_take hx)).den).mono (by
       have:(row.take j).length * d<=C * d:=Nat.mul_le_mul_right _ (by rw [List.length_take]; omega)
       omega)
     have et:row.take (j + 1)=row.take j++[row.getD j 0]:=by rw [List.take_succ,List.getElem?_eq_getElem hj]; simp [hj]
     rw [et,nY]
     generalize scL (row.take j)=sc at hs bs ⊢
     generalize row.getD j 0=x at mm ⊢
     have hx:=den_pos x
     have sd:=(qr x mm).den
     have dv:aA (Int.gcd sc (x.den:Nat):Int):=(sd.gcd (by omega)).aA (eg (by omega)) (by omega)
     refine az 4 nd (aB (aB (aa 4) (aG (aa 5) ae (aJ (aw (i:=1) rfl))) (aW (bs.ay sd (by omega) (by omega)))) (x_call b c_l_divisor (ab (aa 4) (ab (aG (aa 5) ae (aJ (aw (i:=1) rfl))) af)) ⟨_,_,rfl,rfl⟩) (a5 dv)) (aM ⟨hj,.d (frD x),?_⟩)
     rw [aY,BW hs]
     rfl
   · obtain ⟨_,s5,rfl⟩:=h
     rw [List.length_map,List.take_length]
     have br:=eD (d:=d) (r:=row) λx hx=>(qr x hx).den
     rw [hC] at br
     refine zJ (c:=rwN (whR row (scL row))) (ck 1) (bZ (cmp 0 (g:=λj=>frD (row.getD j 0)) (f:=λj=>.int ((row.getD j 0).num * ((scL row).fdiv ((row.getD j 0).den:Nat)))) b (aR (aa 3)) (cF (f:=frD) (xs:=row) 0) (by rw [List.length_map]; omega) λj hj s0 H0 fp=>?_)) rfl rfl ?hx ?_ ?_
     · have sq:=(qr _ (bj (d:=(0:Rat)) (show j < row.length by simpa using hj))).sq
       generalize row.getD j 0=x at sq ⊢
       have hx:=den_pos x
       have e:(scL row).fdiv (x.den:Nat)=scL row / (x.den:Nat):=Int.fdiv_eq_ediv_of_nonneg _ (by omega)
       exact aB (aG (aa 0) ae (aJ (aw (i:=0) rfl))) (aB (aa 1) (aG (aa 0) ae (aJ (aw (i:=1) rfl))) (a5 (sq.den.aA (by omega) (by omega)))) (aW (by rw [e]; exact sq.num.ay (br.ediv _) (by omega) (by omega)))
     case hx=>
       refine congrArg (λl=>some (Nd.l (l.map .d))) ((df (λx:Rat=>D.int (x.num * ((scL row).fdiv (x.den:Nat)))) row 0 (List.length_map ..)).trans ?_)
       unfold whR
       rw [List.map_map]
       refine List.map_congr_left λx _=>?_
       simp only [Function.comp]
       rw [Int.fdiv_eq_ediv_of_nonneg _ (by have:=den_pos x; omega)]
     · rw [List.length_map,lGs]; omega
     · refine az 2 nd (aB (aa 2) (aa 4) (aW (bpr.ay br (by omega) (by omega)))) (aM ⟨hi,.d (rwQ row),.d (.int (scL row)),s5,?_⟩)
       unfold oB
       rw [List.map_append]
       rfl
 · obtain ⟨_,s3,s4,s5,rfl⟩:=h
   rw [List.length_map,w4,List.take_of_length_le (by rw [List.length_map]; exact Nat.le_refl _)]
   exact A0 1 (aa 2) rfl
end
theorem Qs.of {t b:Int} {q:Rat} {d v:Nat} (hb:0 < b) (h:(t:Rat)=q * (b:Rat)) (hd:Bd d b) (hv:t.natAbs<=2 ^ v):Qs d v q:=by
 obtain ⟨e1,e2⟩:=cy hb h
 refine ⟨by rw [e2]; exact hd.ediv _,?_⟩
 have h1:q.num.natAbs<=t.natAbs:=by rw [e1]; exact Int.natAbs_ediv_le_natAbs ..
 exact Nat.le_trans h1 (Nat.le_trans hv (Nat.le_mul_of_pos_right _ q.den_pos))
noncomputable def sf (M:List (List Rat)) (i j:Nat) (q:Rat):List (List Rat):=M.set i ((M.getD i []).set j q)
theorem xI {M:List (List Rat)} {i:Nat} (hi:i < M.length):dW [i] (cS M)=some (.l (((M.getD i []).map frD).map .d)):=by
 unfold cS
 rw [dW,List.getElem?_map,List.getElem?_eq_getElem hi]
 simp [dW,hi]
theorem qw {M:List (List Rat)} {i j:Nat} {q:Rat}:cK [i] (cS M) (.l ((((M.getD i []).map frD).set j (frD q)).map .d))=cS (sf M i j q):=by
 unfold cS sf
 simp only [List.map_set]
 rfl
theorem vk {M:List (List Rat)} {i j:Nat} (hi:i < M.length) (hj:j < (M.getD i []).length):dW [i,j] (cS M)=some (.d (frD ((M.getD i []).getD j 0))):=by
 unfold cS
 rw [dW,List.getElem?_map,List.getElem?_eq_getElem hi]
 have e:(M.getD i [])=M[i]:=by simp [hi]
 rw [e] at hj ⊢
 simp only [Option.map_some,Option.bind_some,dW,List.getElem?_map,List.getElem?_eq_getElem hj]
 simp [hj]
noncomputable def mkT (R C:Nat) (G:Nat->Nat->Rat):List (List Rat):=(List.range R).map λi=>(List.range C).map (G i)
noncomputable def thW (j c:Nat) (G:Nat->Nat->Rat) (i a:Nat):Rat:=G i a + G i c * G j a / G j c
noncomputable def thS (j c:Nat) (G:Nat->Nat->Rat):Nat->Nat->Rat:=λi a=>if i < j/\a < c/\G j c ≠ 0 then thW j c G i a else G i a
noncomputable def thK (C:Nat) (G:Nat->Nat->Rat):Nat->Nat->Nat->Rat
 | 0=>G
 | k + 1=>thS (k / C) (k % C) (thK C G k)
noncomputable def thP (j c i a:Nat) (G:Nat->Nat->Rat):Nat->Nat->Rat:=λx y=>if x < i/\y < c\/x=i/\y < a then thW j c G x y else G x y
theorem en (R C:Nat) (G:Nat->Nat->Rat):(mkT R C G).length=R:=by simp [mkT]
theorem gJ {R C i:Nat} {G:Nat->Nat->Rat} (hi:i < R):(mkT R C G).getD i []=(List.range C).map (G i):=by simp [mkT,hi]
theorem tQ {R C i j:Nat} {G:Nat->Nat->Rat} (hi:i < R) (hj:j < C):((mkT R C G).getD i []).getD j 0=G i j:=by rw [gJ hi]; simp [hj]
theorem lP {R C:Nat} {G H:Nat->Nat->Rat} (h:∀ i,i < R->∀ j,j < C->G i j=H i j):mkT R C G=mkT R C H:=by
 unfold mkT
 refine List.map_congr_left λi hi=>List.map_congr_left λj hj=>h i (List.mem_range.mp hi) j (List.mem_range.mp hj)
theorem iw {R C:Nat} {G:Nat->Nat->Rat} (r1:1<=R) (r7:R<=7) (c1:1<=C) (c7:C<=7):Tq R C (mkT R C G):=⟨r1,r7,c1,c7,en R C G,λr hr=>by
 unfold mkT at hr
 obtain ⟨i,_,rfl⟩:=List.mem_map.mp hr
 simp⟩
theorem rQ {R C i j:Nat} {G:Nat->Nat->Rat} {q:Rat} (hi:i < R):sf (mkT R C G) i j q=mkT R C λx y=>if x=i/\y=j then q else G x y:=by
 unfold sf
 rw [gJ hi]
 unfold mkT
 refine List.ext_getElem (by simp) λx h1 h2=>?_
 rw [List.getElem_set]
 by_cases e:i=x
 · subst e
   rw [if_pos rfl]
   simp only [List.getElem_map,List.getElem_range]
   refine List.ext_getElem (by simp) λy h3 h4=>?_
   rw [List.getElem_set]
   simp only [List.getElem_map,List.getElem_range,true_and]
   by_cases e:j=y
   · rw [if_pos e,if_pos e.symm]
   · rw [if_neg e,if_neg λz=>e z.symm]
 · rw [if_neg e]
   simp only [List.getElem_map,List.getElem_range]
   refine List.map_congr_left λy _=>?_
   rw [if_neg λz=>e z.1.symm]
theorem Cd (j c:Nat) (G:Nat->Nat->Rat):thP j c 0 0 G=G:=by
 funext x y
 unfold thP
 rw [if_neg (by omega)]
theorem w5 (j c i:Nat) (G:Nat->Nat->Rat):thP j c i c G=thP j c (i + 1) 0 G:=by
 funext x y
 unfold thP
 by_cases h:x < i/\y < c\/x=i/\y < c
 · rw [if_pos h,if_pos (by omega)]
 · rw [if_neg h,if_neg (by omega)]
theorem wg {j c:Nat} {G:Nat->Nat->Rat} (h0:G j c ≠ 0):thP j c j 0 G=thS j c G:=by
 funext x y
 unfold thP thS
 by_cases h:x < j/\y < c
 · rw [if_pos (.inl h),if_pos ⟨h.1,h.2,h0⟩]
 · rw [if_neg (by omega),if_neg λz=>h ⟨z.1,z.2.1⟩]
theorem AE {j c:Nat} {G:Nat->Nat->Rat} (h0:G j c=0):thS j c G=G:=by
 funext x y
 unfold thS
 rw [if_neg λz=>z.2.2 h0]
theorem xM {R C j c i a:Nat} {G:Nat->Nat->Rat} (hi:i < R):sf (mkT R C (thP j c i a G)) i a (thW j c G i a)=mkT R C (thP j c i (a + 1) G):=by
 rw [rQ hi]
 refine lP λx _ y _=>?_
 unfold thP
 by_cases e:x=i/\y=a
 · rw [if_pos e,if_pos (.inr ⟨e.1,by omega⟩),e.1,e.2]
 · rw [if_neg e]
   by_cases h:x < i/\y < c\/x=i/\y < a
   · rw [if_pos h,if_pos (by omega)]
   · rw [if_neg h,if_neg (by omega)]
theorem Ad {j c i a:Nat} {G:Nat->Nat->Rat} (ha:a < c):thP j c i a G i c=G i c:=by
 unfold thP
 rw [if_neg (by omega)]
theorem yv {j c i a y:Nat} {G:Nat->Nat->Rat} (hi:i < j):thP j c i a G j y=G j y:=by
 unfold thP
 rw [if_neg (by omega)]
theorem A3 {j c i a:Nat} {G:Nat->Nat->Rat}:thP j c i a G i a=G i a:=by
 unfold thP
 rw [if_neg (by omega)]
noncomputable def Cq (w d m:Nat) (r:Nat->Rat):Prop:=∃ D:Int,0 < D/\D.natAbs<=2 ^ d/\∀ a < w,∃ z:Int,(z:Rat)=r a * (D:Rat)/\z.natAbs<=2 ^ m
theorem i7 {i j:Int} {a b:Nat} (p:i.natAbs<=2 ^ a) (q:j.natAbs<=2 ^ b):(i * j).natAbs<=2 ^ (a + b):=by rw [Int.natAbs_mul,Nat.pow_add]; exact Nat.mul_le_mul p q
section
variable {w d m e u b:Nat} {r p:Nat->Rat}
theorem Cq.qs {a:Nat} (h:Cq w d m r) (ha:a < w):Qs (d + 1) m (r a):=by
 obtain ⟨D,h0,h1,h⟩:=h
 obtain ⟨z,hz,h2⟩:=h a ha
 refine Qs.of h0 hz ?_ h2
 unfold Bd
 rw [Nat.pow_succ]
 have:=Nat.two_pow_pos d
 omega
theorem Cq.mono {d' m':Nat} (h:Cq w d m r) (h1:d<=d') (h2:m<=m'):Cq w d' m' r:=by
 obtain ⟨D,g0,g1,g⟩:=h
 refine ⟨D,g0,Nat.le_trans g1 (Nat.pow_le_pow_right (by decide) h1),λa ha=>?_⟩
 obtain ⟨z,hz,h3⟩:=g a ha
 exact ⟨z,hz,Nat.le_trans h3 (Nat.pow_le_pow_right (by decide) h2)⟩
theorem Cq.step (hr:Cq w d m r) (hp:Cq w e u p) (hb:b < w) (h0:p b ≠ 0):Cq w (d + u) (m + u + 1) λa=>if a < b then r a + r b * p a / p b else r a:=by
 obtain ⟨D,d0,d1,g⟩:=hr
 obtain ⟨E,e0,e1,f⟩:=hp
 obtain ⟨q,hq,q1⟩:=f b hb
 obtain ⟨zb,hzb,zb1⟩:=g b hb
 have qn:q ≠ 0:=by
   intro z
   subst z
   rcases Rat.mul_eq_zero.mp (show p b * (E:Rat)=0 from hq.symm) with z | z
   · exact h0 z
   · exact vW e0 z
 have cn:=Rat.inv_mul_cancel (p b) h0
 obtain ⟨σ,hσ,hc⟩:∃ σ:Int,(σ=1\/σ=-1)/\0 < q * σ:=by
   rcases Int.lt_or_lt_of_ne qn with z | z
   · exact ⟨-1,.inr rfl,by omega⟩
   · exact ⟨1,.inl rfl,by omega⟩
 have σ1:σ.natAbs=1:=by rcases hσ with rfl | rfl <;> rfl
 have cl:(q * σ).natAbs<=2 ^ u:=by rw [Int.natAbs_mul,σ1,Nat.mul_one]; exact q1
 refine ⟨D * (q * σ),Int.mul_pos d0 hc,i7 d1 cl,λa ha=>?_⟩
 obtain ⟨za,hza,za1⟩:=g a ha
 simp only
 by_cases h:a < b
 · obtain ⟨qa,hqa,qa1⟩:=f a ha
   refine ⟨za * (q * σ) + zb * (qa * σ),?_,?_⟩
   · rw [if_pos h,Rat.div_def]
     simp only [Rat.intCast_mul,Rat.intCast_add]
     rw [hza,hzb,hqa,hq]
     grind
   · refine Nat.le_trans (Int.natAbs_add_le _ _) ?_
     rw [Nat.pow_succ,Nat.mul_two]
     exact Nat.add_le_add (i7 za1 cl) (i7 zb1 (by rw [Int.natAbs_mul,σ1,Nat.mul_one]; exact qa1))
 · refine ⟨za * (q * σ),?_,Nat.le_trans (i7 za1 cl) (Nat.pow_le_pow_right (by decide) (by omega))⟩
   rw [if_neg h]
   simp only [Rat.intCast_mul]
   rw [hza]
   grind
end
noncomputable def thN (C:Nat):Nat->Nat
 | 0=>0
 | k + 1=>thN C k + if 0 < k / C/\0 < k % C then 1 else 0
theorem qx:∀ R,R < 8->∀ C,C < 8->∀ k,k < R * C + 1->thN C k<=(R - 1) * (C - 1):=by decide +kernel
section
variable {R C d m e u:Nat} {G:Nat->Nat->Rat}
theorem mQ:∀ (k i:Nat),k / C<=i->thK C G k i=G i
 | 0,_,_=>rfl
 | k + 1,i,h=>by
   have h1:k / C<=(k + 1) / C:=Nat.div_le_div_right (Nat.le_succ k)
   have ih:=mQ k i (Nat.le_trans h1 h)
   rw [<- ih]
   funext a
   show thS (k / C) (k % C) (thK C G k) i a=_
   unfold thS
   rw [if_neg (by omega)]
theorem pI (hc:0 < C) (hp:∀ i < R,Cq C e u (G i)) (hG:∀ i < R,Cq C d m (G i)):∀ k,k<=R * C->∀ i < R,Cq C (d + u * thN C k) (m + (u + 1) * thN C k) (thK C G k i)
 | 0,_,i,hi=>hG i hi
 | k + 1,hk,i,hi=>by
   have ih:=pI hc hp hG k (by omega) i hi
   have hj:k / C < R:=Nat.div_lt_of_lt_mul (by rw [Nat.mul_comm]; omega)
   have row:thK C G k (k / C)=G (k / C):=mQ k _ (Nat.le_refl _)
   have hb:k % C < C:=Nat.mod_lt _ hc
   show Cq C _ _ (thS (k / C) (k % C) (thK C G k) i)
   by_cases q:i < k / C/\0 < k % C/\thK C G k (k / C) (k % C) ≠ 0
   · have z:0 < k / C/\0 < k % C:=⟨by omega,q.2.1⟩
     have e1:thN C (k + 1)=thN C k + 1:=by show thN C k + _=_; rw [if_pos z]
     have:=ih.step (p:=thK C G k (k / C)) (by rw [row]; exact hp _ hj) hb q.2.2
     have e2:thS (k / C) (k % C) (thK C G k) i=λa=>if a < k % C then thK C G k i a + thK C G k i (k % C) * thK C G k (k / C) a / thK C G k (k / C) (k % C) else thK C G k i a:=by
       funext a
       unfold thS thW
       by_cases z:a < k % C
       · rw [if_pos ⟨q.1,z,q.2.2⟩,if_pos z]
       · rw [if_neg λy=>z y.2.1,if_neg z]
     rw [e1,e2]
     exact this.mono (by rw [Nat.mul_add]; omega) (by rw [Nat.mul_add]; omega)
   · have e2:thS (k / C) (k % C) (thK C G k) i=thK C G k i:=by
       funext a
       unfold thS
       rw [if_neg λy=>q ⟨y.1,by omega,y.2.2⟩]
     rw [e2]
     have:thN C k<=thN C (k + 1):=Nat.le_add_right ..
     exact ih.mono (Nat.add_le_add_left (Nat.mul_le_mul_left _ this) _) (Nat.add_le_add_left (Nat.mul_le_mul_left _ this) _)
end
theorem Sq.part {n:Nat} {p q t:Rat} (h:t ≠ 0) (sp:Sq n p) (sq:Sq n q) (st:Sq n t):Sq (n + n + n) (p * q / t):=by
 have e:=qW (p:=p) (q:=q) h
 have h1:=den_pos p
 have h2:=den_pos q
 have h3:t.num ≠ 0:=λz=>h (Rat.num_eq_zero.mp z)
 have b1:=(sp.1.mul sq.1).mul st.2
 have b2:=(sp.2.mul sq.2).mul st.1
 have b0:((p.den:Nat):Int) * (q.den:Nat) * t.num ≠ 0:=Int.mul_ne_zero (Int.mul_ne_zero (by omega) (by omega)) h3
 generalize p.num * q.num * ((t.den:Nat):Int)=u at e b1
 generalize ((p.den:Nat):Int) * ((q.den:Nat):Int) * t.num=v at e b2 b0
 rcases Int.lt_or_lt_of_ne b0 with z | z
 · exact Sq.cy (t:=-u) (b:=-v) (by omega) (by rw [Rat.intCast_neg,Rat.intCast_neg,e,Rat.mul_neg]) b1.neg b2.neg
 · exact Sq.cy z e b1 b2
theorem cJ {R C i:Nat} {G:Nat->Nat->Rat} (hi:i < R):ixN ((mkT R C G).map λr=>Nd.l ((r.map frD).map .d)).length (i:Int)=some i:=by rw [List.length_map,en]; exact qA hi
theorem dF {R C i j:Nat} {G:Nat->Nat->Rat} (hi:i < R) (hj:j < C):ixN ((((mkT R C G).getD i []).map frD).map Nd.d).length (j:Int)=some j:=by
 rw [List.length_map,List.length_map,gJ hi,List.length_map,List.length_range]
 exact qA hj
theorem rP {R C i j:Nat} {G:Nat->Nat->Rat} (hi:i < R) (hj:j < C):ixN (((mkT R C G).getD i []).map frD).length (j:Int)=some j:=by
 rw [List.length_map,gJ hi,List.length_map,List.length_range]
 exact qA hj
theorem bS {R C i:Nat} {G:Nat->Nat->Rat} (hi:i < R):dW [i] (cS (mkT R C G))=some (.l ((((mkT R C G).getD i []).map frD).map .d)):=xI (by rw [en]; exact hi)
theorem bQ {R C i j:Nat} {G:Nat->Nat->Rat} {q:Rat} (hi:i < R) (hj:j < C) (e:G i j=q):dW [i,j] (cS (mkT R C G))=some (.d (frD q)):=by
 rw [vk (by rw [en]; exact hi) (by rw [gJ hi,List.length_map,List.length_range]; exact hj),tQ hi hj,e]
noncomputable def plD (C k:Nat):D:=.tup [.int ((k / C:Nat):Int),.int ((k % C:Nat):Int)]
section
variable {P:Program} {w:World} {K:PySem.W.Frag} {mg:Str->Option Value} {base:Heap} {k:Nat} {f:Addr} {fd:FuncData} {qual:Str}
end
end K54
namespace Hy
open PySem PySem.Spec PyProof.Rows L2
open Ev (D Den aq ai)
section
variable {X:Cx} {τ:List Sl} {e o:Expr} {pos:Pos} {N:Po} {rest:List Stmt} {s:Sl} {c:Nd}
variable {a b:Expr} {x:D} {k:Nat} {ds:List D}
end
end Hy
namespace L2
open PySem PySem.Spec PyProof.Rows
end L2
namespace Hy
open PySem PySem.Spec PyProof.Rows L2
open Ev (D Den aq ai aX aI aH eJ di PTs cP dR)
section
variable {P:Program} {w:World} {K:PySem.W.Frag} {mg:Str->Option Value} {base:Heap}
end
section
variable {X:Cx} {τ:List Sl} {es:List Expr} {pos p q pr:Pos} {k:Nat} {s:Sl} {ds xs:List D} {N:Po} {rest:List Stmt} {elt it:Expr} {scope:Scope}
end
end Hy
namespace Hy
open PySem PySem.Spec PyProof.Rows L2
open Ev (D Den aq ai)
section
variable {X:Cx} {C:Bool} {τ:List Sl} {x y z:D} {a b e c0 tg it elt:Expr} {es ifs:List Expr} {pos p q q':Pos} {k c:Nat} {cl:Nat->Addr} {xs:List D} {scope:Scope}
end
section
variable {P:Program} {w:World} {K:PySem.W.Frag} {mg:Str->Option Value} {base:Heap} {cl:Nat->Addr}
end
end Hy
namespace Hy
open PySem PySem.Spec PyProof.Rows L2
open Ev (D Den aq cP dR)
section
variable {X:Cx} {C:Bool} {τ:List Sl} {a e tg it elt:Expr} {es ifs:List Expr} {pos p:Pos} {Et:Hp->Prop} {scope:Scope}
end
end Hy
namespace Hy
open PySem PySem.Spec PyProof.Rows L2
open Ev (D Den aq ai)
section
variable {X:Cx} {C:Bool} {τ:List Sl} {e o:Expr} {k c i:Nat} {N:Po} {rest body:List Stmt} {cl:Nat->Addr} {n:Str} {fw S:Addr} {p p' q psm pr ph pos pc pq:Pos} {t:Nd} {pt:List Nat} {xs:List Nd}
end
end Hy
namespace Lc
open PySem PySem.Spec PyProof.Rows L2
open PySem.AutoSeq1 (wpAny_loadPart')
open PySem.MeetsSeq PySem.MeetsSeq2 PySem.MeetsSeq3 PySem.SeqRoads2 PySem.SeqAt
open Ev (D Den aq eqD eP toP)
section
variable {X:Cx} {pins:List (Addr × Obj)} {σ:L2.St} {H G:Hp} {s:Shared}
open Ev (cln eQ dep fN cZ gQ mj lW)
end
end Lc
namespace Hy
open PySem PySem.Spec PyProof.Rows L2
open Ev (D Den aq eP)
end Hy
namespace Hy
open PySem PySem.Spec PyProof.Rows L2
open Ev (D Den aq ai aX aI Ite AV nF)
section
variable {X:Cx} {τ:List Sl} {k:Nat} {N:Po} {rest ret:List Stmt} {c:Expr} {ns:List Nd} {xs:List D} {p q ip tp pos bp cp pb:Pos}
end
end Hy
namespace Hy
open PySem PySem.Spec PyProof.Rows L2
open Ev (D Den aq aI eqD eP eQ cln dep fN)
section
variable {X:Cx} {k:Nat} {x:D} {xs:List D}
end
end Hy
namespace Hy
open PySem PySem.Spec PyProof.Rows L2
open Ev (D Den aq ai aX aI)
noncomputable def par:D->Bool
 | .tup [x,y]=>flat x && flat y
 | _=>false
section
variable {K:PySem.W.Frag} {G H:Hp}
end
section
variable {X:Cx} {τ:List Sl} {e:Expr} {pos:Pos} {N:Po} {rest:List Stmt}
end
section
variable {K:PySem.W.Frag} {A:Addr->Prop} {H₀ H:Hp} {τ:List Sl} {B:Nat->List Addr} {σ:L2.St}
end
section
variable {X:Cx} {τ:List Sl} {N:Po} {rest:List Stmt} {xs:List Nd} {pos p p2:Pos} {s:Sl} {c:Nd}
end
end Hy
namespace Hy
open PySem PySem.Spec PyProof.Rows L2
open Ev (D Den aq ay aA ai aX aI eqD eP eQ cln dep fN)
section
variable {X:Cx} {k:Nat} {x:D} {xs:List D}
end
section
variable {X:Cx} {C:Bool} {τ:List Sl} {x:D} {e o:Expr} {pos:Pos} {N:Po} {rest:List Stmt}
end
end Hy
namespace Hy
open PySem PySem.Spec PyProof.Rows L2
open Ev (D Den aq ai aX aI)
section
variable {X:Cx} {τ τ1 τ2:List Sl} {x y z:D} {a b e o ix:Expr} {pos p q:Pos} {l:Nat} {N:Po} {st:Stmt} {body rest:List Stmt} {i j k:Nat} {t c:Nd} {pt:List Nat} {xs:List Nd} {m:Nat} {ds:List D}
end
section
variable {X:Cx} {τ τ1 τ2 τc:List Sl} {x y z:D} {a b c e o ix:Expr} {es:List Expr} {pos p q pr:Pos} {l k:Nat} {s:Sl} {N:Po} {st:Stmt} {body els rest:List Stmt} {i j m:Nat} {xs ys ds:List D}
end
section
variable {P:Program} {w:World} {K:PySem.W.Frag} {mg:Str->Option Value} {base:Heap}
end
noncomputable def spT (K:PySem.W.Frag) (Φ:Nd->List D->Nd->Prop):Sp:=λvs H Q _=>∃ (A:Addr->Prop) (u:V) (bs:List Addr) (us:List V) (t:Nd) (ds:List D) (t':Nd),vs=u :: us/\(∀ b,A b->∃ o,H b=some o)/\bs.Nodup/\(∀ b ∈ bs,¬ A b)/\bu K (hd H λb=>A b\/b ∈ bs) H u bs t/\aq K (hd H λb=>A b\/b ∈ bs) us ds/\Φ t ds t' /\
 ∀ H' bs',aj (hd H (· ∈ bs)) H'->Fr (hd H (· ∈ bs)) H' bs'->bR K (hd H' λb=>A b\/b ∈ bs') H' (some u) bs' (.n t')->Q .non H'
noncomputable def dSN (K:PySem.W.Frag) (τ:List Sl) (t':Nd):TS:=λD σ H=>∃ A H₀ B u,Sta K A H₀ τ B σ H/\(σ[0]?).join=some u/\∀ σ2 H2 bs',aj H₀ H2->Fr H₀ H2 bs'->bR K (hd H2 λb=>A b\/b ∈ bs') H2 (some u) bs' (.n t')->D.nx σ2 H2/\D.rt .non H2
noncomputable def dSQ (K:PySem.W.Frag) (τ:List Sl) (i:Nat) (M:List Sl->Prop):TS:=λD σ H=>∃ A H₀ B,Sta K A H₀ τ B σ H/\∀ τ' B' σ' H',M τ'->Sta K A H₀ τ' B' σ' H'->σ'[i]?=σ[i]?->D.nx σ' H'
section
variable {X:Cx} {τ τ1 τc:List Sl} {x:D} {c e o:Expr} {es:List Expr} {pos p q pr:Pos} {k:Nat} {N:Po} {st:Stmt} {rest:List Stmt} {t t':Nd} {ds ys:List D} {body:List Stmt} {l i:Nat} {M M1:List Sl->Prop} {s:Sl}
theorem yp (h:M τ):PSs X [] (dSQ X.K τ i M):=iY jb λ_ σ H ⟨_,_,B,S,fn⟩=>fn τ B σ H h S rfl
theorem qg (h1:PS X st (dSQ X.K τ i M1)) (h2:∀ τ1,M1 τ1->PSs X rest (dSQ X.K τ1 i M)):PSs X (st :: rest) (dSQ X.K τ i M):=by
 have h2':PSs X rest λD σ H=>∃ τ1,M1 τ1/\dSQ X.K τ1 i M D σ H:=λpins s σ H D I ⟨τ1,h,q⟩=>h2 τ1 h pins s σ H D I q
 exact iY (ft h1 h2') λ_ _ _ ⟨A,H₀,B,S,fn⟩=>⟨A,H₀,B,S,λτ1 B' _ _ h S' e=>⟨τ1,h,A,H₀,B',S',λτ2 B2 σ2 H2 hm S2 e2=>fn τ2 B2 σ2 H2 hm S2 (e2.trans e)⟩⟩
theorem yH (r:Nat) {n:Str} (hN:X.N.Nodup) (he:PE X e (dE X.K true τ s)) (hr:PSs X rest (dSQ X.K (τ.set r s) i M)) (hri:r ≠ i:=by decide) (hi:X.N[r]?=some n:=by rfl) (hx:Loc X.env.scope n:=by first | exact .inl rfl | exact .inr rfl) (hs:swapsWith e (some (.Name n p)) pos.line X.env=pure false:=by rfl)
   (hf:X.fn n=true\/X.env.scope.names.lookup n=some .local:=by first | exact .inl rfl | exact .inr rfl | assumption):PSs X (.Assign [.Name n p] e pos :: rest) (dSQ X.K τ i M):=
 qg (M1:=(·=τ.set r s)) (psW (tY hN hi hx he hs hf) λD σ H ⟨A,H₀,B,S,fn⟩=>⟨A,H₀,B,S,λw H' bs e hf h=>fn _ _ _ _ rfl (S.set e hf h) (List.getElem?_set_ne hri)⟩) λ_ e=>e ▸ hr
theorem yB (r:Nat) {n:Str} {it:Expr} {g:Nat->D} {tp:Pos} (inv:Nat->List Sl->Prop) (Bq:Bk X l) (hN:X.N.Nodup) (hi:PI X (.Name n tp) it (dI X.K τ ys)) (hx:∀ a (h:a < ys.length),ys[a]=g a)
   (h0:inv 0 τ) (hb:∀ a τ',a < ys.length->inv a τ'->PSs X body (dSQ X.K (τ'.set r (.d (g a))) i (inv (a + 1)))) (hri:r ≠ i:=by decide)
   (hs:∀ x,foldedSetIterable it X.env x=pure x:=by intro _; rfl) (hi':X.N[r]?=some n:=by rfl) (hl:Loc X.env.scope n:=by first | exact .inl rfl | exact .inr rfl)
   (hf:X.fn n=true\/X.env.scope.names.lookup n=some .local:=by first | exact .inl rfl | exact .inr rfl | assumption):PS X (.For (.Name n tp) it body [] pos) (dSQ X.K τ i (inv ys.length)):=by
 have hb':PSs X body λD σ H=>∃ a τ',a < ys.length/\inv a τ'/\dSQ X.K (τ'.set r (.d (g a))) i (inv (a + 1)) D σ H:=λpins s σ H D I ⟨a,τ',h,h',q⟩=>hb a τ' h h' pins s σ H D I q
 refine psW (uK Bq.po hi (da (i:=r) hN hi' hl hf) hb' hs) λD σ H ⟨A,H₀,B,S,fin⟩=>⟨A,H₀,B,S,λJ H1 e1 yl=>?_⟩
 obtain ⟨s0,S1⟩:=(S.mono e1).base
 have sub:∀ {H'},aj (hd H1 λb=>∃ i,b ∈ B i) H'->aj (hd H1 (own A B)) H':=λe=>(au (aj.refl _) λ_ z=>.inr z).trans e
 refine ⟨λa m σ' H'=>m=ys.length - a/\a<=ys.length/\∃ τ' B',inv a τ'/\Sta X.K A (hd H1 λb=>∃ i,b ∈ B i) τ' B' σ' H'/\σ'[i]?=σ[i]?,⟨ys.length,rfl,Nat.zero_le _,τ,B,h0,S1,rfl⟩,?_⟩
 rintro a m σ' H' ⟨rfl,ha,τ',B',hT,S',q'⟩
 obtain ⟨y1,y2⟩:=yl H' (sub S'.same)
 by_cases hlt:a < ys.length
 · obtain ⟨gg,y⟩:=y2 a hlt
   refine .inr ⟨gg,λσ2 H2=>∃ τ2 B2,inv (a + 1) τ2/\Sta X.K A (hd H1 λb=>∃ i,b ∈ B i) τ2 B2 σ2 H2/\σ2[i]?=σ[i]?,λσ2 H2 q=>⟨ys.length - (a + 1),by omega,rfl,hlt,q⟩,λx H2 hy=>?_⟩
   obtain ⟨e2,dx⟩:=y x H2 hy
   have S2:=S'.mono e2
   have dd:=dx (own A B') S'.dm (by
     intro b o z
     obtain ⟨z1,z2⟩:=ak.mp z
     have z3:hd H1 (λb=>∃ i,b ∈ B i) b=some o:=ak.mpr ⟨λy=>z1 (.inr y),z2⟩
     refine ak.mpr ⟨λy=>?_,S'.same _ _ z3⟩
     rcases y with y | ⟨l,y⟩
     · exact z1 (.inl y)
     · rw [S'.fr l b y] at z3; cases z3)
   rw [hx a hlt] at dd
   have S3:=S2.set (i:=r) (aj.refl _) (bs:=[]) (λ_ z=>nomatch z) (iU dd)
   have ei:(σ'.set r (some x))[i]?=σ'[i]?:=List.getElem?_set_ne hri
   exact ⟨a,τ',hlt,hT,A,_,_,S3,λτ3 B3 σ3 H3 h3 S4 q4=>⟨τ3,B3,h3,S4,by rw [q4,ei,q']⟩⟩
 · have e:a=ys.length:=by omega
   subst e
   exact .inl ⟨y1 _ (Nat.le_refl _),fin τ' B' σ' H' hT (S'.back s0 S.ad) q'⟩
theorem vx {K:PySem.W.Frag} {A:Addr->Prop} {H₀ H:Hp} {B:Nat->List Addr} {σ:L2.St} {u:V} {D:Ends} (S:Sta K A H₀ τ B σ H) (eu:(σ[0]?).join=some u) (h0:τ[0]?=some (.n t')) (fin:∀ σ2 H2 bs',aj H₀ H2->Fr H₀ H2 bs'->bR K (hd H2 λb=>A b\/b ∈ bs') H2 (some u) bs' (.n t')->D.nx σ2 H2/\D.rt .non H2) (σ2:L2.St):D.nx σ2 H/\D.rt .non H:=by
 obtain ⟨nd,u',g,h⟩:=S.sl 0 _ h0
 rw [eu] at g
 cases g
 exact fin σ2 H (B 0) S.same (λb hb=>⟨S.fr 0 b hb,S.bd 0 b hb⟩) ⟨nd,u,rfl,h.frame (au (aj.refl _) λb z=>z.elim .inl λz=>.inr ⟨0,z⟩) λ_ _=>rfl⟩
theorem AI (h0:τ[0]?=some (.n t'):=by rfl):PSs X [] (dSN X.K τ t'):=iY jb λ_ σ _ ⟨_,_,_,_,S,eu,fin⟩=>(vx S eu h0 fin σ).1
theorem xl (h1:PS X st (dSQ X.K τ 0 M)) (h2:∀ τ1,M τ1->PSs X rest (dSN X.K τ1 t')):PSs X (st :: rest) (dSN X.K τ t'):=by
 have h2':PSs X rest λD σ H=>∃ τ1,M τ1/\dSN X.K τ1 t' D σ H:=λpins s σ H D I ⟨τ1,h,q⟩=>h2 τ1 h pins s σ H D I q
 exact iY (ft h1 h2') λ_ _ _ ⟨A,H₀,B,u,S,eu,fin⟩=>⟨A,H₀,B,S,λτ1 B' _ _ h S' e=>⟨τ1,h,A,H₀,B',u,S',by rw [e]; exact eu,fin⟩⟩
theorem A5 {p1:Pos} {b:Bool} (hc:PT X c (dT X.K τ b)) (ht:b=true->τ[0]?=some (.n t')) (hf:b=false->PSs X rest (dSN X.K τ t')):PSs X (.If c [.Return none p1] [] pos :: rest) (dSN X.K τ t'):=by
 cases b with
 | true=>exact iY (ft (r6 hc (wj xX) dQ) dQ) λ_ σ _ ⟨A,H₀,B,u,S,eu,fin⟩=>⟨A,H₀,B,S,λH' e=>qi (vx (S.mono e) eu (ht rfl) fin σ).2⟩
 | false=>exact iY (ft (r6 hc dQ jb) (hf rfl)) λ_ σ _ ⟨A,H₀,B,u,S,eu,fin⟩=>⟨A,H₀,B,S,λH' e=>sH ⟨A,H₀,B,u,S.mono e,eu,fin⟩⟩
theorem AF {pt:List Nat} {m:Int} {j:Nat} {ix:Expr} {sp:Pos} (ho:PE X o (dP X.K τ i pt)) (hx:PE X ix (dE X.K false τ (.d (.int m)))) (he:PE X e (dE X.K true τ (.d x))) (hi:τ[i]?=some (.n t)) (hp:dW pt t=some (.l (ds.map .d))) (hj:ixN ds.length m=some j) (hr:PSs X rest (dSQ X.K (τ.set i (.n (cK pt t (.l ((ds.set j x).map .d))))) i M))
   (hs:swapsWithSole [.Subscript o ix sp] e pos.line X.env=pure false:=by rfl) (hw:swappedStores [.Subscript o ix sp] e X.env=pure none:=by rfl) (h1:(assignEach [.Subscript o ix sp] X.env).map (·.2)=[assign (.Subscript o ix sp) X.env]:=by rfl)
   (ha:∀ v,assign (.Subscript o ix sp) X.env v=(do
     let ov <- holding [v] (eval o X.env)
     let iv <- holding [v,ov] (eval ix X.env)
     standAt sp
     holding [v,ov,iv] (setItem ov iv v)
     release [v,ov,iv] []):=by intro _; rfl) :
   PSs X (.Assign [.Subscript o ix sp] e pos :: rest) (dSQ X.K τ i M):=
 qg (M1:=(·=τ.set i (.n (cK pt t (.l ((ds.set j x).map .d)))))) (psW (mU he (pX ho hx set_list ha) hs hw h1) λD σ H ⟨A,H₀,B,S,fn⟩=>aO S λv H1 e1 d1=>by
   refine ⟨A,H₀,B,S.mono e1,λu w H2 eu e2 pv=>aO ((S.mono e1).mono e2) λy H3 e3 d3=>?_⟩
   have S3:=((S.mono e1).mono e2).mono e3
   obtain ⟨u',l,vs,bs0,eu',pv',hH,r0,nd0,hal,hown,put⟩:=S3.putN hi hp
   rw [eu] at eu'
   cases eu'
   obtain rfl:=(pv.mono e3).det pv'
   cases d3
   obtain ⟨dl,rfl⟩:=gf r0
   refine ⟨l,vs,m,j,rfl,rfl,hH,by rw [dl.length]; exact hj,?_⟩
   have sm:aj (hd H3 (own A B)) (hd (upd H3 l (.lst (vs.set j v))) λb=>own A B b\/b ∈ ([]:List Addr)):=λb o z=>by
     obtain ⟨z1,z2⟩:=ak.mp z
     exact ak.mpr ⟨(λy=>y.elim z1 λy=>(nomatch y)),by rw [ax (λy:b=l=>z1 (by rw [y]; exact hal))]; exact z2⟩
   obtain ⟨B',S'⟩:=put (H1:=H3) (vs':=vs.set j v) (bs1:=[]) (xs':=(ds.set j x).map .d) (aj.refl _) List.nodup_nil (λ_ z=>nomatch z) (nB ((je j dl (d1.mono (au (e2.trans e3) λ_ z=>z))).mono sm))
   exact fn _ B' _ _ rfl S' rfl) λ_ e=>e ▸ hr
theorem xh (i:Nat) {n nk:Str} {Φ:Nd->List D->Nd->Prop} (Bb:Bk X k) (cl:sG X.prog X.w X.K X.mg X.base k n (spT X.K Φ)) (hΦ:Φ t ds t') (hi:τ[i]?=some (.n t)) (ha:PA X es (dA X.K true τ ds)) (hr:PSs X rest (dS X.K (τ.set i (.n t')) N)) (hNi:X.N[i]?=some nk:=by rfl)
   (hv:Vis X.env.scope nk:=by first | exact Or.inl rfl | exact Or.inr (Or.inl rfl) | exact Or.inr (Or.inr rfl)) (hd1:(nk == ("__debug__" : Str))=false:=by decide) (hcd:(nk == ("__classdict__" : Str))=false:=by decide)
   (hg:Gl X n:=by rfl) (hdb:(n == ("__debug__" : Str))=false:=by decide) (he:starEach (.Name nk q :: es) X.env=(false,eval (.Name nk q) X.env) :: starEach es X.env:=by rfl) (hpl:(backTo pos (starEach es X.env)).any (·.1)=false:=by rfl)
   (hs:swapsWith (.Call (.Name n p) (.Name nk q :: es) [] pos) none pr.line X.env=pure false:=by rfl) :
   PSs X (.Expr (.Call (.Name n p) (.Name nk q :: es) [] pos) pr :: rest) (dS X.K τ N):=by
 obtain ⟨f,fd,ps,F,hm,hk,hb⟩:=cl
 refine a6 (M:=(·=τ.set i (.n t'))) (psW (fL (rV F Bb.room hg hm hk hb .nil yE (bL (bN (i:=i) hNi hv hd1 hcd) ha he) hdb he hpl) hs) λD σ H ⟨A,H₀,B,S,Me⟩=>?_) λ_ e=>e ▸ hr
 obtain ⟨_,u,h2,_⟩:=S.sl i _ hi
 refine ⟨_,slot_of h2,fq S λvs H1 e1 d1=>?_⟩
 have S1:=S.mono e1
 obtain ⟨nd,u',g2,g3⟩:=S1.sl i _ hi
 rw [h2] at g2
 cases g2
 show spT X.K Φ (_++[]) _ _ _
 rw [List.append_nil]
 have f0:∀ b ∈ B i,H₀ b=none:=λb hb=>S.fr i b hb
 have vwS:aj (Hy.hd H1 (own A B)) (Hy.hd H1 λb=>(own A B b/\b ∉ B i)\/b ∈ B i):=au (aj.refl _) λb z=>z.elim (·.1) λz=>.inr ⟨i,z⟩
 refine ⟨λb=>own A B b/\b ∉ B i,u,B i,vs,t,ds,t',rfl,λb z=>S1.dm b z.1,nd,λb hb z=>z.2 hb,g3.frame vwS λ_ _=>rfl,d1.mono vwS,hΦ,λH' bs e2 fr z=>?_⟩
 have low:∀ b,b ∉ B i->∀ o,H1 b=some o->H' b=some o:=λb hb o y=>e2 b o (ak.mpr ⟨hb,y⟩)
 have new:∀ b ∈ bs,b ∉ B i->H1 b=none:=λb hb h=>by
   cases y:H1 b with
   | none=>rfl
   | some o=>
     have:=(fr b hb).1
     rw [ak.mpr ⟨h,y⟩] at this
     cases this
 have off:∀ j b,j ≠ i->b ∈ B j->b ∉ B i:=λj b hj hb z=>hj (S.uq j i b hb z)
 have es:σ.set i (some u)=σ:=by
   refine List.ext_getElem? λj=>?_
   by_cases ej:i=j
   · subst ej
     have hl:=(List.getElem?_eq_some_iff.mp hi).1
     rw [List.getElem?_set_self (by rw [S.len]; exact hl)]
     rw [List.getElem?_eq_getElem (show i < σ.length by rw [S.len]; exact hl)] at h2 ⊢
     exact congrArg some (Eq.symm h2)
   · rw [List.getElem?_set_ne ej]
 refine Me.nx _ (upB B i bs) _ _ rfl (es ▸ (show Sta X.K A H₀ (τ.set i (.n t')) (upB B i bs) (σ.set i (some u)) H' from ?_))
 refine ⟨λb o y=>low b (λz=>by rw [f0 b z] at y; cases y) o (S1.same b o y),by rw [List.length_set,List.length_set,S.len],λj c hj=>?_,λj b hb=>?_,λj k b z1 z2=>?_,S.ad,λj b hb=>?_⟩
 · by_cases ej:j=i
   · subst ej
     have hl:=(List.getElem?_eq_some_iff.mp hi).1
     rw [List.getElem?_set_self hl] at hj
     cases hj
     rw [List.getElem?_set_self (by rw [S.len]; exact hl)]
     unfold upB
     rw [if_pos rfl]
     refine z.mono (au (aj.refl _) λb y=>?_) (aj.refl _)
     rcases y with y | ⟨k,y⟩
     · exact .inl ⟨.inl y,λw=>by obtain ⟨o,g⟩:=S.ad b y; rw [f0 b w] at g; cases g⟩
     · rcases aV (B:=B) (i:=j) (j:=k) y with ⟨_,y⟩ | ⟨y1,y⟩
       · exact .inr y
       · exact .inl ⟨.inr ⟨k,y⟩,off k b y1 y⟩
   · rw [List.getElem?_set_ne (λz=>ej z.symm)] at hj
     rw [List.getElem?_set_ne (λz=>ej z.symm)]
     have:=(S1.sl j c hj).frame (G':=Hy.hd H' (own A (upB B i bs))) (H':=H') (λb o y=>by
       obtain ⟨y1,y2⟩:=ak.mp y
       have nb:b ∉ B i:=λw=>y1 (.inr ⟨i,w⟩)
       refine ak.mpr ⟨λw=>?_,low b nb o y2⟩
       rcases w with w | ⟨k,w⟩
       · exact y1 (.inl w)
       · rcases aV w with ⟨_,w⟩ | ⟨_,w⟩
         · rw [new b w nb] at y2; cases y2
         · exact y1 (.inr ⟨k,w⟩)) (λb hb=>by
       obtain ⟨o,y⟩:=S1.bd j b hb
       rw [y,low b (off j b ej hb) o y])
     unfold upB
     rw [if_neg ej]
     exact this
 · rcases aV hb with ⟨_,y⟩ | ⟨_,y⟩
   · by_cases w:b ∈ B i
     · exact f0 b w
     · exact S1.same.free (new b y w)
   · exact S.fr j b y
 · have kk:∀ j,j ≠ i->b ∈ B j->b ∉ bs:=λj hj hb w=>by
     obtain ⟨o,y⟩:=S1.bd j b hb
     rw [new b w (off j b hj hb)] at y
     cases y
   rcases aV z1 with ⟨y1,y⟩ | ⟨y1,y⟩ <;> rcases aV z2 with ⟨y2,y'⟩ | ⟨y2,y'⟩
   · exact y1.trans y2.symm
   · exact absurd y (kk k y2 y')
   · exact absurd y' (kk j y1 y)
   · exact S.uq j k b y y'
 · rcases aV hb with ⟨_,y⟩ | ⟨y1,y⟩
   · exact (fr b y).2
   · obtain ⟨o,w⟩:=S1.bd j b y
     exact ⟨o,low b (off j b y1 y) o w⟩
end
section
variable {P:Program} {w:World} {K:PySem.W.Frag} {mg:Str->Option Value} {base:Heap}
theorem fnT {x qual:Str} {st:Stmt} {f:Addr} {fd:FuncData} {N ps:List Str} {k:Nat} {Φ:Nd->List D->Nd->Prop} (F:Fun K x qual st f fd) (S:ao N ps (ag st)) (hb:∀ x ∈ ah,mg x=none) (len:∀ t ds r,Φ t ds r->ds.length + 1=ps.length)
   (body:∀ t ds r,Φ t ds r->∀ cdv A outer s H E0,Bk (Xc P w K mg base N qual st f cdv A outer s H E0) k->PSs (Xc P w K mg base N qual st f cdv A outer s H E0) (bK st) (dSN K (.n t :: (ds.map .d++List.replicate (N.length - (ds.length + 1)) .un)) r)) :
   aN P w K mg base CX0 (k + 1) f fd ps (spT K Φ):=by
 refine F.ok S (λvs H Q E ⟨A,u,bs,us,t,ds,r,hvs,_,_,_,_,dd,h,_⟩=>by rw [hvs,List.length_cons,dd.length]; exact len _ ds r h) λcdv A outer s H vs Q E hr ⟨A',u,bs,us,t,ds,r,hvs,ha,ndp,nd,hp,dd,h,q⟩=>?_
 subst hvs
 have ow:∀ b,own A' (λi=>if i=0 then bs else []) b ↔ (A' b\/b ∈ bs):=λb=>by
   refine ⟨λz=>z.elim .inl λ⟨i,z⟩=>?_,λz=>z.elim .inl λz=>.inr ⟨0,by simp [z]⟩⟩
   by_cases e:i=0
   · simp only [if_pos e] at z; exact .inr z
   · simp only [if_neg e] at z; cases z
 have hB:∀ i b,b ∈ (if i=0 then bs else []:List Addr)->i=0/\b ∈ bs:=λi b z=>by
   by_cases e:i=0
   · rw [if_pos e] at z; exact ⟨e,z⟩
   · rw [if_neg e] at z; cases z
 have vw:aj (Hy.hd H λb=>A' b\/b ∈ bs) (Hy.hd H (own A' λi=>if i=0 then bs else [])):=au (aj.refl _) λb z=>(ow b).mp z
 refine ⟨_,body t ds r h cdv A outer s H E ⟨hr,rfl,hb,PassesOwn.never⟩,A',Hy.hd H (· ∈ bs),λi=>if i=0 then bs else [],u,⟨aL,?_,λi s hi=>?_,λi b z=>?_,λi j b z1 z2=>((hB i b z1).1).trans ((hB j b z2).1).symm,λb z=>?_,λi b z=>hp.some_of b (hB i b z).2⟩,rfl,λσ2 H' bs' e fr z=>⟨q H' bs' e fr z,q H' bs' e fr z⟩⟩
 · unfold L2.start
   simp [dd.length]
 · have hl:=dd.length
   unfold L2.start
   match i,hi with
   | 0,hi=>
     cases hi
     exact ⟨ndp,u,rfl,hp.frame vw λ_ _=>rfl⟩
   | i + 1,hi=>
     rw [List.getElem?_cons_succ] at hi
     show bR K _ H ((((us.map some)++_)[i]?).join) _ s
     by_cases hlt:i < ds.length
     · rw [List.getElem?_append_left (by simpa using hlt),List.getElem?_map,List.getElem?_eq_getElem hlt] at hi
       cases hi
       obtain ⟨v,e,dv⟩:=dd.get (List.getElem?_eq_getElem hlt)
       refine ⟨rfl,v,?_,dv.mono vw⟩
       rw [List.getElem?_append_left (by simpa [hl] using hlt),List.getElem?_map,e]
       rfl
     · rw [List.getElem?_append_right (by simpa using hlt),List.getElem?_replicate] at hi
       split at hi
       · cases hi; rfl
       · cases hi
 · unfold Hy.hd
   rw [if_pos (hB i b z).2]
 · obtain ⟨o,y⟩:=ha b z
   exact ⟨o,ak.mpr ⟨λe=>nd b e z,y⟩⟩
end
end Hy
namespace K54
open PySem PySem.Spec PyProof.Rows L2 Hy
open Ev (D Den aq ay aA)
noncomputable def tuW (s:Int) (j c:Nat) (G:Nat->Nat->Rat) (i a:Nat):Rat:=G i a + (s:Rat) * (G i c / G j c) * G j a
noncomputable def tuS (s:Int) (j c:Nat) (G:Nat->Nat->Rat):Nat->Nat->Rat:=λi a=>if i < j/\a < c/\G j c ≠ 0 then tuW s j c G i a else G i a
noncomputable def tuP (s:Int) (j c i a:Nat) (G:Nat->Nat->Rat):Nat->Nat->Rat:=λx y=>if x < i/\y < c\/x=i/\y < a then tuW s j c G x y else G x y
theorem x8 (j c:Nat) (G:Nat->Nat->Rat):tuS 1 j c G=thS j c G:=by
 funext i a
 unfold tuS thS tuW thW
 rw [show ((1:Int):Rat)=1 from rfl,Rat.one_mul,Rat.div_def,Rat.div_def,Rat.mul_assoc,Rat.mul_comm _ (G j a),<- Rat.mul_assoc]
theorem By (s:Int) (j c:Nat) (G:Nat->Nat->Rat):tuP s j c 0 0 G=G:=by
 funext x y
 unfold tuP
 rw [if_neg (by omega)]
theorem x5 (s:Int) (j c i:Nat) (G:Nat->Nat->Rat):tuP s j c i c G=tuP s j c (i + 1) 0 G:=by
 funext x y
 unfold tuP
 by_cases h:x < i/\y < c\/x=i/\y < c
 · rw [if_pos h,if_pos (by omega)]
 · rw [if_neg h,if_neg (by omega)]
theorem xw {s:Int} {j c:Nat} {G:Nat->Nat->Rat} (h0:G j c ≠ 0):tuP s j c j 0 G=tuS s j c G:=by
 funext x y
 unfold tuP tuS
 by_cases h:x < j/\y < c
 · rw [if_pos (.inl h),if_pos ⟨h.1,h.2,h0⟩]
 · rw [if_neg (by omega),if_neg λz=>h ⟨z.1,z.2.1⟩]
theorem Al {s:Int} {j c:Nat} {G:Nat->Nat->Rat} (h0:G j c=0):tuS s j c G=G:=by
 funext x y
 unfold tuS
 rw [if_neg λz=>z.2.2 h0]
theorem xN {s:Int} {R C j c i a:Nat} {G:Nat->Nat->Rat} (hi:i < R):sf (mkT R C (tuP s j c i a G)) i a (tuW s j c G i a)=mkT R C (tuP s j c i (a + 1) G):=by
 rw [rQ hi]
 refine lP λx _ y _=>?_
 unfold tuP
 by_cases e:x=i/\y=a
 · rw [if_pos e,if_pos (.inr ⟨e.1,by omega⟩),e.1,e.2]
 · rw [if_neg e]
   by_cases h:x < i/\y < c\/x=i/\y < a
   · rw [if_pos h,if_pos (by omega)]
   · rw [if_neg h,if_neg (by omega)]
theorem y6 {s:Int} {j c i a:Nat} {G:Nat->Nat->Rat} (ha:a<=c):tuP s j c i a G i c=G i c:=by
 unfold tuP
 rw [if_neg (by omega)]
theorem yq {s:Int} {j c i a y:Nat} {G:Nat->Nat->Rat} (hi:i < j):tuP s j c i a G j y=G j y:=by
 unfold tuP
 rw [if_neg (by omega)]
theorem zO {s:Int} {j c i a:Nat} {G:Nat->Nat->Rat}:tuP s j c i a G i a=G i a:=by
 unfold tuP
 rw [if_neg (by omega)]
noncomputable def ff (t:Nd) (ds:List D) (t':Nd):Prop:=∃ (R C j c:Nat) (s:Int) (G:Nat->Nat->Rat),t=cS (mkT R C G)/\ds=[.int (j:Nat),.int (c:Nat),.int s]/\j < R/\c < C/\R<=7/\C<=7/\(∀ i,i < R->∀ a,a < C->Sq 900 (G i a))/\(s=1\/s=-1)/\t'=cS (mkT R C (tuS s j c G))
noncomputable def chS (R C j c:Nat) (s:Int) (H:Nat->Nat->Rat) (s4 s5 s6 s7:Sl):List Sl:=[.n (cS (mkT R C H)),.d (.int (j:Nat)),.d (.int (c:Nat)),.d (.int s),s4,s5,s6,s7]
theorem sgn_mul {s:Int} (hs:s=1\/s=-1) (q:Rat):D.tup [.int (s * q.num),.int (q.den:Nat)]=frD ((s:Rat) * q):=by
 rcases hs with rfl | rfl
 · rw [Int.one_mul,show ((1:Int):Rat)=1 from rfl,Rat.one_mul]; rfl
 · rw [show ((-1:Int):Rat)=-1 from rfl,Rat.neg_mul,Rat.one_mul]
   unfold frD
   rw [Rat.neg_num,Rat.neg_den,Int.neg_mul,Int.one_mul]
theorem Sq.div {m:Nat} {x y:Rat} (hx:Sq m x) (hy:Sq m y) (h:y ≠ 0):Sq (m + m) (x / y):=by
 have n0:y.num ≠ 0:=λz=>h (Rat.num_eq_zero.mp z)
 have dx:=den_pos x
 have dy:=den_pos y
 have e:((x.num * (y.den:Nat):Int):Rat)=x / y * (((x.den:Nat) * y.num:Int):Rat):=by
   rw [Rat.intCast_mul,Rat.intCast_mul,<- b6 x,<- b6 y]
   generalize (((x.den:Nat):Int):Rat)=a
   generalize (((y.den:Nat):Int):Rat)=b
   have:x / y * y=x:=Rat.div_mul_cancel h
   generalize x / y=w at this ⊢
   grind
 have b1:Bd (m + m) (x.num * (y.den:Nat)):=hx.num.mul hy.den
 have b2:Bd (m + m) ((x.den:Nat) * y.num):=hx.den.mul hy.num
 rcases Int.lt_or_gt_of_ne n0 with neg | pos
 · refine Sq.cy (t:=-(x.num * (y.den:Nat))) (b:=-((x.den:Nat) * y.num)) ?_ ?_ ?_ ?_
   · have:=Int.mul_neg_of_pos_of_neg dx neg; omega
   · rw [Rat.intCast_neg,Rat.intCast_neg,e]; grind
   · unfold Bd at b1 ⊢; rw [Int.natAbs_neg]; exact b1
   · unfold Bd at b2 ⊢; rw [Int.natAbs_neg]; exact b2
 · exact Sq.cy (Int.mul_pos dx pos) e b1 b2
theorem Sq.sgn {n:Nat} {s:Int} {q:Rat} (hs:s=1\/s=-1) (h:Sq n q):Sq n ((s:Rat) * q):=by
 rcases hs with rfl | rfl
 · rw [show ((1:Int):Rat)=1 from rfl,Rat.one_mul]; exact h
 · rw [show ((-1:Int):Rat)=-1 from rfl,Rat.neg_mul,Rat.one_mul]
   exact ⟨by rw [Rat.neg_num]; exact h.1.neg,by rw [Rat.neg_den]; exact h.2⟩
section
variable {P:Program} {w:World} {K:PySem.W.Frag} {mg:Str->Option Value} {base:Heap} {k:Nat} {f:Addr} {fd:FuncData} {qual:Str}
set_option maxHeartbeats 4000000 in
theorem mO (F:Fun K "change_by" qual (top 43) f fd) (hb:∀ x ∈ ah,mg x=none) (c_quotient_of:Cal P w K mg base k "quotient_of" dD) (c_sum_of:Cal P w K mg base k "sum_of" ka) (c_product_of:Cal P w K mg base k "product_of" cR):aN P w K mg base CX0 (k + 1) f fd ["grid","j","b","sign"] (spT K ff):=by
 refine fnT F hJ hb (by rintro _ _ _ ⟨_,_,_,_,_,_,_,rfl,_⟩; rfl) ?_
 rintro _ _ _ ⟨R,C,j,c,s,V,rfl,rfl,hj,hc,r7,c7,sz,hs,rfl⟩ cdv A outer st H E b
 have nd:=hJ.nd
 refine A5 (bf (aG (kE (bM (bM (ck 0) (aa 1) rfl rfl (cJ hj)) (aa 2) rfl (bS hj) (dF hj hc)) rfl (bQ hj hc rfl)) ae (aJ (aw (i:=0) rfl))) ae gN) (λh=>?_) λh=>?_
 · have h0:V j c=0:=by
     have:(V j c).num=0:=by simpa using h
     exact Rat.num_eq_zero.mp this
   rw [Al h0]
   rfl
 · have h0:V j c ≠ 0:=λz=>by
     rw [z] at h
     exact absurd h (by decide)
   refine xl (yB 4 (λi τ=>∃ s4 s5 s6 s7,τ=chS R C j c s (tuP s j c i 0 V) s4 s5 s6 s7) b nd (cH b (aa 1) (by omega) (by omega)) cE ⟨_,_,_,_,by rw [By]; rfl⟩ λi τ hi h=>?_) λτ h=>?_
   · obtain ⟨s4,s5,s6,s7,rfl⟩:=h
     have hi:i < j:=by rw [av] at hi; omega
     have hiR:i < R:=by omega
     have q1:=(sz i hiR c hc).div (sz j hj c hc) h0
     refine yH 5 nd (x_call b c_quotient_of (ab (kE (bM (bM (ck 0) (aa 4) rfl rfl (cJ hiR)) (aa 2) rfl (bS hiR) (dF hiR hc)) rfl (bQ hiR hc (y6 (a:=0) (by omega)))) (ab (kE (bM (bM (ck 0) (aa 1) rfl rfl (cJ hj)) (aa 2) rfl (bS hj) (dF hj hc)) rfl (bQ hj hc (yq hi))) af)) ⟨900,900,V i c,V j c,rfl,h0,sz i hiR c hc,sz j hj c hc,by decide,rfl⟩) ?_
     refine yH 6 nd (cC (ab (aB (aa 3) (aG (aa 5) ae (aJ (aw (i:=0) rfl))) (aW (by rcases hs with rfl | rfl <;> exact mkL (by decide)))) (ab (aG (aa 5) ae (aJ (aw (i:=1) rfl))) af))) ?_
     rw [sgn_mul hs]
     refine qg (yB 7 (λa τ=>a<=c/\∃ s7,τ=chS R C j c s (tuP s j c i a V) (.d (.int (i:Nat))) (.d (frD (V i c / V j c))) (.d (frD ((s:Rat) * (V i c / V j c)))) s7) b nd (cH b (aa 2) (by omega) (by omega)) cE ⟨by omega,s7,rfl⟩ λa τ ha h=>?_) λτ h=>?_
     · obtain ⟨_,u7,rfl⟩:=h
       have ha:a < c:=by rw [av] at ha; rw [Int.toNat_natCast] at ha; exact ha
       have haC:a < C:=by omega
       have q2:=(q1.sgn hs).mul (sz j hj a haC)
       refine AF (pt:=[]++[i]) (t:=cS (mkT R C (tuP s j c i a V))) (ds:=((mkT R C (tuP s j c i a V)).getD i []).map frD) (j:=a) (x:=frD (tuW s j c V i a)) (bM (ck 0) (aa 4) rfl rfl (cJ hiR)) (aa 7) (x_call b c_sum_of (ab (kE (bM (bM (ck 0) (aa 4) rfl rfl (cJ hiR)) (aa 7) rfl (bS hiR) (dF hiR haC)) rfl (bQ hiR haC zO)) (ab (x_call b c_product_of (ab (aa 6) (ab (kE (bM (bM (ck 0) (aa 1) rfl rfl (cJ hj)) (aa 7) rfl (bS hj) (dF hj haC)) rfl (bQ hj haC (yq hi))) af)) ⟨_,_,_,_,rfl,q1.sgn hs,sz j hj a haC,by decide,rfl⟩) af)) ⟨_,_,_,_,rfl,sz i hiR a haC,q2,by decide,rfl⟩) rfl (bS hiR) (rP hiR haC) (yp ?_)
       refine ⟨by omega,.d (.int (a:Nat)),?_⟩
       show (chS R C j c s _ _ _ _ _).set 0 (Sl.n (cK [i] (cS (mkT R C (tuP s j c i a V))) _))=_
       rw [qw,xN hiR]
       rfl
     · obtain ⟨_,u7,rfl⟩:=h
       rw [av,Int.toNat_natCast,x5]
       exact yp ⟨_,_,_,u7,rfl⟩
   · obtain ⟨s4,s5,s6,s7,rfl⟩:=h
     rw [av,Int.toNat_natCast,xw h0]
     exact AI
end
noncomputable def e8 (ds:List D) (r:Sl):Prop:=∃ (R C:Nat) (M:List (List Rat)),ds=[tbQ M]/\Tq R C M/\r=.o ((List.range (R * C)).map (plD C))
theorem AH {C i:Nat} (hc:0 < C):(List.range (i * C)).map (plD C)++(List.range C).map (λl=>D.tup [.int (i:Nat),.int (l:Nat)])=(List.range ((i + 1) * C)).map (plD C):=by
 refine List.ext_getElem (by simp [Nat.add_mul]) λn h1 h2=>?_
 rw [List.length_append,List.length_map,List.length_map,List.length_range,List.length_range] at h1
 rw [List.getElem_map,List.getElem_range]
 by_cases h:n < i * C
 · rw [List.getElem_append_left (by rw [List.length_map,List.length_range]; exact h),List.getElem_map,List.getElem_range]
 · rw [List.getElem_append_right (by rw [List.length_map,List.length_range]; omega),List.getElem_map,List.getElem_range]
   have e1:n / C=i:=by
     obtain ⟨q,rfl⟩:∃ q,n=i * C + q:=⟨n - i * C,by omega⟩
     rw [Nat.mul_comm,Nat.mul_add_div hc,Nat.div_eq_of_lt (by omega),Nat.add_zero]
   have e2:n % C=n - i * C:=by
     have:=Nat.div_add_mod n C
     rw [e1,Nat.mul_comm] at this
     omega
   unfold plD
   rw [e1,e2,List.length_map,List.length_range]
section
variable {P:Program} {w:World} {K:PySem.W.Frag} {mg:Str->Option Value} {base:Heap} {k:Nat} {f:Addr} {fd:FuncData} {qual:Str}
theorem l9 (F:Fun K "places_of" qual (top 42) f fd) (hb:∀ x ∈ ah,mg x=none):aN P w K mg base CX0 (k + 1) f fd ["table"] (spD K e8):=by
 refine fnD F gY hb (by rintro _ _ ⟨_,_,_,rfl,_⟩; rfl) ?_
 rintro _ _ ⟨R,C,M,rfl,t,rfl⟩ cdv A outer s H E b
 have nd:=gY.nd
 have r1:=t.r1
 have c1:=t.c1
 have r7:=t.r7
 have c7:=t.c7
 have e0:atI (M.map rwQ) 0=some (rwQ (M.getD 0 [])):=du [] (i:=0) (by rw [t.len]; omega)
 refine az 1 nd (cb af) ?_
 refine bE 2 (λi τ=>∃ s2,τ=[.d (tbQ M),.o ((List.range (i * C)).map (plD C)),s2]) b nd (cH b (a4 b (ab (aa 0) af) (cD (n:=R) (by rw [List.length_map]; exact t.len))) (by omega) (by omega)) cE ⟨_,by rw [Nat.zero_mul]; rfl⟩ (λi hi τ h=>?_) λτ h=>?_
 · obtain ⟨s2,rfl⟩:=h
   have hi:i < R:=by rw [av] at hi; omega
   have ic:i * C<=7 * 7:=Nat.mul_le_mul (by omega) c7
   refine Cj 1 (xs:=(List.range (i * C)).map (plD C)) (bZ (cmp 0 (f:=λl=>.tup [.int (i:Nat),.int (l:Nat)]) b (cH b (a4 b (ab (aG (aa 0) ae (aU e0)) af) (cD (n:=C) (by rw [List.length_map]; exact t.at_ (by omega)))) (by omega) (by omega)) cE (by rw [av]; omega) λl hl s0 H0 fp=>(cC (ab (aa 1) (ab (aa 0) af))))) ?_ (aM ⟨.d (.int (i:Nat)),?_⟩)
   · rw [List.length_map,List.length_map,List.length_range,List.length_range,av]; omega
   · rw [<- AH (by omega),av,Int.toNat_natCast]
     rfl
 · obtain ⟨s2,rfl⟩:=h
   rw [av,Int.toNat_natCast]
   exact iI 1 rfl
end
noncomputable def fI (ds:List D) (r:Sl):Prop:=∃ (R C d m:Nat) (G:Nat->Nat->Rat),ds=[tbQ (mkT R C G)]/\1<=R/\R<=7/\1<=C/\C<=7/\(∀ k,k<=R * C->∀ i < R,Cq C d m (thK C G k i))/\m + (d + 1)<=900/\r=.n (cS (mkT R C (thK C G (R * C))))
section
variable {P:Program} {w:World} {K:PySem.W.Frag} {mg:Str->Option Value} {base:Heap} {k:Nat} {f:Addr} {fd:FuncData} {qual:Str}
set_option maxHeartbeats 4000000 in
theorem mR (F:Fun K "thickened" qual (top 41) f fd) (hb:∀ x ∈ ah,mg x=none) (c_look_table:Cal P w K mg base k "look_table" cQ) (c_places_of:Cal P w K mg base k "places_of" e8) (c_change_by:sG P w K mg base k "change_by" (spT K ff)):aN P w K mg base CX0 (k + 1) f fd ["table"] (spD K fI):=by
 refine fnD F hR hb (by rintro _ _ ⟨_,_,_,_,_,rfl,_⟩; rfl) ?_
 rintro _ _ ⟨R,C,d,m,G,rfl,r1,r7,c1,c7,cq,hz,rfl⟩ cdv A outer s H E b
 have nd:=hR.nd
 have rc:R * C<=49:=Nat.mul_le_mul r7 c7
 have t:=iw (G:=G) r1 r7 c1 c7
 have qs:∀ r ∈ mkT R C G,∀ x ∈ r,Qs (d + 1) m x:=λr hr x hx=>by
   unfold mkT at hr
   obtain ⟨i,hi,rfl⟩:=List.mem_map.mp hr
   obtain ⟨j,hj,rfl⟩:=List.mem_map.mp hx
   exact (cq 0 (Nat.zero_le _) i (List.mem_range.mp hi)).qs (List.mem_range.mp hj)
 refine ku (x_call b c_look_table (ab (aa 0) af) ⟨R,C,_,rfl,t,rfl⟩) ?_
 refine rN 1 nd (ns:=(List.range ((mkT R C G).map rwQ).length).map λi=>.l ((((mkT R C G).getD i []).map frD).map .d)) (A7 0 (g:=λi=>rwQ ((mkT R C G).getD i [])) (f:=λi=>.l ((((mkT R C G).getD i []).map frD).map .d)) b (aR (aa 0)) (cF (f:=rwQ) (xs:=mkT R C G) []) (by rw [List.length_map,en]; omega) (λi hi s0 H0 fp=>nK (b.comp s0 H0 _ fp) (ab (aa 0) af) iF) λi hi=>rfl) ?_
 rw [show (List.range ((mkT R C G).map rwQ).length).map (λi=>Nd.l ((((mkT R C G).getD i []).map frD).map .d))=(mkT R C G).map (λr=>Nd.l ((r.map frD).map .d)) from oH (λr:List Rat=>Nd.l ((r.map frD).map .d)) (mkT R C G) [] (List.length_map ..)]
 have lnP:((List.range (R * C)).map (plD C)).length=R * C:=by rw [List.length_map,List.length_range]
 refine bE 2 (λk τ=>∃ s2,τ=[.d (tbQ (mkT R C G)),.n (cS (mkT R C (thK C G k))),s2]) b nd (aR (aS (x_call b c_places_of (ab (aa 0) af) ⟨R,C,_,rfl,t,rfl⟩))) (λi h=>by rw [List.getElem_map,List.getElem_range]) ⟨_,rfl⟩ (λkk hk τ h=>?_) λτ h=>?_
 · obtain ⟨s2,rfl⟩:=h
   rw [lnP] at hk
   have cqk:=cq kk (by omega)
   have eK:thK C G (kk + 1)=thS (kk / C) (kk % C) (thK C G kk):=rfl
   rw [eK,<- x8]
   have hj:kk / C < R:=Nat.div_lt_of_lt_mul (by rw [Nat.mul_comm]; omega)
   have hc:kk % C < C:=Nat.mod_lt _ c1
   generalize thK C G kk=V at cqk ⊢
   unfold plD
   generalize kk / C=j at hj ⊢
   generalize kk % C=c at hc ⊢
   have sz:∀ i,i < R->∀ a,a < C->Sq 900 (V i a):=λi hi a ha=>((cqk i hi).qs ha).sq.mono hz
   refine xh 1 b c_change_by ⟨R,C,j,c,1,V,rfl,rfl,hj,hc,r7,c7,sz,.inl rfl,rfl⟩ rfl (ab (aG (aa 2) ae (aJ (aw (i:=0) rfl))) (ab (aG (aa 2) ae (aJ (aw (i:=1) rfl))) (ab ae af))) (aM ⟨_,rfl⟩)
 · obtain ⟨s2,rfl⟩:=h
   rw [lnP]
   exact iI 1 rfl
end
noncomputable def ed (ds:List D) (r:Sl):Prop:=∃ ns:List Int,ds=[.lst (ns.map .int)]/\ns.length<=7/\r=.o ((ns.map λx:Int=>((x:Rat))).map frD)
section
variable {P:Program} {w:World} {K:PySem.W.Frag} {mg:Str->Option Value} {base:Heap} {k:Nat} {f:Addr} {fd:FuncData} {qual:Str}
theorem kG (F:Fun K "numbers_in" qual (top 51) f fd) (hb:∀ x ∈ ah,mg x=none):aN P w K mg base CX0 (k + 1) f fd ["row"] (spD K ed):=by
 refine fnD F fW hb (by rintro _ _ ⟨_,rfl,_⟩; rfl) ?_
 rintro _ _ ⟨ns,rfl,l7,rfl⟩ cdv A outer s H E b
 have nd:=fW.nd
 refine aK (bZ (cmp 0 (g:=λi=>.int (ns.getD i 0)) (f:=λi=>frD ((ns.getD i 0:Int):Rat)) b (aR (aa 0)) (cF (f:=D.int) (xs:=ns) 0) (by rw [List.length_map]; omega) λi hi s0 H0 fp=>(cC (ab (aa 0) (ab ae af))))) ?_
 rw [List.map_map]
 exact congrArg Sl.o (df (λx:Int=>frD (x:Rat)) ns 0 (List.length_map ..))
end
noncomputable def rwD (r:List Int):D:=.lst (r.map .int)
noncomputable def tbD (m:List (List Int)):D:=.lst (m.map rwD)
noncomputable def tb (C q:Nat) (g:List Int):List (List Int):=(List.range q).map λi=>(g.drop (i * C)).take C
theorem gq (C q:Nat) (g:List Int):(tb C q g).length=q:=by simp [tb]
theorem yF {C q:Nat} {g:List Int} {i:Nat} (h:i < q):(tb C q g).getD i []=(g.drop (i * C)).take C:=by simp [tb,h]
theorem gm {C q:Nat} {g:List Int} {i j:Nat} (h:i < q) (hj:j < C):((tb C q g).getD i []).getD j 0=g.getD (i * C + j) 0:=by
 rw [yF h]
 simp [List.getD,List.getElem?_take,hj,List.getElem?_drop]
theorem zT {C q:Nat} {g:List Int} {i:Nat} (h:i < q) (hg:q * C<=g.length):((tb C q g).getD i []).length=C:=by
 rw [yF h,List.length_take,List.length_drop]
 have:(i + 1) * C<=q * C:=Nat.mul_le_mul_right C h
 rw [Nat.succ_mul] at this
 omega
structure Tb (R C:Nat) (f:List Int):Prop where
 r1:1<=R
 r7:R<=7
 c1:1<=C
 c7:C<=7
 len:f.length=R * C
 g:∀ {i j:Nat},i < R->j < C->f.getD (i * C + j) 0=1\/(f.getD (i * C + j) 0=0/\¬ ((∃ j',j' < j/\f.getD (i * C + j') 0=1)/\(∃ i',i' < i/\f.getD (i' * C + j) 0=1)))
theorem Tb.bit {R C:Nat} {f:List Int} (h:Tb R C f) {i j:Nat} (hi:i < R) (hj:j < C):f.getD (i * C + j) 0=1\/f.getD (i * C + j) 0=0:=(h.g hi hj).imp id (·.1)
theorem Tb.i0 {R C:Nat} {f:List Int} (h:Tb R C f) {i:Nat} (hi:i < R):((tb C R f).getD i []).length=C:=zT hi (by rw [h.len]; exact Nat.le_refl _)
theorem mem_getD {xs:List Int} {x:Int} (h:x ∈ xs):∃ i,i < xs.length/\xs.getD i 0=x:=by
 obtain ⟨i,hi,rfl⟩:=List.getElem_of_mem h
 exact ⟨i,hi,by simp [hi]⟩
theorem iu {m:List (List Int)} {i:Int} (h0:0<=i) (h:i.toNat < m.length):atI (m.map rwD) i=some (rwD (m.getD i.toNat [])):=by
 obtain ⟨n,rfl⟩:=Int.eq_ofNat_of_zero_le h0
 exact aw (by
   have h:n < m.length:=h
   simp [h])
theorem kZ {m:List (List Int)} (i:Nat) (h:i < (m.map rwD).length):(m.map rwD)[i]=rwD (m.getD i []):=by
 have:i < m.length:=by simpa using h
 simp [this]
section
variable {P:Program} {w:World} {K:PySem.W.Frag} {mg:Str->Option Value} {base:Heap} {k:Nat} {f:Addr} {fd:FuncData} {qual:Str}
end
noncomputable def mkG (C:Nat) (f:List Int) (i a:Nat):Rat:=((f.getD (i * C + a) 0:Int):Rat)
theorem t4 {R C:Nat} {f:List Int} (h:Tb R C f):∀ i,i < R->Cq C 0 0 (mkG C f i):=λi hi=>⟨1,by decide,by decide,λa ha=>⟨f.getD (i * C + a) 0,by show _=_ * (1:Rat); rw [Rat.mul_one]; rfl,by rcases h.bit hi ha with z | z <;> rw [z] <;> decide⟩⟩
theorem uy {R C:Nat} {f:List Int} (h:Tb R C f):∀ k,k<=R * C->∀ i < R,Cq C 0 36 (thK C (mkG C f) k i):=λk hk i hi=>by
 have q:=pI (R:=R) h.c1 (t4 h) (t4 h) k hk i hi
 have n:=qx R (by have:=h.r7; omega) C (by have:=h.c7; omega) k (by omega)
 have b:(R - 1) * (C - 1)<=6 * 6:=Nat.mul_le_mul (by have:=h.r7; omega) (by have:=h.c7; omega)
 exact q.mono (by omega) (by omega)
theorem AL {C i:Nat} {f:List Int} {xs:List Int} (l:xs.length=C) (h:∀ j,j < C->f.getD (i * C + j) 0=xs.getD j 0):(List.range C).map (mkG C f i)=xs.map λx:Int=>(x:Rat):=by
 subst l
 refine List.ext_getElem (by simp) λj h1 h2=>?_
 have hj:j < xs.length:=by simpa using h1
 rw [List.getElem_map,List.getElem_map,List.getElem_range]
 unfold mkG
 rw [h j hj]
 simp [hj]
noncomputable def dn (ds:List D) (r:Sl):Prop:=∃ (R C:Nat) (f:List Int),ds=[tbD (tb C R f)]/\Tb R C f/\r=.n (cS (mkT R C (thK C (mkG C f) (R * C))))
section
variable {P:Program} {w:World} {K:PySem.W.Frag} {mg:Str->Option Value} {base:Heap} {k:Nat} {f:Addr} {fd:FuncData} {qual:Str}
theorem jN (F:Fun K "plain_table" qual (top 50) f fd) (hb:∀ x ∈ ah,mg x=none) (c_thickened:Cal P w K mg base k "thickened" fI) (c_numbers_in:Cal P w K mg base k "numbers_in" ed):aN P w K mg base CX0 (k + 1) f fd ["marks"] (spD K dn):=by
 refine fnD F fG hb (by rintro _ _ ⟨_,_,_,rfl,_⟩; rfl) ?_
 rintro _ _ ⟨R,C,g,rfl,h,rfl⟩ cdv A outer s H E b
 have nd:=fG.nd
 have lm:=gq C R g
 have r7:=h.r7
 refine aK (x_call b c_thickened (ab (aS (bZ (cmp 0 (g:=λi=>rwD ((tb C R g).getD i [])) (f:=λi=>rwQ ((List.range C).map (mkG C g i))) b (aR (aa 0)) kZ (by rw [List.length_map]; omega) λi hi s0 H0 fp=>?_))) af) ⟨R,C,0,36,mkG C g,?_,h.r1,h.r7,h.c1,h.c7,uy h,by decide,rfl⟩) rfl
 · have hi:i < R:=by rw [List.length_map,lm] at hi; exact hi
   have lr:=h.i0 hi
   have c7:=h.c7
   refine aS (x_call (b.comp s0 H0 _ fp) c_numbers_in (ab (aa 0) af) ⟨(tb C R g).getD i [],rfl,by omega,rfl⟩) ?_
   have e:((tb C R g).getD i []).map (λx:Int=>(x:Rat))=(List.range C).map (mkG C g i):=(AL lr λj hj=>(gm hi hj).symm).symm
   rw [e]
   rfl
 · rw [List.length_map,lm]
   unfold tbQ mkT
   rw [List.map_map]
   rfl
end
noncomputable def qk (m:List (List Int)) (j:Nat):List Int:=(List.range m.length).map λi=>(m.getD i []).getD j 0
noncomputable def fH (ds:List D) (r:Sl):Prop:=∃ (m:List (List Int)) (j:Nat),ds=[tbD m,.int j]/\m.length<=1000/\(∀ i,i < m.length->j < (m.getD i []).length)/\r=.o ((qk m j).map .int)
noncomputable def nS (xs:List Int):Bool:=xs.any λw=>decide (w=1)
noncomputable def mbe (C R:Nat) (f:List Int) (i j:Nat):Bool:=!nS (((tb C R f).getD i []).take j) || !nS ((qk (tb C R f) j).take i)
noncomputable def c8 (ds:List D) (r:Sl):Prop:=∃ (R C:Nat) (f:List Int) (i j:Nat),ds=[tbD (tb C R f),.int i,.int j]/\Tb R C f/\i < R/\j < C/\r=.d (.bl (mbe C R f i j))
theorem qQ {xs:List Int}:nS xs=true ↔ ∃ i,i < xs.length/\xs.getD i 0=1:=by
 unfold nS
 rw [List.any_eq_true]
 constructor
 · rintro ⟨x,h1,h2⟩
   obtain ⟨i,h3,h4⟩:=mem_getD h1
   exact ⟨i,h3,by rw [h4]; exact of_decide_eq_true h2⟩
 · rintro ⟨i,h1,h2⟩
   refine ⟨xs.getD i 0,by simp [h1],by rw [h2]; rfl⟩
theorem yb {m:List (List Int)} {j i:Nat} (h:i < m.length):(qk m j).getD i 0=(m.getD i []).getD j 0:=by simp [qk,h]
theorem qT {xs:List Int} {n i:Nat} (h:i < n):(xs.take n).getD i 0=xs.getD i 0:=by simp [List.getD,List.getElem?_take,h]
theorem Tb.mbe {R C:Nat} {f:List Int} (h:Tb R C f) {i j:Nat} (hi:i < R) (hj:j < C) (z:¬ f.getD (i * C + j) 0=1):K54.mbe C R f i j=true:=by
 unfold K54.mbe
 cases e1:nS (((tb C R f).getD i []).take j) with
 | false=>rfl
 | true=>
   cases e2:nS ((qk (tb C R f) j).take i) with
   | false=>rfl
   | true=>
     exfalso
     rcases h.g hi hj with y | ⟨_,y⟩
     · exact z y
     · refine y ⟨?_,?_⟩
       · obtain ⟨l,h1,h2⟩:=qQ.mp e1
         rw [List.length_take] at h1
         rw [qT (by omega),gm hi (by omega)] at h2
         exact ⟨l,by omega,h2⟩
       · obtain ⟨l,h1,h2⟩:=qQ.mp e2
         rw [List.length_take] at h1
         rw [qT (by omega),yb (by rw [gq]; omega),gm (by omega) hj] at h2
         exact ⟨l,by omega,h2⟩
theorem nJ (ns:List Int) (j:Nat):cutD (ns.map D.int) none (some (j:Int))=(ns.take j).map D.int:=by rw [mI,List.map_take]
section
variable {P:Program} {w:World} {K:PySem.W.Frag} {mg:Str->Option Value} {base:Heap} {k:Nat} {f:Addr} {fd:FuncData} {qual:Str}
theorem mX (F:Fun K "column_of" qual (top 28) f fd) (hb:∀ x ∈ ah,mg x=none):aN P w K mg base CX0 (k + 1) f fd ["table","j"] (spD K fH):=by
 refine fnD F lX hb (by rintro _ _ ⟨_,_,rfl,_⟩; rfl) ?_
 rintro _ _ ⟨t,j,rfl,hl,hj,rfl⟩ cdv A outer s H E b
 refine aK (bZ (cmp 0 (f:=λi=>.int ((t.getD i []).getD j 0)) b (aR (aa 0)) kZ (by rw [List.length_map]; omega) λi hi s0 H0 fp=>(aG (aa 0) (aa 1) (aU (gc (ns:=t.getD i []) (i:=(j:Int)) (by omega) (hj i (by rw [List.length_map] at hi; exact hi))))))) ?_
 rw [List.length_map]
 unfold qk
 rw [List.map_map]
 rfl
theorem i5 (F:Fun K "may_be_empty" qual (top 48) f fd) (hb:∀ x ∈ ah,mg x=none) (c_column_of:Cal P w K mg base k "column_of" fH):aN P w K mg base CX0 (k + 1) f fd ["marks","i","j"] (spD K c8):=by
 refine fnD F i4 hb (by rintro _ _ ⟨_,_,_,_,_,rfl,_⟩; rfl) ?_
 rintro _ _ ⟨R,C,g,i,j,rfl,h,hi,hj,rfl⟩ cdv A outer s H E b
 have lm:=gq C R g
 have h7:=h.r7
 refine aK (Cc (cO (z:=.bl (!nS (((tb C R g).getD i []).take j))) ae (aS (mC (aG (aa 0) (aa 1) (aU (iu (m:=tb C R g) (i:=(i:Int)) (by omega) (by rw [lm]; exact hi)))) hX (cI (aa 2)))) ?_) λ_=>(fb (cO (z:=.bl (!nS ((qk (tb C R g) j).take i))) ae (aS (mC (aS (x_call b c_column_of (ab (aa 0) (ab (aa 2) af)) ⟨tb C R g,j,rfl,by omega,λl hl=>by rw [h.i0 (by omega)]; exact hj,rfl⟩)) hX (cI (aa 1)))) ?_))) rfl
 · rw [nJ]; exact uB
 · rw [nJ]; exact uB
end
noncomputable def eA (ds:List D) (r:Sl):Prop:=∃ i l m:Int,ds=[.int i,.int l,.int m]/\r=.d (.bl (decide (l<=i) && decide (i<=m)))
section
variable {P:Program} {w:World} {K:PySem.W.Frag} {mg:Str->Option Value} {base:Heap} {k:Nat} {f:Addr} {fd:FuncData} {qual:Str}
theorem kz (F:Fun K "is_between" qual (top 9) f fd) (hb:∀ x ∈ ah,mg x=none) (c_is_whole:Cal P w K mg base k "is_whole" cu):aN P w K mg base CX0 (k + 1) f fd ["thing","least","most"] (spD K eA):=by
 refine fnD F kP hb (by rintro _ _ ⟨_,_,_,rfl,_⟩; rfl) ?_
 rintro _ _ ⟨i,l,m,rfl,rfl⟩ cdv A outer s H E b
 exact aK (fS (x_call b c_is_whole (ab (aa 0) af) ⟨_,rfl,rfl⟩) λh=>(fb (rF (aa 1) (aa 0) (aa 2) xt xt).1)) rfl
end
noncomputable def cj (ds:List D) (r:Sl):Prop:=∃ (R C:Nat) (f:List Int) (i:Nat),ds=[tbD (tb C R f),.int i]/\Tb R C f/\i < R/\r=.d (.bl true)
noncomputable def b5 (ds:List D) (r:Sl):Prop:=∃ ns:List Int,ds=[rwD ns]/\1<=ns.length/\ns.length<=7/\(∀ i,i < ns.length->ns.getD i 0=1\/ns.getD i 0=0)/\r=.d (.bl true)
noncomputable def cX (ds:List D) (r:Sl):Prop:=∃ (R C:Nat) (f:List Int),ds=[tbD (tb C R f)]/\Tb R C f/\r=.d (.bl true)
theorem ng (n:Nat) (f:Nat->Bool) (h:∀ i,i < n->f i=true):((List.range n).map f).all id=true:=by
 rw [List.all_map,List.all_eq_true]
 intro i hi
 exact h i (List.mem_range.mp hi)
noncomputable def dB (ds:List D) (r:Sl):Prop:=∃ (R C:Nat) (f:List Int),ds=[tbD (tb C R f)]/\Tb R C f/\r=.d .non
section
variable {P:Program} {w:World} {K:PySem.W.Frag} {mg:Str->Option Value} {base:Heap} {k:Nat} {f:Addr} {fd:FuncData} {qual:Str}
theorem gS (F:Fun K "is_well_filled" qual (top 47) f fd) (hb:∀ x ∈ ah,mg x=none) (c_may_be_empty:Cal P w K mg base k "may_be_empty" c8):aN P w K mg base CX0 (k + 1) f fd ["marks","i"] (spD K cj):=by
 refine fnD F g8 hb (by rintro _ _ ⟨_,_,_,_,rfl,_⟩; rfl) ?_
 rintro _ _ ⟨R,C,g,i,rfl,h,hi,rfl⟩ cdv A outer s H E b
 have lm:=gq C R g
 have hr:=h.i0 hi
 have h7:=h.c7
 have er:∀ (i':Int),(i'=i)->(rwD ((tb C R g).getD i'.toNat []))=rwD ((tb C R g).getD i []):=λi' e=>by rw [e]; rfl
 have lc:(((tb C R g).getD i []).map D.int).length=C:=by rw [List.length_map,hr]
 refine aK (a4 b (ab (aS (bZ (cmp 0 (f:=λj=>.bl (decide (((tb C R g).getD i []).getD j 0=1) || mbe C R g i j)) b (cH b (a4 b (ab (aG (aa 0) (aa 1) (aU (iu (m:=tb C R g) (i:=(i:Int)) (by omega) (by rw [lm]; exact hi)))) af) eG) ?_ ?_) cE ?_ λj hj s0 H0 fp=>?_))) af) (fT b.calm ((List.range C).map λj=>decide (((tb C R g).getD i []).getD j 0=1) || mbe C R g i j) ?_)) ?_
 · show -(2 ^ 62)<=(((((tb C R g).getD i []).map D.int).length:Nat):Int); omega
 · show (((((tb C R g).getD i []).map D.int).length:Nat):Int) < 2 ^ 62; omega
 · rw [av]; show ((((((tb C R g).getD i []).map D.int).length:Nat):Int)).toNat < 1000000; omega
 · have hj:j < C:=by rw [av] at hj; have:j < ((((((tb C R g).getD i []).map D.int).length:Nat):Int)).toNat:=hj; omega
   exact (Cc (cO (aG (aG (aa 2) (aa 1) (aU (iu (m:=tb C R g) (i:=(i:Int)) (by omega) (by rw [lm]; exact hi)))) (aa 0) (aU (gc (ns:=(tb C R g).getD i []) (i:=(j:Int)) (by omega) (by rw [hr]; exact hj)))) ae gN) λ_=>(fb (x_call (b.comp s0 H0 _ fp) c_may_be_empty (ab (aa 2) (ab (aa 1) (ab (aa 0) af))) ⟨R,C,g,i,j,rfl,h,hi,hj,rfl⟩)))
 · rw [av,List.map_map]
   show (List.range ((((((tb C R g).getD i []).map D.int).length:Nat):Int)).toNat).map _=_
   rw [lc,Int.toNat_natCast]
   rfl
 · show Sl.d (.bl _)=Sl.d (.bl true)
   congr 2
   rw [List.all_map,List.all_eq_true]
   intro j hj
   rw [List.mem_range] at hj
   simp only [Function.comp,id]
   rw [gm hi hj]
   by_cases z:g.getD (i * C + j) 0=1
   · rw [decide_eq_true z]; rfl
   · rw [h.mbe hi hj z,Bool.or_true]
theorem gx (F:Fun K "is_row_of_marks" qual (top 46) f fd) (hb:∀ x ∈ ah,mg x=none) (c_is_short_list:Cal P w K mg base k "is_short_list" a7) (c_is_between:Cal P w K mg base k "is_between" eA):aN P w K mg base CX0 (k + 1) f fd ["thing"] (spD K b5):=by
 refine fnD F gj hb (by rintro _ _ ⟨_,rfl,_⟩; rfl) ?_
 rintro _ _ ⟨ns,rfl,h1,h7,h01,rfl⟩ cdv A outer s H E b
 refine aK (fS (x_call b c_is_short_list (ab (aa 0) af) ⟨_,rfl,rfl⟩) λ_=>(fb (a4 b (ab (aS (bZ (cmp 0 (f:=λi=>.bl (decide ((0:Int)<=ns.getD i 0) && decide (ns.getD i 0<=1))) b (aR (aa 0)) k5 (by rw [List.length_map]; omega) λi hi s0 H0 fp=>(x_call (b.comp s0 H0 _ fp) c_is_between (ab (aa 0) (ab ae (ab ae af))) ⟨_,_,_,rfl,rfl⟩)))) af) (fT b.calm ((List.range ns.length).map λi=>decide ((0:Int)<=ns.getD i 0) && decide (ns.getD i 0<=1)) (by rw [List.length_map,List.map_map]; rfl))))) ?_
 show Sl.d (.bl _)=Sl.d (.bl true)
 rw [List.length_map,decide_eq_true (show (1:Int)<=(ns.length:Nat) by omega),decide_eq_true (show ((ns.length:Nat):Int)<=7 by omega)]
 congr 2
 rw [Bool.true_and,Bool.true_and,List.all_map,List.all_eq_true]
 intro i hi
 rw [List.mem_range] at hi
 simp only [Function.comp,id]
 rcases h01 i hi with z | z <;> rw [z] <;> rfl
theorem iX (F:Fun K "is_staircase" qual (top 45) f fd) (hb:∀ x ∈ ah,mg x=none) (c_is_short_list:Cal P w K mg base k "is_short_list" a7) (c_is_well_filled:Cal P w K mg base k "is_well_filled" cj) (c_is_row_of_marks:Cal P w K mg base k "is_row_of_marks" b5):aN P w K mg base CX0 (k + 1) f fd ["thing"] (spD K cX):=by
 refine fnD F i3 hb (by rintro _ _ ⟨_,_,_,rfl,_⟩; rfl) ?_
 rintro _ _ ⟨R,C,g,rfl,h,rfl⟩ cdv A outer s H E b
 have lm:=gq C R g
 have h1:=h.r1
 have h7:=h.r7
 have c1:=h.c1
 have c7:=h.c7
 have lt:((tb C R g).map rwD).length=R:=by rw [List.length_map,lm]
 have r0:((((tb C R g).getD 0 []).map D.int).length)=C:=by rw [List.length_map,h.i0 (by omega)]
 refine cM (PW.pt (ny (bV (bP (x_call b c_is_short_list (ab (aa 0) af) ⟨_,rfl,rfl⟩))) λ_=>(jX (bV (bP (a4 b (ab (aS (bZ (cmp 0 (f:=λ_=>.bl true) b (aR (aa 0)) kZ (by omega) λi hi s0 H0 fp=>(x_call (b.comp s0 H0 _ fp) c_is_row_of_marks (ab (aa 0) af) ?_)))) af) (fT b.calm ((List.range R).map λ_=>true) ?_))))))) ?_ ?_
 · rw [lt] at hi
   exact ⟨_,rfl,by rw [h.i0 hi]; exact c1,by rw [h.i0 hi]; exact c7,λj hj=>by rw [h.i0 hi] at hj; rw [gm hi hj]; exact h.bit hi hj,rfl⟩
 · rw [lt,List.map_map]; rfl
 · rw [lt,decide_eq_true (show (1:Int)<=(R:Nat) by omega),decide_eq_true (show ((R:Nat):Int)<=7 by omega),ng R _ λ_ _=>rfl]
   rfl
 refine cM (bV (bP (a4 b (ab (aS (bZ (cmp 0 (f:=λi=>.bl (decide ((((((tb C R g).getD i []).map D.int).length:Nat):Int)=(((((tb C R g).getD 0 []).map D.int).length:Nat):Int)))) b (aR (aa 0)) kZ (by omega) λi hi s0 H0 fp=>(cO (a4 (b.comp s0 H0 _ fp) (ab (aa 0) af) eG) (a4 (b.comp s0 H0 _ fp) (ab (aG (aa 1) ae (aU (iu (m:=tb C R g) (i:=0) (by omega) (by rw [lm]; exact h1)))) af) eG) gN)))) af) (fT b.calm ((List.range R).map λi=>decide ((((((tb C R g).getD i []).map D.int).length:Nat):Int)=(((((tb C R g).getD 0 []).map D.int).length:Nat):Int))) (by rw [lt,List.map_map]; rfl))))) ?_ ?_
 · rw [ng R _ λi hi=>decide_eq_true (by rw [r0,List.length_map,h.i0 hi])]
   rfl
 refine aK (a4 b (ab (aS (bZ (cmp 0 (f:=λ_=>.bl true) b (cH b (a4 b (ab (aa 0) af) eG) (by omega) (by omega)) cE (by rw [av]; omega) λi hi s0 H0 fp=>(x_call (b.comp s0 H0 _ fp) c_is_well_filled (ab (aa 1) (ab (aa 0) af)) ?_)))) af) (fT b.calm ((List.range R).map λ_=>true) ?_)) ?_
 · rw [av] at hi
   exact ⟨R,C,g,i,rfl,h,by omega,rfl⟩
 · rw [av,List.map_map,lt,Int.toNat_natCast]; rfl
 · rw [ng R _ λ_ _=>rfl]
theorem jk (F:Fun K "look_stairs" qual (top 49) f fd) (hb:∀ x ∈ ah,mg x=none) (c_is_staircase:Cal P w K mg base k "is_staircase" cX):aN P w K mg base CX0 (k + 1) f fd ["thing"] (spD K dB):=by
 refine fnD F jr hb (by rintro _ _ ⟨_,_,_,rfl,_⟩; rfl) ?_
 rintro _ _ ⟨R,C,g,rfl,h,rfl⟩ cdv A outer s H E b
 exact cM (bV (bP (x_call b c_is_staircase (ab (aa 0) af) ⟨R,C,g,rfl,h,rfl⟩))) rfl (aM rfl)
end
noncomputable def kq (ds:List D) (r:Sl):Prop:=∃ (R C m:Nat) (f:List Int) (rs cs:List Int),ds=[tbD (tb C R f),.lst (rs.map .int),.lst (cs.map .int)]/\Tb R C f/\ChO R rs/\ChO C cs/\rs.length=m/\cs.length=m/\m<=7/\r=.d (.bl (decide (mnQ (mkT R C (thK C (mkG C f) (R * C))) rs cs ≠ 0)))
section
variable {P:Program} {w:World} {K:PySem.W.Frag} {mg:Str->Option Value} {base:Heap} {k:Nat} {f:Addr} {fd:FuncData} {qual:Str}
theorem sr (F:Fun K "stands" qual (top 52) f fd) (hb:∀ x ∈ ah,mg x=none) (c_look_stairs:Cal P w K mg base k "look_stairs" dB) (c_minor:Cal P w K mg base k "minor" l5) (c_plain_table:Cal P w K mg base k "plain_table" dn):aN P w K mg base CX0 (k + 1) f fd ["marks","rows","columns"] (spD K kq):=by
 refine fnD F kW hb (by rintro _ _ ⟨_,_,_,_,_,_,rfl,_⟩; rfl) ?_
 rintro _ _ ⟨R,C,m,g,rs,cs,rfl,h,hr,hc,l1,l2,m7,rfl⟩ cdv A outer s H E b
 have nd:=kW.nd
 refine ku (x_call b c_look_stairs (ab (aa 0) af) ⟨R,C,g,rfl,h,rfl⟩) ?_
 have cq:=λi hi=>uy h (R * C) (Nat.le_refl _) i hi
 have qs:∀ r ∈ mkT R C (thK C (mkG C g) (R * C)),∀ x ∈ r,Qs 1 36 x:=λr hr x hx=>by
   unfold mkT at hr
   obtain ⟨i,hi,rfl⟩:=List.mem_map.mp hr
   obtain ⟨j,hj,rfl⟩:=List.mem_map.mp hx
   exact (cq i (List.mem_range.mp hi)).qs (List.mem_range.mp hj)
 have bz:Bz m 1 36:=⟨by omega,by
   have:m * (36 + (1 + m * 1) + 3)<=7 * (36 + (1 + 7 * 1) + 3):=Nat.mul_le_mul m7 (by omega)
   omega,by
   have:m * (1 + m * 1)<=7 * (1 + 7 * 1):=Nat.mul_le_mul m7 (by omega)
   omega,by omega⟩
 refine aK (cO (aG (x_call b c_minor (ab (aS (x_call b c_plain_table (ab (aa 0) af) ⟨R,C,g,rfl,h,rfl⟩) ?_) (ab (aa 1) (ab (aa 2) af))) ⟨R,C,m,1,36,mkT R C (thK C (mkG C g) (R * C)),rs,cs,rfl,iw h.r1 h.r7 h.c1 h.c7,hr,hc,l1,l2,m7,qs,bz,rfl⟩) ae (aJ (aw (i:=0) rfl))) ae pg) ?_
 · exact congrArg some (pE _)
 · generalize mnQ (mkT R C (thK C (mkG C g) (R * C))) rs cs=q
   show Sl.d (.bl (!decide (q.num=0)))=_
   by_cases z:q=0
   · rw [z]; rfl
   · rw [decide_eq_false (show ¬q.num=0 from λy=>z (Rat.num_eq_zero.mp y)),decide_eq_true (show q ≠ 0 from z)]
     rfl
end
noncomputable def SP (m n:Nat) (A B:Nat->Nat->Rat):Prop:=∀ (k:Nat) (ρ γ:Nat->Nat),Inc k ρ->(∀ i,i < k->ρ i < m)->Inc k γ->(∀ i,i < k->γ i < n)->0<=mi A k ρ γ/\0<=mi B k ρ γ/\(mi A k ρ γ=0 ↔ mi B k ρ γ=0)
theorem yK {m n k:Nat} {A B:Nat->Nat->Rat} {ρ γ:Nat->Nat} (e:∀ i,i < m->∀ j,j < n->A i j=B i j) (h2:∀ i,i < k->ρ i < m) (h4:∀ i,i < k->γ i < n):mi A k ρ γ=mi B k ρ γ:=aD λi hi j hj=>e _ (h2 i hi) _ (h4 j hj)
theorem SP.congr {m n:Nat} {A B A' B':Nat->Nat->Rat} (h:SP m n A B) (e:∀ i,i < m->∀ j,j < n->A i j=A' i j) (e':∀ i,i < m->∀ j,j < n->B i j=B' i j):SP m n A' B':=λk ρ γ h1 h2 h3 h4=>by
 rw [<- yK e h2 h4,<- yK e' h2 h4]
 exact h k ρ γ h1 h2 h3 h4
theorem oS {k p:Nat} {M:Nat->Nat->Rat} (hp:p < k) (h:∀ c,c < k->M p c=0):det k M=0:=by
 rw [<- (fh k).B1 M hp]
 refine aD λi hi j hj=>?_
 unfold ar
 split
 · rename_i z; rw [z]; exact h j hj
 · rfl
theorem oE {k q:Nat} {M:Nat->Nat->Rat} (hq:q < k) (h:∀ r,r < k->M r q=0):det k M=0:=by
 rw [<- jW]
 exact oS hq h
noncomputable def cs (w:Rat) (h t:Nat) (A:Nat->Nat->Rat):Nat->Nat->Rat:=λi j=>if j=h then A i h + w * A i t else A i j
theorem BB {m n k h t:Nat} {γ:Nat->Nat} (ht:h < t) (tn:t < n) (h3:Inc k γ) (h4:∀ i,i < k->γ i < n) :
   (∀ (A:Nat->Nat->Rat) (w:Rat) (ρ:Nat->Nat),(∀ i,i < k->ρ i < m)->(∀ i,i < m->∀ c,h < c->c < t->A i c=0)->mi (cs w h t A) k ρ γ=mi A k ρ γ) \/
   ∃ γ':Nat->Nat,Inc k γ'/\(∀ i,i < k->γ' i < n)/\∀ (A:Nat->Nat->Rat) (w:Rat) (ρ:Nat->Nat),mi (cs w h t A) k ρ γ=mi A k ρ γ + w * mi A k ρ γ':=by
 by_cases ex:∃ c,c < k/\γ c=h
 · obtain ⟨c0,hc,ec⟩:=ex
   have e1:∀ (A:Nat->Nat->Rat) (w:Rat) (ρ:Nat->Nat),mi (cs w h t A) k ρ γ=mi A k ρ γ + w * mi A k ρ λc=>if c=c0 then t else γ c:=λA w ρ=>by
     have e1:mi (cs w h t A) k ρ γ=det k (cw (λr c=>A (ρ r) (γ c)) c0 λr=>1 * A (ρ r) h + w * A (ρ r) t):=aD λi hi j hj=>by
       show (if γ j=h then A (ρ i) h + w * A (ρ i) t else A (ρ i) (γ j))=if j=c0 then 1 * A (ρ i) h + w * A (ρ i) t else A (ρ i) (γ j)
       by_cases z:j=c0
       · rw [if_pos z,if_pos (by rw [z]; exact ec),Rat.one_mul]
       · rw [if_neg z,if_neg (by rw [<- ec]; exact h3.ne hj hc z)]
     rw [e1,jZ _ hc 1 w,Rat.one_mul]
     have e2:det k (cw (λr c=>A (ρ r) (γ c)) c0 λr=>A (ρ r) h)=mi A k ρ γ:=aD λi hi j hj=>by
       show (if j=c0 then A (ρ i) h else A (ρ i) (γ j))=A (ρ i) (γ j)
       split
       · rename_i z; rw [z,ec]
       · rfl
     have e3:det k (cw (λr c=>A (ρ r) (γ c)) c0 λr=>A (ρ r) t)=mi A k ρ λc=>if c=c0 then t else γ c:=aD λi hi j hj=>by
       show (if j=c0 then A (ρ i) t else A (ρ i) (γ j))=A (ρ i) (if j=c0 then t else γ j)
       by_cases z:j=c0
       · rw [if_pos z,if_pos z]
       · rw [if_neg z,if_neg z]
     rw [e2,e3]
   by_cases ey:∃ c,c < k/\h < γ c/\γ c<=t
   · obtain ⟨c1,hc1,l1,l2⟩:=ey
     have ne:c1 ≠ c0:=λz=>by rw [z,ec] at l1; omega
     refine .inl λA w ρ hρ hz=>?_
     rw [e1]
     have:mi A k ρ (λc=>if c=c0 then t else γ c)=0:=by
       by_cases z:γ c1=t
       · refine sN hc hc1 (Ne.symm ne) λr=>?_
         show A (ρ r) (if c0=c0 then t else γ c0)=A (ρ r) (if c1=c0 then t else γ c1)
         rw [if_pos rfl,if_neg ne,z]
       · refine oE hc1 λr hr=>?_
         show A (ρ r) (if c1=c0 then t else γ c1)=0
         rw [if_neg ne]
         exact hz _ (hρ r hr) _ l1 (by omega)
     rw [this,Rat.mul_zero,Rat.add_zero]
   · refine .inr ⟨λc=>if c=c0 then t else γ c,λi hi=>?_,λi hi=>?_,e1⟩
     · have:=h3 i hi
       have n2:¬(h < γ (i + 1)/\γ (i + 1)<=t):=λz=>ey ⟨i + 1,by omega,z.1,z.2⟩
       show (if i=c0 then t else γ i) < if i + 1=c0 then t else γ (i + 1)
       by_cases z:i=c0
       · rw [if_pos z,if_neg (by omega)]
         rw [z] at this n2 ⊢
         omega
       · by_cases z':i + 1=c0
         · rw [if_neg z,if_pos z']
           rw [z'] at this
           omega
         · rw [if_neg z,if_neg z']
           exact this
     · show (if i=c0 then t else γ i) < n
       split
       · exact tn
       · exact h4 i hi
 · refine .inl λA w ρ _ _=>aD λi hi j hj=>if_neg λz=>ex ⟨j,hj,z⟩
theorem Bv {a b x y:Rat} (ha:0<=a) (hb:0 < b) (hx:0<=x) (e:a + b * x=0):a=0/\x=0:=by
 have p:0<=b * x:=Rat.mul_nonneg (Rat.le_of_lt hb) hx
 have a0:a=0:=Rat.le_antisymm (by rw [<- e]; have:=(Rat.add_le_add_left (c:=a)).mpr p; rwa [Rat.add_zero] at this) ha
 refine ⟨a0,?_⟩
 rw [a0,Rat.zero_add] at e
 rcases Rat.mul_eq_zero.mp e with z | z
 · rw [z] at hb; exact absurd hb (Rat.lt_irrefl)
 · exact z
theorem SP.col {m n h t:Nat} {A B:Nat->Nat->Rat} {w v:Rat} (H:SP m n A B) (hw:0 < w) (hv:0 < v) (ht:h < t) (tn:t < n) (zA:∀ i,i < m->∀ c,h < c->c < t->A i c=0) (zB:∀ i,i < m->∀ c,h < c->c < t->B i c=0):SP m n (cs w h t A) (cs v h t B):=λk ρ γ h1 h2 h3 h4=>by
 rcases BB (m:=m) ht tn h3 h4 with e | ⟨γ',g1,g2,e⟩
 · rw [e A w ρ h2 zA,e B v ρ h2 zB]
   exact H k ρ γ h1 h2 h3 h4
 · rw [e A w ρ,e B v ρ]
   obtain ⟨a1,b1,i1⟩:=H k ρ γ h1 h2 h3 h4
   obtain ⟨a2,b2,i2⟩:=H k ρ γ' h1 h2 g1 g2
   refine ⟨Rat.add_nonneg a1 (Rat.mul_nonneg (Rat.le_of_lt hw) a2),Rat.add_nonneg b1 (Rat.mul_nonneg (Rat.le_of_lt hv) b2),λz=>?_,λz=>?_⟩
   · obtain ⟨x,y⟩:=Bv (y:=0) a1 hw a2 z
     rw [i1.mp x,i2.mp y,Rat.mul_zero,Rat.add_zero]
   · obtain ⟨x,y⟩:=Bv (y:=0) b1 hv b2 z
     rw [i1.mpr x,i2.mpr y,Rat.mul_zero,Rat.add_zero]
noncomputable def er (m b:Nat) (x:Rat) (A:Nat->Nat->Rat):Nat->Nat->Rat:=λi j=>if i=m then (if j=b then x else 0) else A i j
theorem B0 {m n k b:Nat} {ρ γ:Nat->Nat} (h1:Inc (k + 1) ρ) (hρ:∀ i,i < k + 1->ρ i < m + 1) (em:ρ k=m) (h3:Inc (k + 1) γ) (h4:∀ i,i < k + 1->γ i < n) :
   (∀ (A:Nat->Nat->Rat) (x:Rat),(∀ i,i < m->∀ c,b < c->c < n->A i c=0)->mi (er m b x A) (k + 1) ρ γ=0) \/
   ∀ (A:Nat->Nat->Rat) (x:Rat),mi (er m b x A) (k + 1) ρ γ=mi A k ρ γ * x:=by
 have lt:∀ i,i < k->ρ i < m:=λi hi=>by have:=h1.mono hi (show k < k + 1 by omega); omega
 by_cases z:γ k=b
 · refine .inr λA x=>?_
   have hb:=dU 1 k (λr c=>er m b x A (ρ r) (γ c)) λi hi hi2 j hj=>by
     have:i=k:=by omega
     subst this
     show er m b x A (ρ i) (γ j)=0
     unfold er
     have:=h3.mono hj (show i < i + 1 by omega)
     rw [if_pos em,if_neg (by omega)]
   refine Eq.trans (b:=det (k + 1) λr c=>er m b x A (ρ r) (γ c)) rfl (hb.trans ?_)
   rw [gU]
   show _ * er m b x A (ρ k) (γ k)=_
   have e1:er m b x A (ρ k) (γ k)=x:=by unfold er; rw [if_pos em,if_pos z]
   have e2:det k (λr c=>er m b x A (ρ r) (γ c))=mi A k ρ γ:=aD λi hi j _=>by
     show er m b x A (ρ i) (γ j)=A (ρ i) (γ j)
     unfold er
     rw [if_neg (by have:=lt i hi; omega)]
   rw [e1,e2]
 · refine .inl λA x hz=>?_
   rcases Nat.lt_or_ge b (γ k) with y | y
   · refine oE (q:=k) (by omega) λr hr=>?_
     show er m b x A (ρ r) (γ k)=0
     unfold er
     by_cases q:ρ r=m
     · rw [if_pos q,if_neg (by omega)]
     · rw [if_neg q]
       exact hz _ (by have:=hρ r hr; omega) _ y (h4 k (by omega))
   · refine oS (p:=k) (by omega) λc hc=>?_
     show er m b x A (ρ k) (γ c)=0
     unfold er
     have:γ c<=γ k:=by
       rcases Nat.lt_or_ge c k with u | u
       · have:=h3.mono u (show k < k + 1 by omega); omega
       · rw [show c=k by omega]; exact Nat.le_refl _
     rw [if_pos em,if_neg (by omega)]
theorem SP.row {m n b:Nat} {A B:Nat->Nat->Rat} {x y:Rat} (H:SP m n A B) (hx:0<=x) (hy:0<=y) (xy:x=0 ↔ y=0) (zA:∀ i,i < m->∀ c,b < c->c < n->A i c=0) (zB:∀ i,i < m->∀ c,b < c->c < n->B i c=0):SP (m + 1) n (er m b x A) (er m b y B):=λk ρ γ h1 h2 h3 h4=>by
 by_cases q:∀ i,i < k->ρ i < m
 · have e:∀ (A:Nat->Nat->Rat) (x:Rat),mi (er m b x A) k ρ γ=mi A k ρ γ:=λA x=>aD λi hi j _=>by
     show (if ρ i=m then _ else A (ρ i) (γ j))=_
     rw [if_neg (by have:=q i hi; omega)]
   rw [e,e]
   exact H k ρ γ h1 q h3 h4
 · cases k with
   | zero=>exact absurd (λi hi=>absurd hi (Nat.not_lt_zero i)) q
   | succ k=>
     have em:ρ k=m:=by
       have hk:=h2 k (by omega)
       rcases Nat.lt_or_ge (ρ k) m with u | u
       · refine absurd (λi hi=>?_) q
         rcases Nat.lt_or_ge i k with v | v
         · have:=h1.mono v (show k < k + 1 by omega); omega
         · rw [show i=k by omega]; exact u
       · omega
     rcases B0 (n:=n) (b:=b) h1 h2 em h3 h4 with e | e
     · rw [e A x zA,e B y zB]
       exact ⟨Rat.le_refl,Rat.le_refl,Iff.rfl⟩
     · rw [e A x,e B y]
       obtain ⟨a1,b1,i1⟩:=H k ρ γ (h1.le (by omega)) (λi hi=>by have:=h1.mono hi (show k < k + 1 by omega); omega) (h3.le (by omega)) λi hi=>h4 i (by omega)
       refine ⟨Rat.mul_nonneg a1 hx,Rat.mul_nonneg b1 hy,?_⟩
       rw [Rat.mul_eq_zero,Rat.mul_eq_zero,i1,xy]
noncomputable def suB (d h:Nat->Rat) (a:Nat):Nat->Rat:=aE λc=>if a < c/\d c ≠ 0 then h c / d c else 0
theorem vb {C j:Nat} {G:Nat->Nat->Rat}:∀ b,b<=C->∀ i a,thK C G (j * C + b) i a=if i < j then thK C G (j * C) i a + G j a * suB (G j) (thK C G (j * C) i) a b else G i a
 | 0,_,i,a=>by
   by_cases h:i < j
   · rw [if_pos h]
     show _=_ + _ * (0:Rat)
     rw [Rat.mul_zero,Rat.add_zero]
     rfl
   · rw [if_neg h]
     rcases Nat.eq_zero_or_pos C with z | z
     · subst z
       rw [Nat.mul_zero]
       rfl
     · rw [mQ _ _ (by rw [Nat.add_zero,Nat.mul_div_cancel _ z]; omega)]
 | b + 1,hb,i,a=>by
   have ih:=vb (C:=C) (G:=G) (j:=j) b (by omega)
   have e1:(j * C + b) / C=j:=by rw [Nat.mul_comm,Nat.mul_add_div (by omega),Nat.div_eq_of_lt (by omega),Nat.add_zero]
   have e2:(j * C + b) % C=b:=by rw [Nat.mul_comm,Nat.mul_add_mod,Nat.mod_eq_of_lt (by omega)]
   show thS ((j * C + b) / C) ((j * C + b) % C) (thK C G (j * C + b)) i a=_
   rw [e1,e2]
   generalize thK C G (j * C + b)=V at ih ⊢
   have vj:∀ a,V j a=G j a:=λa=>by rw [ih,if_neg (by omega)]
   unfold thS thW
   by_cases h:i < j
   · rw [vj,vj,ih i a,ih i b,if_pos h,if_pos h,if_pos h]
     have z:suB (G j) (thK C G (j * C) i) b b=0:=cA λc hc=>if_neg λz=>by have:=z.1; omega
     have st:suB (G j) (thK C G (j * C) i) a (b + 1)=suB (G j) (thK C G (j * C) i) a b + if a < b/\G j b ≠ 0 then thK C G (j * C) i b / G j b else 0:=rfl
     rw [z,st]
     by_cases q:a < b/\G j b ≠ 0
     · rw [if_pos ⟨h,q⟩,if_pos q]
       simp only [Rat.div_def]
       grind
     · rw [if_neg λz=>q z.2,if_neg q,Rat.add_zero]
   · rw [if_neg λz=>h z.1,ih,if_neg h,if_neg h]
noncomputable def bB (j C:Nat) (d:Nat->Rat) (H:Nat->Nat->Rat) (b:Nat):Nat->Nat->Rat:=λi a=>if i=j then (if b<=a then d a else 0) else if b<=a then H i a + d a * suB d (H i) a C else H i a
theorem least {p:Nat->Prop}:∀ n,p n->∃ m,m<=n/\p m/\∀ l,l < m->¬p l:=λn=>by
 induction n using Nat.strongRecOn with
 | ind n ih=>
   intro h
   by_cases e:∃ l,l < n/\p l
   · obtain ⟨l,h1,h2⟩:=e
     obtain ⟨m,g1,g2⟩:=ih l h1 h2
     exact ⟨m,by omega,g2⟩
   · exact ⟨n,Nat.le_refl _,h,λl hl hp=>e ⟨l,hl,hp⟩⟩
theorem wb {d h:Nat->Rat} {a n C:Nat} (an:a < n) (nC:n < C) (hn:d n ≠ 0) (hz:∀ c,a < c->c < n->d c=0):suB d h a C=h n / d n + suB d h n C:=by
 unfold suB
 rw [<- cT (λ_=>h n / d n) n C nC,<- fg]
 refine aC λc hc=>?_
 unfold dq
 rcases Nat.lt_or_ge c n with z | z
 · rw [if_neg (by rintro ⟨y,q⟩; exact q (hz c y z)),if_neg (by omega),if_neg (by omega),Rat.mul_zero,Rat.add_zero]
 · by_cases e:c=n
   · rw [e,if_pos ⟨an,hn⟩,if_pos rfl,if_neg (by omega),Rat.mul_one,Rat.add_zero]
   · rw [if_neg e,Rat.mul_zero,Rat.zero_add]
     by_cases q:d c ≠ 0
     · rw [if_pos ⟨by omega,q⟩,if_pos ⟨by omega,q⟩]
     · rw [if_neg λz=>q z.2,if_neg λz=>q z.2]
noncomputable def Zc (j C:Nat) (d:Nat->Rat) (H:Nat->Nat->Rat):Prop:=∀ b c,b < c->c < C->d b ≠ 0->d c=0->∀ i,i < j->H i c=0
theorem vN {j C b:Nat} {d:Nat->Rat} {H:Nat->Nat->Rat} (no:∀ n,b < n->n < C->d n=0):∀ i a,a < C->er j b (d b) H i a=bB j C d H b i a:=λi a ha=>by
 unfold er bB
 by_cases y:i=j
 · rw [if_pos y,if_pos y]
   by_cases z:a=b
   · rw [if_pos z,z,if_pos (Nat.le_refl _)]
   · rw [if_neg z]
     by_cases u:b<=a
     · rw [if_pos u,no a (by omega) ha]
     · rw [if_neg u]
 · rw [if_neg y,if_neg y]
   by_cases u:b<=a
   · rw [if_pos u]
     have:suB d (H i) a C=0:=cA λc hc=>if_neg (by rintro ⟨z,w⟩; exact w (no c (by omega) hc))
     rw [this,Rat.mul_zero,Rat.add_zero]
   · rw [if_neg u]
theorem yQ {j C b:Nat} {d:Nat->Rat} {H:Nat->Nat->Rat} (h:d b=0):bB j C d H (b + 1)=bB j C d H b:=by
 funext i a
 unfold bB
 by_cases z:a=b
 · have n1:¬b + 1<=b:=by omega
   rw [z,if_neg n1,if_neg n1,if_pos (Nat.le_refl b),if_pos (Nat.le_refl b),h,Rat.zero_mul,Rat.add_zero]
 · by_cases u:b<=a
   · have n1:b + 1<=a:=by omega
     rw [if_pos u,if_pos u,if_pos n1,if_pos n1]
   · have n1:¬b + 1<=a:=by omega
     rw [if_neg u,if_neg u,if_neg n1,if_neg n1]
theorem yC {j C b n:Nat} {d:Nat->Rat} {H:Nat->Nat->Rat} (bn:b < n) (nC:n < C) (hn:d n ≠ 0) (hz:∀ c,b < c->c < n->d c=0):cs (d b / d n) b n (bB j C d H (b + 1))=bB j C d H b:=by
 funext i a
 unfold cs
 by_cases z:a=b
 · subst z
   rw [if_pos rfl]
   unfold bB
   have n1:¬a + 1<=a:=by omega
   have n2:a + 1<=n:=by omega
   rw [if_neg n1,if_neg n1,if_pos n2,if_pos n2,if_pos (Nat.le_refl a),if_pos (Nat.le_refl a)]
   by_cases y:i=j
   · rw [if_pos y,if_pos y,if_pos y,Rat.zero_add,Rat.div_def,Rat.mul_assoc,Rat.inv_mul_cancel _ hn,Rat.mul_one]
   · rw [if_neg y,if_neg y,if_neg y,wb bn nC hn hz,Rat.div_def,Rat.div_def]
     have:=Rat.inv_mul_cancel _ hn
     grind
 · rw [if_neg z]
   unfold bB
   by_cases u:b<=a
   · have n1:b + 1<=a:=by omega
     rw [if_pos u,if_pos u,if_pos n1,if_pos n1]
   · have n1:¬b + 1<=a:=by omega
     rw [if_neg u,if_neg u,if_neg n1,if_neg n1]
theorem yr {j C b n:Nat} {d:Nat->Rat} {H:Nat->Nat->Rat} (Z:Zc j C d H) (nC:n < C) (hb:d b ≠ 0) (hz:∀ c,b < c->c < n->d c=0):∀ i,i < j + 1->∀ c,b < c->c < n->bB j C d H (b + 1) i c=0:=λi hi c h1 h2=>by
 unfold bB
 by_cases y:i=j
 · rw [if_pos y,if_pos (by omega),hz c h1 h2]
 · rw [if_neg y,if_pos (by omega),hz c h1 h2,Rat.zero_mul,Rat.add_zero]
   exact Z b c h1 (by omega) hb (hz c h1 h2) i (by omega)
theorem t9 {a b:Rat} (ha:0 < a) (hb:0 < b):0 < a / b:=by
 rw [Rat.div_def]
 exact Rat.mul_pos ha (Rat.inv_pos.mpr hb)
theorem wW {a:Rat} (h:0<=a) (n:a ≠ 0):0 < a:=by
 rcases Rat.le_iff_lt_or_eq.mp h with z | z
 · exact z
 · exact absurd z.symm n
theorem SP.yx {j C:Nat} {d d':Nat->Rat} {H H':Nat->Nat->Rat} (S:SP j C H H') (p:∀ a,a < C->0<=d a/\0<=d' a/\(d a=0 ↔ d' a=0)) (Z:Zc j C d H) (Z':Zc j C d' H'):∀ t b,b + t=C->SP (j + 1) C (bB j C d H b) (bB j C d' H' b)
 | 0,b,e=>by
   have hb:b=C:=e
   subst hb
   have h:=S.row (b:=b) (x:=0) (y:=0) Rat.le_refl Rat.le_refl Iff.rfl (λi _ c h1 h2=>by omega) (λi _ c h1 h2=>by omega)
   have:∀ (d:Nat->Rat) (H:Nat->Nat->Rat) (i:Nat),i < j + 1->∀ a,a < b->er j b 0 H i a=bB j b d H b i a:=λd H i _ a ha=>by
     unfold er bB
     have n1:¬b<=a:=by omega
     rw [if_neg n1,if_neg n1,if_neg (show ¬a=b by omega)]
   exact h.congr (this d H) (this d' H')
 | t + 1,b,e=>by
   have ih:=S.yx p Z Z' t (b + 1) (by omega)
   obtain ⟨p0,p1,p2⟩:=p b (by omega)
   by_cases h:d b=0
   · rw [yQ h,yQ (p2.mp h)] at ih
     exact ih
   · have h':d' b ≠ 0:=λz=>h (p2.mpr z)
     by_cases ex:∃ n,b < n/\n < C/\d n ≠ 0
     · obtain ⟨n0,q⟩:=ex
       obtain ⟨n,_,⟨bn,nC,hn⟩,mn⟩:=least (p:=λn=>b < n/\n < C/\d n ≠ 0) n0 q
       have hz:∀ c,b < c->c < n->d c=0:=λc h1 h2=>Decidable.byContradiction λz=>mn c h2 ⟨h1,by omega,z⟩
       have hz':∀ c,b < c->c < n->d' c=0:=λc h1 h2=>(p c (by omega)).2.2.mp (hz c h1 h2)
       obtain ⟨n0,n1,n2⟩:=p n nC
       have hn':d' n ≠ 0:=λz=>hn (n2.mpr z)
       have:=ih.col (t9 (wW p0 h) (wW n0 hn)) (t9 (wW p1 h') (wW n1 hn')) bn nC (yr Z nC h hz) (yr Z' nC h' hz')
       rw [yC bn nC hn hz,yC bn nC hn' hz'] at this
       exact this
     · have no:∀ n,b < n->n < C->d n=0:=λn h1 h2=>Decidable.byContradiction λz=>ex ⟨n,h1,h2,z⟩
       have no':∀ n,b < n->n < C->d' n=0:=λn h1 h2=>(p n h2).2.2.mp (no n h1 h2)
       exact (S.row (b:=b) p0 p1 p2 (λi hi c h1 h2=>Z b c h1 h2 h (no c h1 h2) i hi) (λi hi c h1 h2=>Z' b c h1 h2 h' (no' c h1 h2) i hi)).congr (λi _=>vN no i) λi _=>vN no' i
theorem rM {C c:Nat} {G:Nat->Nat->Rat} {j:Nat} (h:∀ i,i < j->G i c=0):∀ k,k<=j * C->∀ i,i < j->thK C G k i c=0
 | 0,_,i,hi=>h i hi
 | k + 1,hk,i,hi=>by
   have ih:=rM (C:=C) h k (by omega)
   show thS (k / C) (k % C) (thK C G k) i c=0
   unfold thS thW
   have hj:k / C < j:=Nat.div_lt_of_lt_mul (by rw [Nat.mul_comm]; omega)
   split
   · rw [ih i hi,ih _ hj,Rat.mul_zero,Rat.zero_add,Rat.div_def,Rat.zero_mul]
   · exact ih i hi
structure StG (R C:Nat) (G G':Nat->Nat->Rat):Prop where
 p:∀ i,i < R->∀ a,a < C->0<=G i a/\0<=G' i a/\(G i a=0 ↔ G' i a=0)
 z:∀ j,j < R->Zc j C (G j) G
theorem StG.sp {R C:Nat} {G G':Nat->Nat->Rat} (h:StG R C G G'):∀ j,j<=R->SP j C (thK C G (j * C)) (thK C G' (j * C))
 | 0,_=>λk ρ γ _ h2 _ _=>by
   cases k with
   | zero=>exact ⟨by show (0:Rat)<=1; decide,by show (0:Rat)<=1; decide,Iff.rfl⟩
   | succ k=>exact absurd (h2 0 (by omega)) (Nat.not_lt_zero _)
 | j + 1,hj=>by
   have ih:=h.sp j (by omega)
   have z1:=h.z j (by omega)
   have z2:Zc j C (G' j) G':=λb c h1 h2 h3 h4 i hi=>(h.p i (by omega) c h2).2.2.mp (z1 b c h1 h2 (λz=>h3 ((h.p j (by omega) b (by omega)).2.2.mp z)) ((h.p j (by omega) c h2).2.2.mpr h4) i hi)
   have t:∀ {G:Nat->Nat->Rat},Zc j C (G j) G->Zc j C (G j) (thK C G (j * C)):=λz b c h1 h2 h3 h4 i hi=>rM (λi hi=>z b c h1 h2 h3 h4 i hi) _ (Nat.le_refl _) i hi
   have e:∀ (G:Nat->Nat->Rat) (i:Nat),i < j + 1->∀ a,a < C->bB j C (G j) (thK C G (j * C)) 0 i a=thK C G ((j + 1) * C) i a:=λG i hi a _=>by
     rw [Nat.add_mul,Nat.one_mul,vb C (Nat.le_refl _)]
     unfold bB
     by_cases y:i=j
     · rw [if_pos y,if_pos (Nat.zero_le _),if_neg (by omega),y]
     · rw [if_neg y,if_pos (Nat.zero_le _),if_pos (by omega)]
   exact (ih.yx (h.p j (by omega)) (t z1) (t z2) C 0 (by omega)).congr (e G) (e G')
section
variable {P:Program} {w:World} {K:PySem.W.Frag} {mg:Str->Option Value} {base:Heap} {k:Nat} {f:Addr} {fd:FuncData} {qual:Str}
end
noncomputable def fZ (ds:List D) (r:Sl):Prop:=∃ (R C d m:Nat) (G:Nat->Nat->Rat),ds=[tbQ (mkT R C G),.lst ((List.range (R * C)).map (plD C)),.int 1]/\1<=R/\R<=7/\1<=C/\C<=7/\(∀ k,k<=R * C->∀ i < R,Cq C d m (thK C G k i))/\m + (d + 1)<=900/\r=.n (cS (mkT R C (thK C G (R * C))))
noncomputable def acS (R C:Nat) (G H:Nat->Nat->Rat) (s4 s5 s6 s7 s8:Sl):List Sl:=[.d (tbQ (mkT R C G)),.d (.lst ((List.range (R * C)).map (plD C))),.d (.int 1),.n (cS (mkT R C H)),s4,s5,s6,s7,s8]
noncomputable def gw (ds:List D) (r:Sl):Prop:=∃ (R C:Nat) (M:List (List Rat)),ds=[tbQ M]/\Tq R C M/\r=.o ((List.range (R * C)).map (plD C))
noncomputable def ig (ds:List D) (r:Sl):Prop:=∃ (R C d m:Nat) (G:Nat->Nat->Rat),ds=[tbQ (mkT R C G)]/\1<=R/\R<=7/\1<=C/\C<=7/\(∀ k,k<=R * C->∀ i < R,Cq C d m (thK C G k i))/\m + (d + 1)<=900/\r=.n (cS (mkT R C (thK C G (R * C))))
section
variable {P:Program} {w:World} {K:PySem.W.Frag} {mg:Str->Option Value} {base:Heap} {k:Nat} {f:Addr} {fd:FuncData} {qual:Str}
set_option maxHeartbeats 4000000 in
theorem n9 (F:Fun K "_law_across" qual (top 63) f fd) (hb:∀ x ∈ ah,mg x=none) (c_l_part:Cal P w K mg base k "_law_part" jy) (c_l_plus:Cal P w K mg base k "_law_plus" jD):aN P w K mg base CX0 (k + 1) f fd ["_law_table","_law_places_here","_law_sign"] (spD K fZ):=by
 refine fnD F iL hb (by rintro _ _ ⟨_,_,_,_,_,rfl,_⟩; rfl) ?_
 rintro _ _ ⟨R,C,d,m,G,rfl,r1,r7,c1,c7,cq,hz,rfl⟩ cdv A outer s H E b
 have nd:=iL.nd
 have rc:R * C<=49:=Nat.mul_le_mul r7 c7
 refine rN 3 nd (ns:=(List.range ((mkT R C G).map rwQ).length).map λi=>.l ((((mkT R C G).getD i []).map frD).map .d)) (A7 0 (g:=λi=>rwQ ((mkT R C G).getD i [])) (f:=λi=>.l ((((mkT R C G).getD i []).map frD).map .d)) b (aR (aa 0)) (cF (f:=rwQ) (xs:=mkT R C G) []) (by rw [List.length_map,en]; omega) (λi hi s0 H0 fp=>nK (b.comp s0 H0 _ fp) (ab (aa 0) af) iF) λi hi=>rfl) ?_
 rw [show (List.range ((mkT R C G).map rwQ).length).map (λi=>Nd.l ((((mkT R C G).getD i []).map frD).map .d))=(mkT R C G).map (λr=>Nd.l ((r.map frD).map .d)) from oH (λr:List Rat=>Nd.l ((r.map frD).map .d)) (mkT R C G) [] (List.length_map ..)]
 have lnP:((List.range (R * C)).map (plD C)).length=R * C:=by rw [List.length_map,List.length_range]
 refine pF 4 5 (g:=λk=>.int ((k / C:Nat):Int)) (g':=λk=>.int ((k % C:Nat):Int)) (λk τ=>∃ s4 s5 s6 s7 s8,τ=acS R C G (thK C G k) s4 s5 s6 s7 s8) b nd (aR (aa 1)) (λi h=>by rw [List.getElem_map,List.getElem_range]; rfl) ⟨_,_,_,_,_,rfl⟩ (λkk hk τ h=>?_) λτ h=>?_
 · obtain ⟨s4,s5,s6,s7,s8,rfl⟩:=h
   rw [lnP] at hk
   have cqk:=cq kk (by omega)
   show PSs _ _ (dS K (acS R C G (thK C G kk) (.d (.int ((kk / C:Nat):Int))) (.d (.int ((kk % C:Nat):Int))) s6 s7 s8) _)
   have eK:thK C G (kk + 1)=thS (kk / C) (kk % C) (thK C G kk):=rfl
   rw [eK]
   have hj:kk / C < R:=Nat.div_lt_of_lt_mul (by rw [Nat.mul_comm]; omega)
   have hc:kk % C < C:=Nat.mod_lt _ c1
   generalize thK C G kk=V at cqk ⊢
   generalize kk / C=j at hj ⊢
   generalize kk % C=c at hc ⊢
   have sz:∀ i,i < R->∀ a,a < C->Sq 900 (V i a):=λi hi a ha=>((cqk i hi).qs ha).sq.mono hz
   refine jK (M:=λτ=>∃ s6 s7 s8,τ=acS R C G (thS j c V) (.d (.int (j:Nat))) (.d (.int (c:Nat))) s6 s7 s8) (bf (aG (kE (bM (bM (ck 3) (aa 4) rfl rfl (cJ hj)) (aa 5) rfl (bS hj) (dF hj hc)) rfl (bQ hj hc rfl)) ae (aJ (aw (i:=0) rfl))) ae pg) (λh=>?_) (λh=>?_) λτ h=>?_
   · have h0:V j c ≠ 0:=λz=>by
       rw [z] at h
       exact absurd h (by decide)
     refine bE 6 (λi τ=>∃ s6 s7 s8,τ=acS R C G (thP j c i 0 V) (.d (.int (j:Nat))) (.d (.int (c:Nat))) s6 s7 s8) b nd (cH b (aa 4) (by omega) (by omega)) cE ⟨s6,s7,s8,by rw [Cd]⟩ (λi hi τ h=>?_) λτ h=>?_
     · obtain ⟨t6,t7,t8,rfl⟩:=h
       have hi:i < j:=by rw [av] at hi; omega
       have hiR:i < R:=by omega
       refine bE 7 (λa τ=>a<=c/\∃ s7 s8,τ=acS R C G (thP j c i a V) (.d (.int (j:Nat))) (.d (.int (c:Nat))) (.d (.int (i:Nat))) s7 s8) b nd (cH b (aa 5) (by omega) (by omega)) cE ⟨by omega,t7,t8,rfl⟩ (λa ha τ h=>?_) λτ h=>?_
       · obtain ⟨_,u7,u8,rfl⟩:=h
         have ha:a < c:=by rw [av] at ha; omega
         have haC:a < C:=by omega
         refine az 8 nd (x_call b c_l_part (ab (kE (bM (bM (ck 3) (aa 6) rfl rfl (cJ hiR)) (aa 5) rfl (bS hiR) (dF hiR hc)) rfl (bQ hiR hc (Ad ha))) (ab (kE (bM (bM (ck 3) (aa 4) rfl rfl (cJ hj)) (aa 7) rfl (bS hj) (dF hj haC)) rfl (bQ hj haC (yv hi))) (ab (kE (bM (bM (ck 3) (aa 4) rfl rfl (cJ hj)) (aa 5) rfl (bS hj) (dF hj hc)) rfl (bQ hj hc (yv hi))) af))) ⟨V i c,V j a,V j c,rfl,h0,(sz i hiR c hc).mono (by decide),(sz j hj a haC).mono (by decide),(sz j hj c hc).mono (by decide),rfl⟩) ?_
         have sp:=Sq.part h0 (sz i hiR c hc) (sz j hj a haC) (sz j hj c hc)
         refine AZ (pt:=[]++[i]) (t:=cS (mkT R C (thP j c i a V))) (ds:=((mkT R C (thP j c i a V)).getD i []).map frD) (j:=a) (x:=frD (thW j c V i a)) (bM (ck 3) (aa 6) rfl rfl (cJ hiR)) (aa 7) (x_call b c_l_plus (ab (kE (bM (bM (ck 3) (aa 6) rfl rfl (cJ hiR)) (aa 7) rfl (bS hiR) (dF hiR haC)) rfl (bQ hiR haC A3)) (ab (cC (ab (aB (aa 2) (aG (aa 8) ae (aJ (aw (i:=0) rfl))) (aW (mkL (by decide)))) (ab (aG (aa 8) ae (aJ (aw (i:=1) rfl))) af))) af)) ⟨900,2700,V i a,V i c * V j a / V j c,by rw [Int.one_mul]; rfl,sz i hiR a haC,sp,by decide,rfl⟩) rfl (bS hiR) (rP hiR haC) (aM ?_)
         refine ⟨by omega,.d (.int (a:Nat)),.d (frD (V i c * V j a / V j c)),?_⟩
         show (acS R C G _ _ _ _ _ _).set 3 (Sl.n (cK [i] (cS (mkT R C (thP j c i a V))) _))=_
         rw [qw,xM hiR]
         rfl
       · obtain ⟨_,u7,u8,rfl⟩:=h
         rw [av,Int.toNat_natCast,w5]
         exact aM ⟨_,_,_,rfl⟩
     · obtain ⟨t6,t7,t8,rfl⟩:=h
       rw [av,Int.toNat_natCast,wg h0]
       exact aM ⟨_,_,_,rfl⟩
   · have h0:V j c=0:=by
       have:(V j c).num=0:=by simpa using h
       exact Rat.num_eq_zero.mp this
     rw [AE h0]
     exact aM ⟨_,_,_,rfl⟩
   · obtain ⟨_,_,_,rfl⟩:=h
     exact aM ⟨_,_,_,_,_,rfl⟩
 · obtain ⟨s4,s5,s6,s7,s8,rfl⟩:=h
   rw [lnP]
   exact iI 3 rfl
theorem pj (F:Fun K "_law_places" qual (top 64) f fd) (hb:∀ x ∈ ah,mg x=none):aN P w K mg base CX0 (k + 1) f fd ["_law_table"] (spD K gw):=by
 refine fnD F iR hb (by rintro _ _ ⟨_,_,_,rfl,_⟩; rfl) ?_
 rintro _ _ ⟨R,C,M,rfl,t,rfl⟩ cdv A outer s H E b
 have nd:=iR.nd
 have r1:=t.r1
 have c1:=t.c1
 have r7:=t.r7
 have c7:=t.c7
 have rc:R * C<=49:=Nat.mul_le_mul r7 c7
 have e0:atI (M.map rwQ) 0=some (rwQ (M.getD 0 [])):=du [] (i:=0) (by rw [t.len]; omega)
 have eRC:(R:Int) * (C:Int)=((R * C:Nat):Int):=by rw [Int.natCast_mul]
 refine az 1 nd (a4 b (ab (aG (aa 0) ae (aU e0)) af) (cD (n:=C) (by rw [List.length_map]; exact t.at_ (by omega)))) ?_
 refine aK (bZ (cmp 0 (f:=plD C) b (cH (n:=((R * C:Nat):Int)) b (by rw [<- eRC]; exact aB (a4 b (ab (aa 0) af) (cD (n:=R) (by rw [List.length_map]; exact t.len))) (aa 1) (aW (mkR (by omega)))) (by omega) (by omega)) cE (by rw [av]; omega) λi hi s0 H0 fp=>?_)) ?_
 · have e1:((i:Nat):Int).fdiv (C:Int)=((i / C:Nat):Int):=by rw [Int.fdiv_eq_ediv_of_nonneg _ (by omega)]; rfl
   have e2:((i:Nat):Int).fmod (C:Int)=((i % C:Nat):Int):=by rw [Int.fmod_eq_emod_of_nonneg _ (by omega)]; rfl
   unfold plD
   rw [<- e1,<- e2]
   exact cC (ab (aB (aa 0) (aa 1) (a5 (mkD (by omega) (by omega)))) (ab (aB (aa 0) (aa 1) (eF (by omega))) af))
 · rw [av,Int.toNat_natCast]
theorem pQ (F:Fun K "_law_thick" qual (top 65) f fd) (hb:∀ x ∈ ah,mg x=none) (c_l_across:Cal P w K mg base k "_law_across" fZ) (c_l_places:Cal P w K mg base k "_law_places" gw):aN P w K mg base CX0 (k + 1) f fd ["_law_table"] (spD K ig):=by
 refine fnD F pY hb (by rintro _ _ ⟨_,_,_,_,_,rfl,_⟩; rfl) ?_
 rintro _ _ ⟨R,C,d,m,G,rfl,r1,r7,c1,c7,cq,hz,rfl⟩ cdv A outer s H E b
 exact aK (x_call b c_l_across (ab (aa 0) (ab (aS (x_call b c_l_places (ab (aa 0) af) ⟨R,C,mkT R C G,rfl,iw r1 r7 c1 c7,rfl⟩)) (ab ae af))) ⟨R,C,d,m,G,rfl,r1,r7,c1,c7,cq,hz,rfl⟩) rfl
end
theorem fmn {a b:Int} (h:0 < b):0<=a.fmod b/\a.fmod b < b:=⟨Int.fmod_nonneg_of_pos a h,Int.fmod_lt_of_pos a h⟩
theorem zi (i:Int):frD (i:Rat)=.tup [.int i,.int 1]:=by
 unfold frD
 rw [Rat.num_intCast,Rat.den_intCast]
 rfl
noncomputable def soQ (p:Int):Rat:=((1 + p.fmod 9:Int):Rat) / ((1 + p.fdiv 9:Int):Rat)
noncomputable def soT (p:Int):Rat:=((1 + p.fmod 3:Int):Rat)
noncomputable def soP (c:Int) (n:Nat):List Int:=nums c (List.replicate n 54)
noncomputable def soE (big:Bool) (p:Int):Rat:=if big then soT p else soQ p
theorem mw {c:Int} {n i:Nat}:0<=(soP c n).getD i 0/\(soP c n).getD i 0 < 54:=by
 by_cases h:i < n
 · have:=i8 (c:=c) (bs:=List.replicate n 54) (λb hb=>by rw [(List.mem_replicate.mp hb).2]; decide) (i:=i) (by rw [List.length_replicate]; exact h)
   rw [show (List.replicate n (54:Int)).getD i 0=54 by simp [h]] at this
   exact this
 · have:(soP c n).length=n:=by unfold soP; rw [fB,List.length_replicate]
   rw [show (soP c n).getD i 0=0 by rw [List.getD_eq_getElem?_getD,List.getElem?_eq_none (by omega)]; rfl]
   decide
theorem qL {p:Int} (h:0<=p):((1 + p.fmod 9:Int):Rat)=soQ p * ((1 + p.fdiv 9:Int):Rat):=by
 unfold soQ
 rw [Rat.div_mul_cancel]
 exact vW (by rw [Int.fdiv_eq_ediv_of_nonneg _ (by decide)]; omega)
theorem zv {p:Int} (h:0<=p) (h2:p < 54):∃ z:Int,(z:Rat)=soQ p * ((60:Int):Rat)/\z.natAbs<=2 ^ 10:=by
 have e:=qL h
 have f9:0<=p.fmod 9/\p.fmod 9 < 9:=fmn (by decide)
 have hb:0<=p.fdiv 9/\p.fdiv 9 < 6:=by rw [Int.fdiv_eq_ediv_of_nonneg _ (by decide)]; omega
 generalize soQ p=q at e ⊢
 generalize p.fmod 9=t at e f9
 obtain ⟨y,hy,y60⟩:∃ y:Int,(1 + p.fdiv 9) * y=60/\0<=y/\y<=60:=by
   rcases (by omega:p.fdiv 9=0\/p.fdiv 9=1\/p.fdiv 9=2\/p.fdiv 9=3\/p.fdiv 9=4\/p.fdiv 9=5) with z | z | z | z | z | z <;> rw [z]
   · exact ⟨60,by decide⟩
   · exact ⟨30,by decide⟩
   · exact ⟨20,by decide⟩
   · exact ⟨15,by decide⟩
   · exact ⟨12,by decide⟩
   · exact ⟨10,by decide⟩
 refine ⟨(1 + t) * y,?_,?_⟩
 · rw [<- hy,Rat.intCast_mul,Rat.intCast_mul,e,Rat.mul_assoc]
 · rw [Int.natAbs_mul]
   have:(1 + t).natAbs<=9:=by omega
   have:y.natAbs<=60:=by omega
   exact Nat.le_trans (Nat.mul_le_mul ‹(1 + t).natAbs<=9› this) (by decide)
theorem Dk:∀ R,R < 8->∀ C,C < 8->R * C<=16->(R - 1) * (C - 1)<=9:=by decide
theorem C1 {R C:Nat} (h1:R<=7) (h2:C<=7):(R - 1) * (C - 1)<=36:=Nat.mul_le_mul (show R - 1<=6 by omega) (show C - 1<=6 by omega)
theorem uI {i C:Nat} {G:Nat->Nat->Rat}:mkT (i + 1) C G=mkT i C G++[(List.range C).map (G i)]:=by
 unfold mkT
 rw [List.range_succ,List.map_append]
 rfl
theorem tV {ps:List Int} {C i:Nat}:Hy.cutD (ps.map D.int) (some ((C:Int) * (i:Int))) (some ((C:Int) * ((i:Int) + 1)))=((ps.take (C * (i + 1))).drop (C * i)).map D.int:=by
 rw [show (C:Int) * (i:Int)=((C * i:Nat):Int) by rw [Int.natCast_mul],show (C:Int) * ((i:Int) + 1)=((C * (i + 1):Nat):Int) by rw [Int.natCast_mul]; rfl,Hy.qD,List.map_drop,List.map_take]
theorem ui {ps:List Int} {R C i:Nat} (h:ps.length=R * C) (hi:i < R):((ps.take (C * (i + 1))).drop (C * i)).length=C:=by
 have:C * (i + 1)<=C * R:=Nat.mul_le_mul_left _ hi
 rw [List.length_drop,List.length_take,h,Nat.mul_comm R C,Nat.min_eq_left this,Nat.mul_succ]
 omega
theorem yy {ps:List Int} {R C i:Nat} (h:ps.length=R * C) (hi:i < R) (l:Nat) (hl:l < (((ps.take (C * (i + 1))).drop (C * i)).map D.int).length):(((ps.take (C * (i + 1))).drop (C * i)).map D.int)[l]=.int (ps.getD (C * i + l) 0):=by
 rw [List.length_map,ui h hi] at hl
 have:C * (i + 1)<=C * R:=Nat.mul_le_mul_left _ hi
 rw [Nat.mul_succ] at this
 rw [Nat.mul_comm C R] at this
 simp [List.getElem_drop,List.getElem_take,List.getD_eq_getElem?_getD,show C * i + l < ps.length by omega]
noncomputable def nuG (big:Bool) (f ps:List Int) (C:Nat):Nat->Nat->Rat:=λi a=>((f.getD (i * C + a) 0:Int):Rat) * soE big (ps.getD (C * i + a) 0)
theorem xv {big:Bool} {p:Int} (h:0<=p):0 < soE big p:=by
 have f9:0<=p.fmod 9:=(fmn (b:=9) (by decide)).1
 have f3:0<=p.fmod 3:=(fmn (b:=3) (by decide)).1
 have fd:0<=p.fdiv 9:=by rw [Int.fdiv_eq_ediv_of_nonneg _ (by decide)]; omega
 cases big with
 | false=>
   show 0 < soQ p
   unfold soQ
   rw [Rat.div_def]
   exact Rat.mul_pos (Rat.intCast_pos.mpr (by omega)) (Rat.inv_pos.mpr (Rat.intCast_pos.mpr (by omega)))
 | true=>
   show 0 < soT p
   unfold soT
   exact Rat.intCast_pos.mpr (by omega)
theorem zm {R C n:Nat} {f:List Int} {c:Int} (t:Tb R C f):∀ i < R,Cq C (if 16 < n then 0 else 6) (if 16 < n then 2 else 10) (nuG (decide (16 < n)) f (soP c n) C i):=λi hi=>by
 by_cases h:16 < n
 · rw [if_pos h,if_pos h,decide_eq_true h]
   refine ⟨1,by decide,by decide,λa ha=>⟨f.getD (i * C + a) 0 * (1 + ((soP c n).getD (C * i + a) 0).fmod 3),?_,?_⟩⟩
   · show _=_ * _ * (1:Rat)
     rw [Rat.mul_one,Rat.intCast_mul]
     rfl
   · have f3:=fmn (a:=(soP c n).getD (C * i + a) 0) (b:=3) (by decide)
     rcases t.bit hi ha with z | z
     · rw [z,Int.one_mul]; omega
     · rw [z,Int.zero_mul]; decide
 · rw [if_neg h,if_neg h,decide_eq_false h]
   refine ⟨60,by decide,by decide,λa ha=>?_⟩
   obtain ⟨z,h1,h2⟩:=zv (p:=(soP c n).getD (C * i + a) 0) mw.1 mw.2
   refine ⟨f.getD (i * C + a) 0 * z,?_,?_⟩
   · show _=_ * soQ _ * _
     rw [Rat.intCast_mul,h1,Rat.mul_assoc]
   · rcases t.bit hi ha with y | y
     · rw [y,Int.one_mul]; exact h2
     · rw [y,Int.zero_mul]; exact Nat.zero_le _
theorem qt {c:Int} {R C:Nat} {f:List Int} (t:Tb R C f):∀ k,k<=R * C->∀ i < R,Cq C 96 110 (thK C (nuG (decide (16 < R * C)) f (soP c (R * C)) C) k i):=λk hk i hi=>by
 have r7:=t.r7
 have c7:=t.c7
 have h:=zm (c:=c) (n:=R * C) t
 have q:=pI t.c1 h h k hk i hi
 have n1:=qx R (by omega) C (by omega) k (by omega)
 by_cases z:16 < R * C
 · simp only [if_pos z] at q
   have:=C1 r7 c7
   exact q.mono (by omega) (by omega)
 · simp only [if_neg z] at q
   have:=Dk R (by omega) C (by omega) (by omega)
   exact q.mono (by omega) (by omega)
theorem CC {big:Bool} {R C:Nat} {f ps:List Int} (t:Tb R C f) (hp:∀ i,0<=ps.getD i 0):StG R C (mkG C f) (nuG big f ps C):=⟨λi hi a ha=>by
 have p:=xv (big:=big) (hp (C * i + a))
 unfold mkG nuG
 rcases t.bit hi ha with z | z
 · rw [z]
   refine ⟨by decide,?_,λy=>absurd y (by decide),λy=>?_⟩
   · show 0<=(1:Rat) * _
     rw [Rat.one_mul]; exact Rat.le_of_lt p
   · have y:(1:Rat) * soE big (ps.getD (C * i + a) 0)=0:=y
     rw [Rat.one_mul] at y
     rw [y] at p
     exact absurd p (by decide)
 · rw [z]
   have e:((0:Int):Rat) * soE big (ps.getD (C * i + a) 0)=0:=Rat.zero_mul _
   exact ⟨by decide,by rw [e]; decide,λ_=>e,λ_=>rfl⟩,λj hj b c h1 h2 h3 h4 i hi=>by
 have h3:f.getD (j * C + b) 0 ≠ 0:=λz=>h3 (by unfold mkG; rw [z]; rfl)
 have h4:f.getD (j * C + c) 0=0:=Rat.intCast_eq_zero_iff.mp h4
 have hb:f.getD (j * C + b) 0=1:=(t.bit hj (j:=b) (by omega)).resolve_right h3
 rcases t.g hj h2 with z | ⟨_,z⟩
 · omega
 · unfold mkG
   rcases t.bit (i:=i) (by omega) h2 with y | y
   · exact absurd ⟨⟨b,h1,hb⟩,i,hi,y⟩ z
   · rw [y]; rfl⟩
section
variable {P:Program} {w:World} {K:PySem.W.Frag} {mg:Str->Option Value} {base:Heap} {k:Nat} {f:Addr} {fd:FuncData} {qual:Str}
end
end K54
namespace L2
open PySem PySem.Spec PyProof.Rows
end L2
namespace K54
open PySem PySem.Spec PyProof.Rows L2 Hy
open Ev (D Den aq ay aA)
noncomputable def nuM (c:Int) (R C:Nat) (f:List Int):List (List Rat):=mkT R C (nuG (decide (16 < R * C)) f (soP c (R * C)) C)
noncomputable def ee (ds:List D) (r:Sl):Prop:=∃ (c:Int) (R C:Nat) (f:List Int),ds=[tbD (tb C R f),.int c]/\Tb R C f/\r=.o ((nuM c R C f).map rwQ)
theorem xD {m:Int} {q:Rat} (h:m=1\/m=0):D.tup [.int (m * q.num),.int ((q.den:Nat) * m + 1 - m)]=frD ((m:Rat) * q):=by
 rcases h with rfl | rfl
 · rw [Int.one_mul,Int.mul_one,show ((1:Int):Rat)=1 from rfl,Rat.one_mul,show ((q.den:Nat):Int) + 1 - 1=(q.den:Nat) by omega]; rfl
 · rw [Int.zero_mul,Int.mul_zero,show ((0:Int):Rat)=0 from rfl,Rat.zero_mul]; rfl
theorem yY {ms:List Int} {qs:List Rat} (i:Nat) (h:i < (ek (ms.map D.int) (qs.map frD)).length):(ek (ms.map D.int) (qs.map frD))[i]=.tup [.int (ms.getD i 0),frD (qs.getD i 0)]:=by
 rw [mW]
 rw [bJ,List.length_map,List.length_map] at h
 simp [show i < ms.length by omega,show i < qs.length by omega]
noncomputable def nuS (C R:Nat) (g:List Int) (c:Int) (ps:List Int) (T:List (List Rat)) (s5 s6 s7:Sl):List Sl:=[.d (tbD (tb C R g)),.d (.int c),.d (.int (C:Nat)),.d (.lst (ps.map D.int)),.o (T.map rwQ),s5,s6,s7]
section
variable {P:Program} {w:World} {K:PySem.W.Frag} {mg:Str->Option Value} {base:Heap} {k:Nat} {f:Addr} {fd:FuncData} {qual:Str}
set_option maxHeartbeats 4000000 in
theorem kH (F:Fun K "_law_numbered" qual (top 68) f fd) (hb:∀ x ∈ ah,mg x=none) (c_l_numbers:Cal P w K mg base k "_law_numbers" bW) (c_l_made:Cal P w K mg base k "_law_made" eX):aN P w K mg base CX0 (k + 1) f fd ["_law_marks","_law_cell_here"] (spD K ee):=by
 refine fnD F fX hb (by rintro _ _ ⟨_,_,_,_,rfl,_⟩; rfl) ?_
 rintro _ _ ⟨c,R,C,g,rfl,t,rfl⟩ cdv A outer s H E b
 have nd:=fX.nd
 have r1:=t.r1
 have c1:=t.c1
 have r7:=t.r7
 have c7:=t.c7
 have lm:=gq C R g
 have rc:R * C<=49:=Nat.mul_le_mul r7 c7
 have eRC:(R:Int) * (C:Int)=((R * C:Nat):Int):=by rw [Int.natCast_mul]
 have lt:((tb C R g).map rwD).length=R:=by rw [List.length_map,lm]
 refine az 2 nd (a4 b (ab (aG (aa 0) ae (aU (iu (m:=tb C R g) (i:=0) (by omega) (by rw [lm]; exact r1)))) af) (cD (n:=C) (by rw [List.length_map]; exact t.i0 r1))) ?_
 refine az 3 nd (aS (x_call b c_l_numbers (ab (aa 1) (ab (aS (bZ (cmp 0 (f:=λ_=>.int 54) b (cH (n:=((R * C:Nat):Int)) b (by rw [<- eRC]; exact aB (a4 b (ab (aa 0) af) (cD (n:=R) lt)) (aa 2) (aW (mkL (by omega)))) (by omega) (by omega)) cE (by rw [av]; omega) λi hi s0 H0 fp=>ae))) af)) ⟨c,List.replicate (R * C) 54,?_,?_,?_,rfl⟩)) ?_
 · rw [av,Int.toNat_natCast,List.map_replicate]
   refine congrArg (λl=>[D.int c,D.lst l]) (List.ext_getElem (by simp) λi h1 h2=>by simp)
 · rw [List.length_replicate]; omega
 · intro x hx
   rw [(List.mem_replicate.mp hx).2]
   exact wB (by decide) (by decide)
 have lp:(soP c (R * C)).length=R * C:=by unfold soP; rw [fB,List.length_replicate]
 have pl:∀ i,0<=(soP c (R * C)).getD i 0/\(soP c (R * C)).getD i 0 < 54:=λi=>mw
 unfold nuM
 show PSs _ _ (dS K [_,_,_,.d (.lst ((soP c (R * C)).map D.int)),_,_,_,_] _)
 generalize soP c (R * C)=ps at lp pl ⊢
 refine az 4 nd (cb af) ?_
 refine pF 5 6 (g:=λi=>.int (i:Nat)) (g':=λi=>rwD ((tb C R g).getD i [])) (λi τ=>∃ s5 s6 s7,τ=nuS C R g c ps (mkT i C (nuG (decide (16 < R * C)) g ps C)) s5 s6 s7) b nd (yz (xs:=(tb C R g).map rwD) b (aa 0)) (λi h=>by
     have h':i < (tb C R g).length:=by rw [cV] at h; simpa using h
     rw [lZ]
     simp [h']) ⟨_,_,_,rfl⟩ (λi hi τ h=>?_) λτ h=>?_
 · obtain ⟨s5,s6,s7,rfl⟩:=h
   have hi:i < R:=by rw [cV,lt] at hi; exact hi
   have ln:=ui (i:=i) lp hi
   refine iz 7 nd (s:=.o (((List.range C).map λl=>soE false (ps.getD (C * i + l) 0)).map frD)) (cmp 0 (g:=λl=>.int (ps.getD (C * i + l) 0)) (f:=λl=>frD (soQ (ps.getD (C * i + l) 0))) b (aR (aS (mC (aa 3) (cI (aB (aa 2) (aa 5) (aW (mkL (by omega))))) (cI (aB (aa 2) (aB (aa 5) ae bD) (aW (mkL (by omega)))))) (congrArg (λl=>some (D.lst l)) tV))) (yy lp hi) (by rw [List.length_map,ln]; omega) λl hl s0 H0 fp=>?_) (.inl ?_) ?_
   · have q:=pl (C * i + l)
     have f2:0<=(ps.getD (C * i + l) 0).fdiv 9/\(ps.getD (C * i + l) 0).fdiv 9 < 6:=by rw [Int.fdiv_eq_ediv_of_nonneg _ (by decide)]; omega
     refine x_call (b.comp s0 H0 _ fp) c_l_made (ab (aB ae (aB (aa 0) ae (eF (by decide))) bD) (ab (aB ae (aB (aa 0) ae (a5 (mkD (by decide) (by decide)))) bD) af)) ⟨_,_,soQ (ps.getD (C * i + l) 0),rfl,by omega,(show Bd 10 _ by unfold Bd; omega).mono (by decide),qL q.1,rfl⟩
   · rw [List.length_map,ln,List.map_map]
     rfl
   refine jK (M:=λτ=>τ=nuS C R g c ps (mkT i C (nuG (decide (16 < R * C)) g ps C)) (.d (.int (i:Nat))) (.d (rwD ((tb C R g).getD i []))) (.o (((List.range C).map λl=>soE (decide (16 < R * C)) (ps.getD (C * i + l) 0)).map frD))) (bf (aB (a4 b (ab (aa 0) af) (cD (n:=R) lt)) (aa 2) (aW (mkL (by omega)))) ae CJ) (λh=>?_) (λh=>?_) λτ h=>?_
   · have h:=of_decide_eq_true h
     have h:16 < R * C:=by omega
     refine iz 7 nd (s:=.o (((List.range C).map λl=>soE (decide (16 < R * C)) (ps.getD (C * i + l) 0)).map frD)) (cmp 0 (g:=λl=>.int (ps.getD (C * i + l) 0)) (f:=λl=>frD (soT (ps.getD (C * i + l) 0))) b (aR (aS (mC (aa 3) (cI (aB (aa 2) (aa 5) (aW (mkL (by omega))))) (cI (aB (aa 2) (aB (aa 5) ae bD) (aW (mkL (by omega)))))) (congrArg (λl=>some (D.lst l)) tV))) (yy lp hi) (by rw [List.length_map,ln]; omega) λl hl s0 H0 fp=>?_) (.inl ?_) (aM rfl)
     · unfold soT
       rw [zi]
       exact cC (ab (aB ae (aB (aa 0) ae (eF (by decide))) bD) (ab ae af))
     · rw [List.length_map,ln,List.map_map,decide_eq_true h]
       rfl
   · have h:=of_decide_eq_false h
     have h:¬ 16 < R * C:=by omega
     rw [decide_eq_false h]
     exact aM rfl
   subst h
   generalize decide (16 < R * C)=bg
   have lz:(ek (((tb C R g).getD i []).map D.int) (((List.range C).map λl=>soE bg (ps.getD (C * i + l) 0)).map frD)).length=C:=by rw [bJ,List.length_map,List.length_map,List.length_map,List.length_range,t.i0 hi,Nat.min_self]
   refine Az 7 ?_
   refine kX 4 (xs:=(mkT i C (nuG bg g ps C)).map rwQ) (x:=rwQ ((List.range C).map (nuG bg g ps C i))) (aS (bZ (yi 0 1 (f:=λj=>frD (nuG bg g ps C i j)) b (rj b (aa 6) (aa 7)) yY (by rw [lz]; omega) λj hj s0 H0 fp=>?_)) ?_) (by rw [List.length_map,en]; omega) (aM ⟨.d (.int (i:Nat)),.d (rwD ((tb C R g).getD i [])),.d (.lst (((List.range C).map λl=>soE bg (ps.getD (C * i + l) 0)).map frD)),?_⟩)
   · rw [lz] at hj
     have hm:=t.bit hi hj
     have e1:((List.range C).map λl=>soE bg (ps.getD (C * i + l) 0)).getD j 0=soE bg (ps.getD (C * i + j) 0):=by simp [hj]
     rw [gm hi hj,e1]
     unfold nuG
     rw [<- xD hm]
     have sm:ay (g.getD (i * C + j) 0) (soE bg (ps.getD (C * i + j) 0)).num:=by rcases hm with z | z <;> rw [z] <;> exact mkL (by decide)
     have sn:ay (((soE bg (ps.getD (C * i + j) 0)).den:Nat):Int) (g.getD (i * C + j) 0):=by rcases hm with z | z <;> rw [z] <;> exact mkR (by decide)
     exact cC (ab (aB (aa 0) (aG (aa 1) ae (aJ (aw (i:=0) rfl))) (aW sm)) (ab (aB (aB (aB (aG (aa 1) ae (aJ (aw (i:=1) rfl))) (aa 0) (aW sn)) ae bD) (aa 0) iO) af))
   · rw [lz]
     show some (D.lst _)=some (D.lst _)
     rw [List.map_map]
     rfl
   · rw [uI]
     unfold nuS
     rw [List.map_append]
     rfl
 · obtain ⟨s5,s6,s7,rfl⟩:=h
   rw [cV,lt]
   exact iI 4 rfl
end
end K54
namespace Ev
open PySem PySem.Spec PyProof.Rows L2 PySem.W
section
variable {prog:Program} {w:World} {d:Addr} {o:Obj} {es:Array DictEntry} {ep:Nat}
theorem Ab (h0:(d == sysModules)=false) (hx:o.ExactDict) (hdat:o.data=.dict es ep):KdlSrc prog w "dict" d d es.size (λi v=>∃ h:i < es.size,v=es[i].key) (λh=>h.get? d=some o) where
 type:=λs h=>⟨o,h,hx.1⟩
 there:=λh e=>⟨Heap.lt_size e,Heap.lt_size e⟩
 keep:=λh h' e k=>k d (.inl rfl) o e
 notList:=by decide
 notTuple:=by decide
 hint:=λA E s Q e q=>kdl_hint_dict ⟨o,e,hx.1⟩ q
 iter:=λA s hh e=>by
   have ne:d ≠ s.heap.objs.size:=Nat.ne_of_lt (Heap.lt_size e)
   refine ⟨_,λi h=>h.get? d=some o/\h.IsKeyIter s.heap.objs.size d i es.size ep,λE Q q=>xn h0 e hx hdat q,?_,Heap.get?_push_of_some _ e,⟨_,Heap.get?_push_size _ rfl,rfl,rfl⟩⟩
   exact {
     sub:=λb hb=>by rw [List.mem_singleton.mp hb]; exact List.mem_cons_self ..
     frame:=λi h h' st k=>⟨k d (by simp) o st.1,st.2.at λo e=>k _ (List.mem_cons_self ..) o e⟩
     item:=λi s' Q E hi st hQ=>xV st.2 st.1 hdat hi λh' st' sb=>hQ _ h' s'.toks ⟨hi,rfl⟩ ⟨(sb.2 d ne).trans st.1,st'⟩ λb o' hb e'=>(sb.2 b λz=>hb (by rw [z]; exact List.mem_singleton.mpr rfl)).trans e'
     done:=λs' Q E st hQ=>zh hh st.2 st.1 hdat (Nat.le_refl _) λh' eb=>hQ h' s'.toks λb o' hb e'=>eb b o' (λz=>hb (by rw [z]; exact List.mem_singleton.mpr rfl)) e'
     self:=λi s' Q E st h=>wpAny_pyIter_keyiter st.2 h }
end
section
variable {K:Type} [DecidableEq K] {a:KD K} {hd:a.dep<=7} {X:Cx}
theorem lx:∀ xs:NEs K,Vals (xs.map λx=>V.ref x.2.1) (xs.map λx=>Value.ref x.2.1)
 | []=>.nil
 | _ :: xs=>.cons rfl (lx xs)
theorem jq (hc:X.calm=true):eV X (.type "list") (λvs H Q=>∃ d xs,vs=[.ref d]/\H d=some (dNk a hd X.prog X.w d xs)/\xs.length<=sizeLine/\∀ l,H l=none->Q (.ref l) (upd H l (.lst (xs.map λx=>.ref x.2.1)))):=by
 intro pins s σ H vs us Q I r h
 obtain ⟨d,xs,rfl,ha,hz,q⟩:=h
 obtain ⟨u,rfl,rx⟩:=vals1 r
 cases rx
 obtain ⟨⟨h0,o,es,ep,h1,h2,h3,h4,h5⟩,_⟩:=(show bh X.prog X.w H s.heap d (dNk a hd X.prog X.w d xs) from I.hok d _ ha)
 have hl:es.size=xs.length:=by rw [<- Array.length_toList,h4,List.length_map]
 refine kdl_call (Ab h0 h2 h3) (I.ok.hd hc) h1 (by omega) λh' tk acc' c' kp e it=>?_
 have ea:acc'.toList=xs.map λx=>Value.ref x.2.1:=by
   refine List.ext_getElem (by rw [Array.length_toList,it.1,List.length_map,hl]) λi z1 z2=>?_
   rw [Array.length_toList] at z1
   obtain ⟨g,e⟩:=it.2 i acc'[i] (Array.getElem?_eq_getElem z1)
   rw [Array.getElem_toList,e]
   have hi:i < xs.length:=by omega
   have e:es.toList[i]?=some (entryOfKey (kd a hd X.prog X.w) xs[i]):=by rw [h4,List.getElem?_map,List.getElem?_eq_getElem hi]; rfl
   rw [Array.getElem?_toList,Array.getElem?_eq_getElem g] at e
   rw [Option.some.inj e,List.getElem_map]
   rfl
 have e':h'.get? s.heap.objs.size=some { cls:=.type "list",dict:=none,data:=.seq (xs.map λx=>Value.ref x.2.1).toArray c',slots:=#[] }:=by rw [<- ea,Array.toArray_toList]; exact e
 exact ⟨.ref s.heap.objs.size,_,I.laid (t':=tk) kp (Nat.le_refl _) (show bh X.prog X.w _ h' _ (.lst (xs.map λx=>.ref x.2.1)) from ⟨by rw [List.length_map]; exact hz,_,c',lx xs,e'⟩),rfl,q _ (I.hok.fresh (Nat.le_refl _))⟩
end
end Ev
namespace Hy
open PySem PySem.Spec PyProof.Rows L2
open Ev (D Den aq KD NEs dNk fU Bx ai jq)
section
variable {K:Type} [DecidableEq K] {a:KD K} {hd:a.dep<=7} {X:Cx} {C:Bool} {τ:List Sl} {e:Expr} {pos p q:Pos} {k:Nat} {m:List (K × D)}
theorem EnK.refs {F:PySem.W.Frag} {G:Hp}:∀ {xs:NEs K} {m:List (K × D)},EnK a F G xs m->aq F G (xs.map λx=>V.ref x.2.1) (m.map λp=>a.toD p.1)
 | _,_,.nil=>.nil
 | _,_,.cons h _ _ r=>.cons h r.refs
theorem wO (i:Nat) {n:Str} (B:Bk X k) (hi:τ[i]?=some (.x (exK a hd X.prog X.w m))) (hl:m.length<=sizeLine) (hN:X.N[i]?=some n:=by rfl)
   (hv:Vis X.env.scope n:=by first | exact Or.inl rfl | exact Or.inr (Or.inl rfl) | exact Or.inr (Or.inr rfl)) (hd1:(n == ("__debug__" : Str))=false:=by decide) (hcd:(n == ("__classdict__" : Str))=false:=by decide)
   (hg:Gl X "list":=by rfl) (he:starEach [.Name n q] X.env=(false,eval (.Name n q) X.env) :: starEach [] X.env:=by rfl) (hpl:(backTo pos (starEach [] X.env)).any (·.1)=false:=by rfl):PE X (.Call (.Name "list" p) [.Name n q] [] pos) (dE X.K true τ (.o (m.map λp=>a.toD p.1))):=
 peW (lF (jq (a:=a) (hd:=hd) B.calm) hg (B.blt _ (by decide)) (by decide +kernel) (bL (bN (i:=i) hN hv hd1 hcd) dX he) (by decide) (by decide) he hpl) λσ H Q ⟨A,H₀,B,S,kk⟩=>by
   obtain ⟨d,xs,e1,e2,e3,e4⟩:=S.dct hi
   refine ⟨_,slot_of e1,d,xs,rfl,e3,by rw [e4.length]; exact hl,λp hp=>?_⟩
   obtain ⟨z1,z2,z3⟩:=mq (K:=X.K) (M:=own A B) hp e4.refs
   exact kk _ _ [p] z1 z2 z3
end
end Hy
namespace Ev
open PySem PySem.Spec PyProof.Rows L2
section
variable {X:Cx} {tg:Expr}
end
end Ev
namespace Hy
open PySem PySem.Spec PyProof.Rows L2
open Ev (D Den aq Bx ai b9)
section
variable {X:Cx} {C:Bool} {τ:List Sl} {e tg:Expr} {pos p apos cpos:Pos} {m:List (Int × Int)}
theorem Ca (h:PE X e (dE X.K C τ (.x (exZ m)))):PE X e (dE X.K C τ (.d (.box (bxZ m)))):=by
 intro pins s σ H Q I q
 obtain ⟨A,H₀,B,S,kk⟩:=dJ q
 have vd:=S.vd (C:=C)
 refine thn (h pins s σ H (λv H'=>∃ d,v=.ref d/\aj H H'/\H d=none/\H' d=some (.dK (b9 m))) I ⟨A,H₀,B,S,λv H' bs e hf ⟨d,o,h1,h2,h3,h4⟩=>?_⟩) λu s1 ⟨x,H1,I1,rx,d,ex,e,hn,h3⟩=>?_
 · cases h2
   cases (show o=_ from h4)
   subst h1
   exact ⟨d,rfl,e,(hf d (List.mem_singleton.mpr rfl)).1,h3⟩
 · subst ex
   obtain ⟨z,hd0,vs,rel,dd⟩:=rD I1.hok h3
   obtain ⟨o,es,ep,e0,r⟩:=id dd
   have I2:Inv X pins σ (upd H1 d (.frz o (.dK (b9 m)))) s1:=d8 (t':=s1.toks) (h':=s1.heap) I1 (by rw [h3]; exact True.intro) (.refl _ _) ⟨o,e0⟩ ⟨e0,mD z hd0 rel dd⟩
   have un:¬ vw C A B d:=λz=>by
     obtain ⟨_,q⟩:=vd d z
     rw [hn] at q
     cases q
   refine ⟨.ref d,_,I2,rx,kk _ _ (λb o' hb=>?_) (.box ⟨o,ak.mpr ⟨un,aF⟩⟩)⟩
   rw [ax (λz=>by rw [z,hn] at hb; cases hb)]
   exact e b o' hb
end
end Hy
namespace K54
open PySem PySem.Spec PyProof.Rows L2 Hy
open Ev (D Den aq ay aA)
noncomputable abbrev kT:Ev.KD (List Int):=Ev.zr Ev.BH
theorem hdT:kT.dep<=7:=by show 1<=7; decide
theorem iy {F:PySem.W.Frag} (c:List Int) (H:Hp) (v:V) (h:Den F H v (kT.toD c)):∃ b,v=.ref b:=by
 generalize e:kT.toD c=x at h
 cases h with
 | tup=>exact ⟨_,rfl⟩
 | _=>cases e
section
variable {κ:Type} [DecidableEq κ]
theorem iC (p:κ × D) (m:List (κ × D)) (k:κ):getM (p :: m) k=if p.1=k then some p.2 else getM m k:=by
 unfold getM
 rw [List.find?_cons]
 by_cases e:p.1=k
 · simp [e]
 · simp [e]
theorem lA (k k':κ) (x:D):∀ m:List (κ × D),getM (m.map λy=>if y.1=k then (y.1,x) else y) k'=if k=k'/\(getM m k).isSome then some x else getM m k'
 | []=>by simp [getM]
 | p :: m=>by
   rw [List.map_cons,iC,lA k k' x m,iC,iC]
   by_cases e:p.1=k
   · rw [if_pos e,if_pos e]
     by_cases e':k=k'
     · simp [e,e']
     · simp [e,e']
   · rw [if_neg e,if_neg e]
     by_cases e':p.1=k'
     · simp [e',show ¬ k=k' from λz=>e (e'.trans z.symm)]
     · simp [e']
theorem ug (m:List (κ × D)) (k k':κ) (x:D):getM (fO m k x) k'=if k=k' then some x else getM m k':=by
 unfold fO
 by_cases h:(getM m k).isSome
 · rw [if_pos h,lA]
   simp [h]
 · rw [if_neg h]
   have h:getM m k=none:=by simpa using h
   unfold getM at *
   rw [List.find?_append]
   by_cases e:k=k'
   · subst e
     have h:m.find? (λx=>decide (x.1=k))=none:=by simpa using h
     rw [h]
     simp
   · simp [e]
noncomputable def mkM (v:κ->D) (ks:List κ):List (κ × D):=ks.foldl (λm k=>fO m k (v k)) []
theorem wd (v:κ->D) (ks:List κ) (k:κ):mkM v (ks++[k])=fO (mkM v ks) k (v k):=by unfold mkM; rw [List.foldl_append]; rfl
theorem kU (v:κ->D) (k:κ):∀ (ks:List κ) (m:List (κ × D)),getM (ks.foldl (λm k=>fO m k (v k)) m) k=if k ∈ ks then some (v k) else getM m k
 | [],m=>by simp
 | k0 :: ks,m=>by
   rw [List.foldl_cons,kU v k ks,ug]
   by_cases h:k ∈ ks
   · simp [h]
   · by_cases e:k0=k
     · simp [e]
     · simp [h,e,show ¬ k=k0 from λz=>e z.symm]
theorem jc {v:κ->D} {ks:List κ} {k:κ} (h:k ∈ ks):getM (mkM v ks) k=some (v k):=by unfold mkM; rw [kU,if_pos h]
theorem vC (m:List (κ × D)) (k:κ) (x:D):(fO m k x).length<=m.length + 1:=by
 unfold fO
 split <;> simp
theorem lV (v:κ->D):∀ (ks:List κ) (m:List (κ × D)),(ks.foldl (λm k=>fO m k (v k)) m).length<=m.length + ks.length
 | [],m=>by simp
 | k :: ks,m=>by
   rw [List.foldl_cons]
   have:=lV v ks (fO m k (v k))
   have:=vC m k (v k)
   rw [List.length_cons]
   omega
theorem mN (v:κ->D) (ks:List κ):(mkM v ks).length<=ks.length:=by unfold mkM; simpa using lV v ks []
theorem vX {m:List (κ × D)} {k:κ} {x:D} {p:κ × D} (h:p ∈ fO m k x):p=(k,x)\/p ∈ m:=by
 unfold fO at h
 split at h
 · obtain ⟨q,hq,e⟩:=List.mem_map.mp h
   by_cases z:q.1=k
   · rw [if_pos z] at e; exact .inl (by rw [<- e,z])
   · rw [if_neg z] at e; exact .inr (e ▸ hq)
 · rcases List.mem_append.mp h with h | h
   · exact .inr h
   · exact .inl (List.mem_singleton.mp h)
theorem kS (v:κ->D) {p:κ × D}:∀ (ks:List κ) (m:List (κ × D)),p ∈ ks.foldl (λm k=>fO m k (v k)) m->(p.1 ∈ ks/\p.2=v p.1)\/p ∈ m
 | [],m,h=>.inr h
 | k :: ks,m,h=>by
   rw [List.foldl_cons] at h
   rcases kS v ks _ h with ⟨h1,h2⟩ | h
   · exact .inl ⟨List.mem_cons_of_mem _ h1,h2⟩
   · rcases vX h with e | h
     · exact .inl (by rw [e]; exact ⟨List.mem_cons_self ..,rfl⟩)
     · exact .inr h
theorem m6 {v:κ->D} {ks:List κ} {p:κ × D} (h:p ∈ mkM v ks):p.1 ∈ ks/\p.2=v p.1:=(kS v ks [] h).elim id λz=>nomatch z
theorem vM {m:List (κ × D)} {k:κ} {x:D} (h:getM m k=some x):(k,x) ∈ m:=by
 unfold getM at h
 obtain ⟨p,h1,h2⟩:=Option.map_eq_some_iff.mp h
 have e:p.1=k:=by have:=List.find?_some h1; simpa using this
 rw [<- h2,<- e]
 exact List.mem_of_find?_eq_some h1
end
noncomputable def ers (c:List Int) (k:Nat):List Int:=c.take k++c.drop (k + 1)
noncomputable def alP (f:List Int->Int) (row c:List Int) (k:Nat):Int:=row.getD (c.getD k 0).toNat 0 * f (ers c k)
noncomputable def alS (f:List Int->Int) (row c:List Int):Nat->Int
 | 0=>0
 | k + 1=>if Int.fmod ((c.length:Int) - (k:Nat)) 2=0 then alS f row c k - alP f row c k else alS f row c k + alP f row c k
noncomputable def alR (f:List Int->Int) (row c:List Int):Int:=alS f row c c.length
noncomputable def dtm (R:List (List Int)):Nat->List Int->List Int->Int
 | 0,_,_=>1
 | t + 1,ls,c=>alR (dtm R t (ls.take t)) (R.getD (gE ls).toNat []) c
structure Rw (m n b:Nat) (R:List (List Int)):Prop where
 len:R.length=m
 row:∀ r ∈ R,r.length=n/\∀ x ∈ r,Bd b x
 m1:1<=m/\m<=7
 n1:1<=n/\n<=7
 b1:b<=1400
noncomputable def vD (R:List (List Int)) (p:List Int × List Int):Int:=dtm R p.1.length p.1 p.2
theorem uc {R:List (List Int)} {i:Int} (h0:0<=i) (h:i.toNat < R.length):atI (R.map dtR) i=some (dtR (R.getD i.toNat [])):=by
 obtain ⟨n,rfl⟩:=Int.eq_ofNat_of_zero_le h0
 exact aw (by
   have h:n < R.length:=h
   simp [h])
section
variable {P:Program} {w:World} {K:PySem.W.Frag} {mg:Str->Option Value} {base:Heap} {k:Nat} {f:Addr} {fd:FuncData} {qual:Str}
end
noncomputable def cf (n:Nat) (rs:List (List Int)):List (Int × Int):=rs.foldl (λkv r=>ba n r kv kv.length) [(0,1)]
theorem eo (n:Nat) (rs:List (List Int)) (r:List Int):cf n (rs++[r])=ba n r (cf n rs) (cf n rs).length:=by unfold cf; rw [List.foldl_append]; rfl
theorem oe (n:Nat) (rs:List (List Int)):∀ i,i<=rs.length->RI n i (dtM rs) (cf n (rs.take i))
 | 0,_=>RI.zero n _
 | i + 1,h=>by
   have e:rs.take (i + 1)=rs.take i++[rs.getD i []]:=take_snoc _ (by omega)
   rw [e,eo]
   exact (oe n rs i (by omega)).step λj _=>rfl
theorem ly (n:Nat) (rs:List (List Int)):RI n rs.length (dtM rs) (cf n rs):=by
 have:=oe n rs rs.length (Nat.le_refl _)
 rwa [List.take_of_length_le (Nat.le_refl _)] at this
theorem iB (n:Nat) (rs:List (List Int)):∀ i,i<=rs.length->(cf n (rs.take i)).length<=n ^ i
 | 0,_=>Nat.le_refl 1
 | i + 1,h=>by
   have e:rs.take (i + 1)=rs.take i++[rs.getD i []]:=take_snoc _ (by omega)
   rw [e,eo,Nat.pow_succ]
   exact Nat.le_trans (iA _ _ _ _) (Nat.mul_le_mul_right _ (iB n rs i (by omega)))
theorem uo {kv:List (Int × Int)} {k v:Int} {q:Int × Int} (h:q ∈ eO kv k v):q.2=v\/q ∈ kv:=by
 unfold eO at h
 split at h
 · obtain ⟨p,hp,e⟩:=List.mem_map.mp h
   by_cases z:p.1=k
   · rw [if_pos z] at e; exact .inl (by rw [<- e])
   · rw [if_neg z] at e; exact .inr (e ▸ hp)
 · rcases List.mem_append.mp h with h | h
   · exact .inr h
   · exact .inl (by rw [List.mem_singleton.mp h])
theorem xA {kv:List (Int × Int)} {k:Int} {N:Nat} (h:∀ q ∈ kv,q.2.natAbs<=N):((bA kv k).getD 0).natAbs<=N:=by
 cases e:bA kv k with
 | none=>simp
 | some v=>
   unfold bA at e
   obtain ⟨p,h1,h2⟩:=Option.map_eq_some_iff.mp e
   rw [<- h2]
   exact h p (List.mem_of_find?_eq_some h1)
theorem rn {n:Nat} {row:List Int} {k v:Int} {kv:List (Int × Int)} {N W:Nat} (hW:∀ j,(row.getD j 0 * v).natAbs<=W) (h:∀ q ∈ kv,q.2.natAbs<=N):∀ c,∀ q ∈ (bY n row k v kv c).2,q.2.natAbs<=N + c * W
 | 0,q,hq=>by have:=h q hq; omega
 | c + 1,q,hq=>by
   have ih:=rn (n:=n) (k:=k) hW h c
   rw [bY,jj] at hq
   rw [Nat.succ_mul]
   split at hq
   · have:=ih q hq; omega
   · rcases uo hq with e | hq
     · have h1:=xA (k:=jx k (n - 1 - c)) ih
       have h2:(sgZ (bY n row k v kv c).1 * row.getD (n - 1 - c) 0 * v).natAbs<=W:=by
         rw [Int.mul_assoc,Int.natAbs_mul]
         have:=hW (n - 1 - c)
         rcases oN (bY n row k v kv c).1 with z | z <;> rw [z] <;> simpa using this
       rw [e]
       omega
     · have:=ih q hq; omega
theorem og {n:Nat} {row:List Int} {kv:List (Int × Int)} {W:Nat} (hW:∀ j q,q ∈ kv->(row.getD j 0 * q.2).natAbs<=W):∀ t,∀ q ∈ ba n row kv t,q.2.natAbs<=t * n * W
 | 0,q,hq=>nomatch hq
 | t + 1,q,hq=>by
   rw [ba] at hq
   have ih:=og (n:=n) hW t
   have:=rn (N:=t * n * W) (W:=W) (λj=>by
     cases e:bA kv (kv.getD t (0,0)).1 with
     | none=>simp
     | some v=>
       unfold bA at e
       obtain ⟨p,h1,h2⟩:=Option.map_eq_some_iff.mp e
       rw [Option.getD_some,<- h2]
       exact hW j p (List.mem_of_find?_eq_some h1)) ih n q hq
   rw [Nat.succ_mul,Nat.add_mul]
   exact this
theorem oF {n b:Nat} {rs:List (List Int)} (hn:n<=7) (hl:rs.length<=7) (hr:∀ r ∈ rs,∀ x ∈ r,Bd b x):∀ i,i<=rs.length->∀ q ∈ cf n (rs.take i),Bd (1 + i * (b + 24)) q.2
 | 0,_,q,hq=>by
   cases List.mem_singleton.mp hq
   unfold Bd
   rw [Nat.zero_mul]
   decide
 | i + 1,h,q,hq=>by
   have e:rs.take (i + 1)=rs.take i++[rs.getD i []]:=take_snoc _ (by omega)
   rw [e,eo] at hq
   have ih:=oF hn hl hr i (by omega)
   have hl1:=iB n rs i (by omega)
   have hl2:n ^ i<=7 ^ 7:=Nat.le_trans (Nat.pow_le_pow_left hn i) (Nat.pow_le_pow_right (by decide) (by omega))
   have:=og (n:=n) (row:=rs.getD i []) (W:=2 ^ (b + (1 + i * (b + 24)))) (λj q hq=>by
     have h1:Bd b ((rs.getD i []).getD j 0):=by
       by_cases hj:j < (rs.getD i []).length
       · exact hr _ (fF (by omega)) _ (fF hj)
       · rw [getD_none (by omega)]; exact Nat.two_pow_pos b
     exact Nat.le_of_lt (h1.mul (ih q hq))) _ q hq
   unfold Bd
   have e2:1 + (i + 1) * (b + 24)=(b + (1 + i * (b + 24))) + 24:=by rw [Nat.succ_mul]; omega
   rw [e2,Nat.pow_add]
   have p0:=Nat.two_pow_pos (b + (1 + i * (b + 24)))
   have h7:(7:Nat) ^ 7=823543:=by decide
   have:(cf n (rs.take i)).length * n<=823543 * 7:=Nat.mul_le_mul (by omega) hn
   have l2:(cf n (rs.take i)).length * n * 2 ^ (b + (1 + i * (b + 24)))<=823543 * 7 * 2 ^ (b + (1 + i * (b + 24))):=Nat.mul_le_mul_right _ this
   have l3:823543 * 7 * 2 ^ (b + (1 + i * (b + 24))) < 2 ^ (b + (1 + i * (b + 24))) * 2 ^ 24:=by
     rw [Nat.mul_comm]
     exact Nat.mul_lt_mul_of_pos_left (by decide) p0
   omega
noncomputable def lnR (R:List (List Int)) (ls:List Int):List (List Int):=ls.map λi=>R.getD i.toNat []
noncomputable def vMn (R:List (List Int)) (n:Nat) (ls:List Int):D:=.box (bxZ (cf n (lnR R ls)))
noncomputable def nxK (n i:Nat) (ks:List (List Int)):List (List Int):=(ks.filter λls=>decide (ls.length < n)).map λls=>ls++[(i:Int)]
noncomputable def lks (R:List (List Int)) (n:Nat):Nat->List (List Int)
 | 0=>[[]]
 | i + 1=>lks R n i++nxK n i ((mkM (vMn R n) (lks R n i)).map (·.1))
theorem rA (n i:Nat) (ks:List (List Int)):(nxK n i ks).length<=ks.length:=by
 unfold nxK
 rw [List.length_map]
 exact List.length_filter_le ..
theorem qB (R:List (List Int)) (n:Nat):∀ i,(lks R n i).length<=2 ^ i
 | 0=>Nat.le_refl 1
 | i + 1=>by
   have h1:=qB R n i
   have h2:=rA n i ((mkM (vMn R n) (lks R n i)).map (·.1))
   have h3:=mN (vMn R n) (lks R n i)
   rw [List.length_map] at h2
   rw [lks,List.length_append,Nat.pow_succ]
   omega
structure Ls (n i:Nat) (ls:List Int):Prop where
 len:ls.length<=n
 at_:∀ x ∈ ls,0<=x/\x < i
theorem zy {n i:Nat} {ks:List (List Int)} (h:∀ ls ∈ ks,Ls n i ls):∀ ls ∈ nxK n i ks,Ls n (i + 1) ls:=λls hs=>by
 unfold nxK at hs
 obtain ⟨l,hl,rfl⟩:=List.mem_map.mp hs
 rw [List.mem_filter] at hl
 have h1:=h l hl.1
 have h2:=of_decide_eq_true hl.2
 refine ⟨by rw [List.length_append,List.length_singleton]; omega,λx hx=>?_⟩
 rcases List.mem_append.mp hx with hx | hx
 · have:=h1.at_ x hx; omega
 · rw [List.mem_singleton.mp hx]; omega
theorem lks_ok (R:List (List Int)) (n:Nat):∀ i,∀ ls ∈ lks R n i,Ls n i ls
 | 0,ls,h=>by
   rw [List.mem_singleton.mp h]
   exact ⟨Nat.zero_le _,λ_ z=>nomatch z⟩
 | i + 1,ls,h=>by
   have ih:=lks_ok R n i
   rcases List.mem_append.mp h with h | h
   · have:=ih ls h
     exact ⟨this.len,λx hx=>by have:=this.at_ x hx; omega⟩
   · refine zy (λl hl=>?_) ls h
     obtain ⟨q,hq,rfl⟩:=List.mem_map.mp hl
     exact ih _ (m6 hq).1
noncomputable def gu (P:Program) (w:World) (ds:List D) (r:Sl):Prop:=∃ (R:List (List Int)) (m n b:Nat),ds=[.lst (R.map dtR)]/\Rw m n b R/\r=.d (.box (bxW kT hdT P w (mkM (vMn R n) (lks R n m))))
theorem mn0 (R:List (List Int)) (n:Nat):mkM (vMn R n) (lks R n 0)=[([],D.box (bxZ [(0,1)]))]:=rfl
theorem uZ (R:List (List Int)) (n i:Nat) (ls:List Int):vMn R n (ls++[(i:Int)])=.box (bxZ (ba n (R.getD i []) (cf n (lnR R ls)) (cf n (lnR R ls)).length)):=by
 unfold vMn
 have e:lnR R (ls++[(i:Int)])=lnR R ls++[R.getD i []]:=by unfold lnR; rw [List.map_append]; rfl
 rw [e,eo]
theorem vc (n i:Nat) (ks:List (List Int)) (ls:List Int):nxK n i (ks++[ls])=nxK n i ks++if ls.length < n then [ls++[(i:Int)]] else []:=by
 unfold nxK
 rw [List.filter_append,List.map_append]
 congr 1
 by_cases h:ls.length < n
 · rw [if_pos h,List.filter_cons,if_pos (by simpa using h)]; rfl
 · rw [if_neg h,List.filter_cons,if_neg (by simpa using h)]; rfl
section
variable {P:Program} {w:World} {K:PySem.W.Frag} {mg:Str->Option Value} {base:Heap} {k:Nat} {f:Addr} {fd:FuncData} {qual:Str}
set_option maxHeartbeats 1000000 in
theorem nP (F:Fun K "_law_minors" qual (top 60) f fd) (hb:∀ x ∈ ah,mg x=none):aN P w K mg base CX0 (k + 1) f fd ["_law_rows_here"] (spD K (gu P w)):=by
 refine fnD F iM hb (by rintro _ _ ⟨_,_,_,_,rfl,_⟩; rfl) ?_
 rintro _ _ ⟨R,m,n,b0,rfl,ok,rfl⟩ cdv A outer s H E b
 have nd:=iM.nd
 have hu:(Xc P w K mg base ["_law_rows_here","_law_wide","_law_made_here","_law_i","_law_lines","_law_longer","_law_mask","_law_behind_it","_law_j","_law_key","_law_part"] qual (top 60) f cdv A outer s H E).A.units + 16 < cLine:=Nat.lt_of_le_of_lt (Nat.add_le_add_left (by decide:16<=64) _) b.room.units
 have hu1:(Xc P w K mg base ["_law_rows_here","_law_wide","_law_made_here","_law_i","_law_lines","_law_longer","_law_mask","_law_behind_it","_law_j","_law_key","_law_part"] qual (top 60) f cdv A outer s H E).A.units + 1 < cLine:=Nat.lt_of_le_of_lt (Nat.add_le_add_left (by decide:1<=64) _) b.room.units
 obtain ⟨⟨m1,m7⟩,n1,n7⟩:=And.intro ok.m1 ok.n1
 have lR:(R.map dtR).length=m:=by rw [List.length_map,ok.len]
 have r0:(R.getD 0 []).length=n:=(ok.row _ (fF (by rw [ok.len]; omega))).1
 have lr0:((R.getD 0 []).map D.int).length=n:=by rw [List.length_map,r0]
 have a0:atI (R.map dtR) 0=some (dtR (R.getD 0 [])):=uc (i:=0) (by decide) (by rw [ok.len]; show 0 < m; omega)
 refine az 1 nd (a4 b (ab (aG (aa 0) ae (aU a0)) af) (CF lr0)) ?_
 generalize e:Expr.Dict [some (Expr.Tuple [] 0 _)] _ _=ex
 refine az 2 nd (s:=.x (exK kT hdT P w [([],D.box (bxZ [(0,1)]))])) ?_ ?_ (hs:=by subst e; rfl)
 · subst e
   generalize e:Expr.Dict [some (Expr.Constant _ _ _)] _ _=ex
   refine zS (a:=kT) (hd:=hdT) (key:=[]) (x:=D.box (bxZ [(0,1)])) hu ?_ ?_ (iy [])
   · show PE _ _ (dE _ _ _ (.d (.tup [])))
     exact cC af
   · subst e
     exact Ca zG
 refine bE 3 (λi τ=>i<=m/\∃ s3 s4 s5 s6 s7 s8 s9 s10,τ=[.d (.lst (R.map dtR)),.d (.int n),.x (exK kT hdT P w (mkM (vMn R n) (lks R n i))),s3,s4,s5,s6,s7,s8,s9,s10]) b nd (cH b (a4 b (ab (aa 0) af) (CF lR)) (by omega) (by omega)) cE ⟨Nat.zero_le _,.un,.un,.un,.un,.un,.un,.un,.un,by rw [mn0]; rfl⟩ (λi hi τ h=>?_) λτ h=>?_
 · obtain ⟨_,s3,s4,s5,s6,s7,s8,s9,s10,rfl⟩:=h
   have hi:i < m:=by rw [av] at hi; omega
   have hiR:i < R.length:=by rw [ok.len]; exact hi
   have hrow:=ok.row _ (fF (d:=[]) hiR)
   have aRi:atI (R.map dtR) (i:Int)=some (dtR (R.getD i [])):=uc (i:=(i:Int)) (by omega) (by omega)
   have kl:=mN (vMn R n) (lks R n i)
   have ll:=qB R n i
   have p2:2 ^ i<=2 ^ 7:=Nat.pow_le_pow_right (by decide) (by omega)
   have hks:∀ ls ∈ (mkM (vMn R n) (lks R n i)).map (·.1),ls ∈ lks R n i:=λls h=>by
     obtain ⟨q,hq,rfl⟩:=List.mem_map.mp h
     exact (m6 hq).1
   have lkl:((mkM (vMn R n) (lks R n i)).map (·.1)).length<=128:=by rw [List.length_map]; omega
   have eL:lks R n (i + 1)=lks R n i++nxK n i ((mkM (vMn R n) (lks R n i)).map (·.1)):=rfl
   have em:(mkM (vMn R n) (lks R n i)).map (λp=>kT.toD p.1)=((mkM (vMn R n) (lks R n i)).map (·.1)).map kT.toD:=by rw [List.map_map]; rfl
   refine bE 4 (g:=λl=>kT.toD (((mkM (vMn R n) (lks R n i)).map (·.1)).getD l [])) (λl τ=>∃ s4 s5 s6 s7 s8 s9 s10,τ=[.d (.lst (R.map dtR)),.d (.int n),.x (exK kT hdT P w (mkM (vMn R n) (lks R n i++nxK n i (((mkM (vMn R n) (lks R n i)).map (·.1)).take l)))),.d (.int (i:Nat)),s4,s5,s6,s7,s8,s9,s10]) b nd (em ▸ aR (aS (wO 2 (a:=kT) (hd:=hdT) b rfl (Nat.le_trans kl (Nat.le_trans ll (Nat.le_trans p2 (by decide))))))) (cF (f:=kT.toD) []) ⟨s4,s5,s6,s7,s8,s9,s10,by rw [List.take_zero]; show _=[_,_,Sl.x (exK kT hdT P w (mkM (vMn R n) (lks R n i++[]))),_,_,_,_,_,_,_,_]; rw [List.append_nil]; rfl⟩ (λl hl τ h=>?_) λτ h=>?_
   · obtain ⟨s4,s5,s6,s7,s8,s9,s10,rfl⟩:=h
     generalize (mkM (vMn R n) (lks R n i)).map (·.1)=ks at hl hks lkl
     have hl:l < ks.length:=by simpa using hl
     have hs:=hks _ (fF (d:=[]) hl)
     have es:ks.take (l + 1)=ks.take l++[ks.getD l []]:=take_snoc _ hl
     rw [es,vc]
     generalize ks.getD l []=ls at hs
     have okl:=lks_ok R n i ls hs
     have nl:=rA n i (ks.take l)
     rw [List.length_take] at nl
     generalize nxK n i (ks.take l)=nx at nl
     have gK:getM (mkM (vMn R n) (lks R n i++nx)) ls=some (.box (bxZ (cf n (lnR R ls)))):=jc (v:=vMn R n) (List.mem_append_left _ hs)
     have ml:=mN (vMn R n) (lks R n i++nx)
     rw [List.length_append] at ml
     have lnl:(lnR R ls).length=ls.length:=by unfold lnR; rw [List.length_map]
     have RIk:=ly n (lnR R ls)
     have kvl:=iB n (lnR R ls) _ (Nat.le_refl _)
     have kvb:=oF (n:=n) (b:=b0) (rs:=lnR R ls) n7 (by have:=okl.len; omega) (λr hr x hx=>by
       unfold lnR at hr
       obtain ⟨y,hy,rfl⟩:=List.mem_map.mp hr
       have:=okl.at_ y hy
       exact (ok.row _ (fF (by rw [ok.len]; omega))).2 x hx) _ (Nat.le_refl _)
     rw [List.take_of_length_le (Nat.le_refl _)] at kvl kvb
     have kv7:n ^ (lnR R ls).length<=7 ^ 7:=Nat.le_trans (Nat.pow_le_pow_left n7 _) (Nat.pow_le_pow_right (by decide) (by have:=okl.len; omega))
     have h77:(7:Nat) ^ 7=823543:=by decide
     have vS:=uZ R n i ls
     generalize cf n (lnR R ls)=kv at gK RIk kvl kvb vS
     generalize hRow:R.getD i []=row at hrow aRi vS
     refine az 5 nd zE ?_
     refine bE 6 (g:=λt=>.int (kv.getD t (0,0)).1) (λt τ=>∃ s6 s7 s8 s9 s10,τ=[.d (.lst (R.map dtR)),.d (.int n),.x (exK kT hdT P w (mkM (vMn R n) (lks R n i++nx))),.d (.int (i:Nat)),.d (kT.toD ls),.x (exZ (ba n row kv t)),s6,s7,s8,s9,s10]) b nd (xO (va 2 (a:=kT) (hd:=hdT) (key:=ls) hu rfl (aa 4) gK (iy _) gR)) xf ⟨s6,s7,s8,s9,s10,rfl⟩ (λt ht τ z=>?_) λτ z=>?_
     · obtain ⟨s6,s7,s8,s9,s10,rfl⟩:=z
       have ht:t < kv.length:=by simpa using ht
       have hq:kv.getD t (0,0) ∈ kv:=fF ht
       have hg:bA kv (kv.getD t (0,0)).1=some (kv.getD t (0,0)).2:=vU RIk.nd hq
       have hv:=kvb _ hq
       have hml:=iA n row kv t
       have hml2:t * n<=823543 * 7:=Nat.mul_le_mul (by omega) n7
       have eM:ba n row kv (t + 1)=(bY n row (kv.getD t (0,0)).1 (kv.getD t (0,0)).2 (ba n row kv t) n).2:=by rw [ba,hg]; rfl
       rw [eM]
       generalize ba n row kv t=lk at hml
       generalize (kv.getD t (0,0)).1=mk at hg
       generalize (kv.getD t (0,0)).2=v at hg hv
       refine az 7 nd ae ?_
       refine bE 8 (g:=λc=>.int ((n - 1 - c:Nat):Int)) (λc τ=>∃ s8 s9 s10,τ=[.d (.lst (R.map dtR)),.d (.int n),.x (exK kT hdT P w (mkM (vMn R n) (lks R n i++nx))),.d (.int (i:Nat)),.d (kT.toD ls),.x (exZ (bY n row mk v lk c).2),.d (.int mk),.d (.int (bY n row mk v lk c).1),s8,s9,s10]) b nd (C5 (n:=n) b (aa 1) (by omega)) Dp ⟨s8,s9,s10,rfl⟩ (λc hc τ z=>?_) λτ z=>?_
       · obtain ⟨s8,s9,s10,rfl⟩:=z
         have hc:c < n:=by rw [gW] at hc; exact hc
         have hcl:=jF n row mk v lk c
         have hj:n - 1 - c < row.length:=by rw [hrow.1]; omega
         have eC:bY n row mk v lk (c + 1)=jj row mk v (n - 1 - c) (bY n row mk v lk c):=rfl
         rw [eC]
         generalize bY n row mk v lk c=st at hcl
         generalize n - 1 - c=j at hj
         have j7:j < 7:=by have:=hrow.1; omega
         refine jK (M:=λτ=>∃ s8 s9 s10,τ=[.d (.lst (R.map dtR)),.d (.int n),.x (exK kT hdT P w (mkM (vMn R n) (lks R n i++nx))),.d (.int (i:Nat)),.d (kT.toD ls),.x (exZ (jj row mk v j st).2),.d (.int mk),.d (.int (jj row mk v j st).1),s8,s9,s10]) (bf (aB (aB (aa 6) (aa 8) (yA (by omega))) ae yD) ae gN) (λz=>?_) (λz=>?_) λτ z=>by
           obtain ⟨s8,s9,s10,rfl⟩:=z
           exact aM ⟨s8,s9,s10,rfl⟩
         · have z:ql mk j=true:=by
             unfold ql
             rw [Int.toNat_natCast] at z
             exact z
           have e:jj row mk v j st=(st.1 + 1,st.2):=by unfold jj; rw [if_pos z]
           rw [e]
           exact az 7 nd (aB (aa 7) ae bD) (aM ⟨_,_,_,rfl⟩)
         · have z:ql mk j=false:=by
             unfold ql
             rw [Int.toNat_natCast] at z
             exact z
           have e:jj row mk v j st=(st.1,eO st.2 (jx mk j) ((bA st.2 (jx mk j)).getD 0 + sgZ st.1 * row.getD j 0 * v)):=by unfold jj; rw [if_neg (by rw [z]; decide)]
           have hx:Bd b0 (row.getD j 0):=hrow.2 _ (fF hj)
           have s2:ay (row.getD j 0) v:=hx.ay hv (by have:=ok.b1; omega) (by
             have:=ok.b1
             have:(lnR R ls).length * (b0 + 24)<=7 * (b0 + 24):=Nat.mul_le_mul_right _ (by have:=okl.len; omega)
             omega)
           rw [e]
           refine az 9 nd (aB (aa 6) (aB ae (aa 8) (uk ⟨by omega,by omega,by decide⟩)) CZ) ?_
           rw [Int.toNat_natCast]
           show PSs _ _ (dS K [.d (.lst (R.map dtR)),.d (.int n),.x (exK kT hdT P w (mkM (vMn R n) (lks R n i++nx))),.d (.int (i:Nat)),.d (kT.toD ls),.x (exZ st.2),.d (.int mk),.d (.int st.1),.d (.int (j:Nat)),.d (.int (jx mk j)),_] _)
           refine az 10 nd (aB (aG (aG (aa 0) (aa 3) (aU aRi)) (aa 8) (aU (atR hj))) (pB hu1 (va 2 (a:=kT) (hd:=hdT) (key:=ls) hu rfl (aa 4) gK (iy _) gR) (aa 6) hg gR) (aW s2)) ?_
           refine jK (M:=λτ=>τ=[.d (.lst (R.map dtR)),.d (.int n),.x (exK kT hdT P w (mkM (vMn R n) (lks R n i++nx))),.d (.int (i:Nat)),.d (kT.toD ls),.x (exZ st.2),.d (.int mk),.d (.int st.1),.d (.int (j:Nat)),.d (.int (jx mk j)),.d (.int (sgZ st.1 * row.getD j 0 * v))]) (bf (aB (aa 7) ae (eF (by decide))) ae gN) (λz=>?_) (λz=>?_) λτ z=>?_
           · have z:=of_decide_eq_true z
             have e2:sgZ st.1=-1:=by unfold sgZ; rw [z]; rfl
             rw [e2,Int.mul_assoc,Int.neg_mul,Int.one_mul]
             exact az 10 nd (qv (aa 10)) (aM rfl)
           · have z:=of_decide_eq_false z
             have e2:sgZ st.1=1:=by
               rcases oN st.1 with h | h
               · exact h
               · unfold sgZ at h; omega
             rw [e2,Int.one_mul]
             exact aM rfl
           · rw [z]
             refine zx 5 hu1 rfl (aa 9) (aB (x4 5 hu1 rfl (aa 9) ae) (aa 10) bD) ?_ (aM ⟨_,_,_,rfl⟩)
             have:sizeLine > 10000000:=by decide
             omega
       · obtain ⟨s8,s9,s10,rfl⟩:=z
         rw [gW]
         exact aM ⟨_,_,_,_,_,rfl⟩
     · obtain ⟨s6,s7,s8,s9,s10,rfl⟩:=z
       rw [List.length_map]
       refine B6 5 ?_
       refine jK (M:=λτ=>∃ s4 s5 s6 s7 s8 s9 s10,τ=[.d (.lst (R.map dtR)),.d (.int n),.x (exK kT hdT P w (mkM (vMn R n) (lks R n i++(nx++if ls.length < n then [ls++[(i:Int)]] else [])))),.d (.int (i:Nat)),s4,s5,s6,s7,s8,s9,s10]) (bf (a4 b (ab (aa 4) af) wa) (aa 1) kM) (λz=>?_) (λz=>?_) λτ z=>aM z
       · have z:=of_decide_eq_true z
         rw [List.length_map] at z
         rw [if_pos (by omega),<- List.append_assoc,wd,vS]
         refine AW 2 (a:=kT) (hd:=hdT) (key:=ls++[(i:Int)]) hu rfl ?_ (aa 5) (Nat.le_trans ml ?_) (iy _) (aM ⟨_,_,_,_,_,_,_,rfl⟩)
         · have e:kT.toD (ls++[(i:Int)])=.tup (ls.map D.int++[.int (i:Nat)]):=by show D.tup ((ls++[(i:Int)]).map D.int)=_; rw [List.map_append]; rfl
           rw [e]
           exact aB (aa 4) (cC (ab (aa 3) af)) (y9 (by rw [List.length_map]; have:=okl.len; show _ + 1 < _; omega))
         · have:sizeLine > 10000000:=by decide
           omega
       · have z:=of_decide_eq_false z
         rw [List.length_map] at z
         rw [if_neg (by omega),List.append_nil]
         exact aM ⟨_,_,_,_,_,_,_,rfl⟩
   · obtain ⟨s4,s5,s6,s7,s8,s9,s10,rfl⟩:=h
     refine aM ⟨hi,.d (.int (i:Nat)),s4,s5,s6,s7,s8,s9,s10,?_⟩
     rw [eL,List.length_map,List.take_of_length_le (Nat.le_refl _)]
 · obtain ⟨_,s3,s4,s5,s6,s7,s8,s9,s10,rfl⟩:=h
   refine Bc 2 (a:=kT) (hd:=hdT) (aK (aa 2) ?_)
   rw [av,Int.toNat_natCast]
   rfl
end
theorem qG {f:List Int->Int} {row c:List Int} {g:Nat->Rat} {m:Nat} (hl:c.length=m + 1) (hg:∀ k,k < m + 1->((alP f row c k:Int):Rat)=g k):∀ k,k<=m + 1->((alS f row c k:Int):Rat)=aE (λk=>sgn (m - k) * g k) k
 | 0,_=>rfl
 | k + 1,h=>by
   have ih:=qG hl hg k (by omega)
   rw [alS,aE,<- ih,<- hg k (by omega),hl]
   unfold sgn
   rw [Int.fmod_eq_emod_of_nonneg _ (by decide)]
   by_cases z:(m - k) % 2=0
   · rw [if_pos z,if_neg (by omega),Rat.intCast_add,Rat.one_mul]
   · rw [if_neg z,if_pos (by omega),Rat.intCast_sub,Rat.sub_eq_add_neg,Rat.neg_mul,Rat.one_mul]
theorem pA {M M':Nat->Nat->Rat} {L:List Nat} (h:∀ r,r < L.length->∀ j,M r j=M' r j):cN M L=cN M' L:=by
 unfold cN
 exact aD λr hr q _=>h r hr _
theorem vq (R:List (List Int)) (ls:List Int) (t r j:Nat) (h:r < t):dtM (lnR R (ls.take t)) r j=dtM (lnR R ls) r j:=by
 have e:(lnR R (ls.take t)).getD r []=(lnR R ls).getD r []:=by
   unfold lnR
   rw [List.map_take,List.getD_eq_getElem?_getD,List.getD_eq_getElem?_getD,List.getElem?_take_of_lt h]
 unfold dtM
 rw [e]
theorem rg (c:List Int) (k:Nat):(ers c k).map Int.toNat=(c.map Int.toNat).eraseIdx k:=by
 unfold ers
 rw [List.eraseIdx_eq_take_drop_succ,List.map_append,List.map_take,List.map_drop]
theorem rh (R:List (List Int)):∀ (t:Nat) (ls c:List Int),ls.length=t->c.length=t->((dtm R t ls c:Int):Rat)=cN (dtM (lnR R ls)) (c.map Int.toNat)
 | 0,ls,c,_,hc=>by
   cases List.length_eq_zero_iff.mp hc
   rfl
 | t + 1,ls,c,hl,hc=>by
   have hL:(c.map Int.toNat).length=t + 1:=by rw [List.length_map,hc]
   rw [kb hL,dtm]
   unfold alR
   rw [hc]
   have:=qG (f:=dtm R t (ls.take t)) (row:=R.getD (gE ls).toNat []) (c:=c) (g:=λk=>dtM (lnR R ls) t ((c.map Int.toNat).getD k 0) * cN (dtM (lnR R ls)) ((c.map Int.toNat).eraseIdx k)) hc (λk hk=>by
     unfold alP
     have e1:(c.map Int.toNat).getD k 0=(c.getD k 0).toNat:=by simp [show k < c.length by omega]
     have e2:(lnR R ls).getD t []=R.getD (gE ls).toNat []:=by
       unfold lnR gE
       rw [hl]
       simp [show t < ls.length by omega]
     have l2:(ers c k).length=t:=by
       have:=congrArg List.length (rg c k)
       rw [List.length_map,List.length_eraseIdx_of_lt (by omega),hL] at this
       exact this
     rw [Rat.intCast_mul,rh R t (ls.take t) (ers c k) (by rw [List.length_take,hl]; omega) l2,rg]
     rw [e1]
     have e3:dtM (lnR R ls) t (c.getD k 0).toNat=(((R.getD (gE ls).toNat []).getD (c.getD k 0).toNat 0:Int):Rat):=by unfold dtM; rw [e2]
     rw [e3]
     refine congrArg _ (pA λr hr j=>vq R ls t r j ?_)
     rw [List.length_eraseIdx_of_lt (by omega),hL] at hr
     omega) (t + 1) (Nat.le_refl _)
   rw [this]
   refine aC λk hk=>?_
   rw [Rat.mul_assoc]
section
variable {P:Program} {w:World} {K:PySem.W.Frag} {mg:Str->Option Value} {base:Heap} {k:Nat} {f:Addr} {fd:FuncData} {qual:Str}
end
noncomputable def lkP (n:Nat):Nat->List (List Int)
 | 0=>[[]]
 | i + 1=>lkP n i++nxK n i (lkP n i)
theorem u9 {κ:Type} [DecidableEq κ] {v:κ->D} {ks:List κ} {k:κ}:k ∈ (mkM v ks).map (·.1) ↔ k ∈ ks:=by
 constructor
 · intro h
   obtain ⟨q,hq,rfl⟩:=List.mem_map.mp h
   exact (m6 hq).1
 · intro h
   exact List.mem_map.mpr ⟨_,vM (jc (v:=v) h),rfl⟩
theorem rG {n i:Nat} {ks:List (List Int)} {ls:List Int}:ls ∈ nxK n i ks ↔ ∃ l,l ∈ ks/\l.length < n/\l++[(i:Int)]=ls:=by
 unfold nxK
 rw [List.mem_map]
 constructor
 · rintro ⟨l,h,e⟩
   rw [List.mem_filter] at h
   exact ⟨l,h.1,of_decide_eq_true h.2,e⟩
 · rintro ⟨l,h,z,e⟩
   exact ⟨l,List.mem_filter.mpr ⟨h,decide_eq_true z⟩,e⟩
theorem qI (R:List (List Int)) (n:Nat):∀ i (ls:List Int),ls ∈ lks R n i ↔ ls ∈ lkP n i
 | 0,_=>Iff.rfl
 | i + 1,ls=>by
   have ih:=qI R n i
   rw [lks,lkP,List.mem_append,List.mem_append,rG,rG,ih]
   refine or_congr Iff.rfl (exists_congr λl=>?_)
   rw [u9,ih]
theorem Aw:∀ n,n < 8->∀ m,m < 8->(((lkP n m).all λls=>(chs m ls.length).contains ls && decide (ls.length<=min m n)) && (List.range (min m n + 1)).all λt=>(chs m t).all λls=>(lkP n m).contains ls)=true:=by decide +kernel
section
variable {P:Program} {w:World} {K:PySem.W.Frag} {mg:Str->Option Value} {base:Heap} {k:Nat} {f:Addr} {fd:FuncData} {qual:Str}
end
theorem BL:∀ n,n < 8->∀ t,t < 8->((chs n t).all λc=>(List.range (t - 1)).all λi=>decide (c.getD i 0 < c.getD (i + 1) 0))=true:=by decide +kernel
theorem yu {R:List (List Int)} {ls c:List Int} {t:Nat} (hl:ls.length=t) (hc:c.length=t):((vD R (ls,c):Int):Rat)=mi (dtM R) t (λr=>(ls.getD r 0).toNat) (λj=>(c.getD j 0).toNat):=by
 unfold vD
 show ((dtm R ls.length ls c:Int):Rat)=_
 rw [rh R ls.length ls c rfl (by omega)]
 unfold cN mi
 rw [List.length_map,hc]
 refine aD λi hi j hj=>?_
 unfold dtM lnR
 have e1:(ls.map λi=>R.getD i.toNat []).getD i []=R.getD (ls.getD i 0).toNat []:=by simp [show i < ls.length by omega]
 have e2:(c.map Int.toNat).getD j 0=(c.getD j 0).toNat:=by simp [show j < c.length by omega]
 rw [e1,e2]
theorem CL {n t:Nat} (hn:n<=7) (ht:t<=7) {c:List Int} (h:c ∈ chs n t):Inc t λi=>(c.getD i 0).toNat:=λi hi=>by
 have u:=List.all_eq_true.mp (List.all_eq_true.mp (BL n (by omega) t (by omega)) c h) i (List.mem_range.mpr (by omega))
 have u:=of_decide_eq_true u
 have:=((tW n t c h).at_ i (by omega)).1
 show (c.getD i 0).toNat < (c.getD (i + 1) 0).toNat
 omega
structure Rs (T m:Nat) (p:List Int):Prop where
 len:p.length=m
 up:∀ a,a + 1 < m->p.getD a 0 < p.getD (a + 1) 0
 bd:∀ a,a < m->0<=p.getD a 0/\p.getD a 0 < T
theorem w6 {c:List Int} {x:Int} {i:Nat} (h:i < c.length):(c++[x]).getD i 0=c.getD i 0:=by simp [List.getD,List.getElem?_append_left h]
theorem rJ (T:Nat):∀ (m:Nat) (p:List Int),Rs T m p->p ∈ chs T m
 | 0,p,h=>by
   rw [chs,List.mem_singleton]
   exact List.length_eq_zero_iff.mp h.len
 | m + 1,p,h=>by
   have hp:p=p.dropLast++[p.getD m 0]:=by
     have hne:p ≠ []:=λz=>by rw [z] at h; exact absurd h.len (by simp)
     have:p.getLast hne=p.getD m 0:=by
       rw [List.getLast_eq_getElem,List.getD_eq_getElem?_getD]
       simp [h.len]
     rw [<- this,List.dropLast_concat_getLast]
   have hl:p.dropLast.length=m:=by rw [List.length_dropLast,h.len]; rfl
   have hg:∀ a,a < m->p.dropLast.getD a 0=p.getD a 0:=λa ha=>by
     conv=>rhs; rw [hp]
     rw [w6 (by omega)]
   have hd:Rs T m p.dropLast:=⟨hl,λa ha=>by rw [hg a (by omega),hg (a + 1) ha]; exact h.up a (by omega),λa ha=>by rw [hg a ha]; exact h.bd a (by omega)⟩
   rw [chs,List.mem_flatMap]
   refine ⟨_,rJ T m _ hd,?_⟩
   unfold onC
   have hb:=h.bd m (by omega)
   have hle:lea m p.dropLast<=p.getD m 0:=by
     unfold lea
     by_cases z:0 < m
     · rw [if_pos z,gE,hl,hg (m - 1) (by omega)]
       have:=h.up (m - 1) (by omega)
       rw [show m - 1 + 1=m by omega] at this
       omega
     · rw [if_neg z]; exact hb.1
   refine List.mem_map.mpr ⟨(p.getD m 0 - lea m p.dropLast).toNat,List.mem_range.mpr (by omega),?_⟩
   rw [Int.toNat_of_nonneg (by omega)]
   conv=>rhs; rw [hp]
   congr 2
   omega
theorem qK {s:Nat->Rat} (h:∀ i,0 < s i):∀ k,0 < fR s k
 | 0=>by show (0:Rat) < 1; decide
 | k + 1=>by
   rw [fR]
   exact Rat.mul_pos (qK h k) (h k)
theorem Bo {M:List (List Rat)} {k:Nat} (h:k < M.length):(M.map scL).getD k 0=scL (M.getD k []):=by simp [h]
theorem CW {m n s:Nat} {M:List (List Rat)} {ls cc:List Int} (t:Tq m n M) (l1:ls.length=s) (l2:cc.length=s) (b1:∀ i,i < s->(ls.getD i 0).toNat < m) (b2:∀ i,i < s->(cc.getD i 0).toNat < n) :
   ((vD (whM M (M.map scL)) (ls,cc):Int):Rat)=fR (λr=>((scL (M.getD (ls.getD r 0).toNat []):Int):Rat)) s * mi (qM M) s (λr=>(ls.getD r 0).toNat) λj=>(cc.getD j 0).toNat:=by
 rw [yu (R:=whM M (M.map scL)) l1 l2]
 unfold mi
 rw [<- ir (n:=s) _ (λr c=>qM M (ls.getD r 0).toNat (cc.getD c 0).toNat) s (Nat.le_refl _)]
 refine aD λi hi j hj=>?_
 rw [if_pos hi]
 have hi':(ls.getD i 0).toNat < M.length:=by rw [t.len]; exact b1 i hi
 have hj':(cc.getD j 0).toNat < (M.getD (ls.getD i 0).toNat []).length:=by rw [t.at_ (b1 i hi)]; exact b2 j hj
 have sc:(M.map scL).getD (ls.getD i 0).toNat 0=scL (M.getD (ls.getD i 0).toNat []):=Bo hi'
 unfold dtM
 rw [vY hi' hj',sc,Bf ((fA _).2 _ (bj hj')),Rat.mul_comm]
 rfl
theorem Bn {M:List (List Rat)} {f:Nat->Nat}:∀ i,(0:Rat) < ((scL (M.getD (f i) []):Int):Rat):=λi=>Rat.intCast_pos.mpr (fA _).1
theorem inc_le {k:Nat} {ρ:Nat->Nat} (h:Inc k ρ):∀ i,i < k->i<=ρ i
 | 0,_=>Nat.zero_le _
 | i + 1,hi=>by
   have:=inc_le h i (by omega)
   have:=h i hi
   omega
theorem wK {m k:Nat} {ρ:Nat->Nat} (h:Inc k ρ) (b:∀ i,i < k->ρ i < m):((List.range k).map λi=>((ρ i:Nat):Int)) ∈ chs m k:=by
 have at_:∀ i,i < k->((List.range k).map λi=>((ρ i:Nat):Int)).getD i 0=(ρ i:Nat):=λi hi=>by simp [hi]
 refine rJ m k _ ⟨by simp,λa ha=>?_,λa ha=>?_⟩
 · rw [at_ a (by omega),at_ (a + 1) ha]
   have:=h a ha
   omega
 · rw [at_ a ha]
   have:=b a ha
   omega
noncomputable def bt (S k:Nat):List Nat:=(cols 7 S).take k
noncomputable def bI (S k:Nat):List Int:=(bt S k).map λx:Nat=>(x:Int)
noncomputable def mkS (L:List Nat):Nat:=(L.map (2 ^ ·)).sum
theorem jT:∀ n,n < 8->((List.range (2 ^ n)).all λS=>decide ((cols 7 S).length<=n) && (cols 7 S).all (λx=>decide (x < n)) && (List.range 7).all (λi=>decide ((cols 7 S).length<=i + 1) || decide ((cols 7 S).getD i 0 < (cols 7 S).getD (i + 1) 0)) && (decide (S=0) || decide (0 < (cols 7 S).length)) && (List.range 8).all λk=>decide (cols n (mkS (bt S k))=bt S k) && decide (mkS (bt S k) < 2 ^ n))=true:=by decide +kernel
theorem iJ {n S:Nat} (hn:n<=7) (h:S < 2 ^ n):(cols 7 S).length<=n:=by
 have:=List.all_eq_true.mp (jT n (by omega)) S (List.mem_range.mpr h)
 simp only [Bool.and_eq_true,decide_eq_true_eq] at this
 exact this.1.1.1.1
theorem Bt {n S:Nat} (hn:n<=7) (h:S < 2 ^ n):∀ x ∈ cols 7 S,x < n:=λx hx=>by
 have:=List.all_eq_true.mp (jT n (by omega)) S (List.mem_range.mpr h)
 simp only [Bool.and_eq_true,decide_eq_true_eq] at this
 exact of_decide_eq_true (List.all_eq_true.mp this.1.1.1.2 x hx)
theorem A9 {n S:Nat} (hn:n<=7) (h:S < 2 ^ n):∀ i,i + 1 < (cols 7 S).length->(cols 7 S).getD i 0 < (cols 7 S).getD (i + 1) 0:=λi hi=>by
 have l:=iJ hn h
 have:=List.all_eq_true.mp (jT n (by omega)) S (List.mem_range.mpr h)
 simp only [Bool.and_eq_true,decide_eq_true_eq] at this
 have:=List.all_eq_true.mp this.1.1.2 i (List.mem_range.mpr (by omega))
 rw [Bool.or_eq_true,decide_eq_true_eq,decide_eq_true_eq] at this
 exact this.resolve_left (by omega)
theorem uW {n S:Nat} (hn:n<=7) (h:S < 2 ^ n) (h0:1<=S):0 < (cols 7 S).length:=by
 have:=List.all_eq_true.mp (jT n (by omega)) S (List.mem_range.mpr h)
 simp only [Bool.and_eq_true,decide_eq_true_eq,Bool.or_eq_true] at this
 exact this.1.2.resolve_left (by omega)
theorem zL {n S k:Nat} (hn:n<=7) (h:S < 2 ^ n) (hk:k<=7):cols n (mkS (bt S k))=bt S k/\mkS (bt S k) < 2 ^ n:=by
 have:=List.all_eq_true.mp (jT n (by omega)) S (List.mem_range.mpr h)
 simp only [Bool.and_eq_true,decide_eq_true_eq] at this
 have:=List.all_eq_true.mp this.2 k (List.mem_range.mpr (by omega))
 simpa only [Bool.and_eq_true,decide_eq_true_eq] using this
theorem uF {S k i:Nat} (h:i < k):(bt S k).getD i 0=(cols 7 S).getD i 0:=by simp [bt,List.getD,List.getElem?_take,h]
theorem gG {S k i:Nat}:((bI S k).getD i 0).toNat=(bt S k).getD i 0:=by
 unfold bI
 rw [List.getD_eq_getElem?_getD,List.getD_eq_getElem?_getD,List.getElem?_map]
 cases (bt S k)[i]? <;> rfl
theorem k8 {S k i:Nat}:(bI S k).getD i 0=(((bt S k).getD i 0:Nat):Int):=by
 unfold bI
 rw [List.getD_eq_getElem?_getD,List.getD_eq_getElem?_getD,List.getElem?_map]
 cases (bt S k)[i]? <;> rfl
section
variable {n S k:Nat} (hn:n<=7) (h:S < 2 ^ n) (hk:k<=(cols 7 S).length)
include hn h hk
theorem gd:(bI S k).length=k:=by unfold bI bt; rw [List.length_map,List.length_take]; omega
theorem eY:∀ i,i < k->((bI S k).getD i 0).toNat < n:=λi hi=>by
 rw [gG,uF hi]
 have hi':i < (cols 7 S).length:=by omega
 rw [show (cols 7 S).getD i 0=(cols 7 S)[i] by simp [hi']]
 exact Bt hn h _ (List.getElem_mem hi')
theorem mV:Inc k λi=>((bI S k).getD i 0).toNat:=λi hi=>by
 show ((bI S k).getD i 0).toNat < ((bI S k).getD (i + 1) 0).toNat
 rw [gG,gG,uF (by omega),uF hi]
 exact A9 hn h i (by omega)
theorem zF (hb:1<=k):bI S k ∈ chs n k:=by
 have e:bI S k=(List.range k).map λi=>(((((bI S k).getD i 0).toNat:Nat)):Int):=by
   refine List.ext_getElem (by rw [gd hn h hk]; simp) λi h1 h2=>?_
   rw [List.getElem_map,List.getElem_range,gG,<- k8]
   simp [h1]
 rw [e]
 exact wK (mV hn h hk) (eY hn h hk)
theorem vh (hb:1<=k):ChO n (bI S k):=by
 have l:=gd hn h hk
 have l7:=iJ hn h
 refine ⟨λz=>by rw [z] at l; simp at l; omega,λi hi=>?_,by rw [k8]; omega,?_,by omega⟩
 · have:((bI S k).getD i 0).toNat < ((bI S k).getD (i + 1) 0).toNat:=mV hn h hk i (by omega)
   rw [gG,gG] at this
   rw [k8,k8]
   omega
 · have:=eY hn h hk (k - 1) (by omega)
   rw [gG] at this
   have e:gE (bI S k)=(bI S k).getD (k - 1) 0:=by
     unfold gE
     rw [l]
   rw [e,k8]
   omega
end
theorem wC:∀ S:Nat,S < 128->(List.range (Builtin.Int.intBits (S:Int))).filter (λj=>S.testBit j)=cols 7 S/\Builtin.Int.intBits (S:Int)<=7:=by decide +kernel
section
variable {P:Program} {w:World} {K:PySem.W.Frag} {mg:Str->Option Value} {base:Heap} {k:Nat} {f:Addr} {fd:FuncData} {qual:Str}
end
end K54
namespace Ev
open PySem PySem.Spec PyProof.Rows L2
section
variable {X:Cx} {o:Expr} {apos cpos:Pos} {td:TE}
noncomputable def CB (td:TE):TE:=λσ H Q=>td σ H λx H1=>∃ z:Int,x=.int z/\Q (.int ((Builtin.Int.intBits z:Nat):Int)) H1
theorem wz (ho:PE X o td) (hbase:attributeBase o "bit_length" X.env (eval o X.env)=eval o X.env) (hline:(apos.endLine == cpos.line)=true):PE X (.Call (.Attribute o "bit_length" apos) [] [] cpos) (CB td):=by
 intro pins s σ H Q I h
 refine wpAny_Call_method0_late hbase hline (thn (ho pins s σ H _ I h) λv s1 ⟨x,H1,I1,r1,z,ex,q1⟩=>?_)
 subst ex
 obtain ⟨t,rfl⟩:=r1
 refine ⟨"int",_,PySem.F.plainAttrs_int,PySem.F.slot_int_bit_length,PySem.F.type_int_bit_length,typeIs_int _ _ _,(λ_ e=>nomatch e),method0_gives PySem.F.slot_int_bit_length PySem.F.entry_int_bit_length (typeIs_int _ _ _) (PySem.F.args_int_bit_length_1 _) (PySem.AutoIntG2.int_bit_length_int_0 z t) ?_⟩
 exact ⟨.int _,H1,I1.tok _,⟨_,rfl⟩,q1⟩
end
end Ev
namespace Hy
open PySem PySem.Spec PyProof.Rows L2
open Ev (D Den aq)
theorem zY {X:Cx} {C:Bool} {τ:List Sl} {o:Expr} {apos cpos:Pos} {z:Int} (ho:PE X o (dE X.K C τ (.d (.int z)))) (hbase:attributeBase o "bit_length" X.env (eval o X.env)=eval o X.env:=by rfl) (hline:(apos.endLine == cpos.line)=true:=by rfl):PE X (.Call (.Attribute o "bit_length" apos) [] [] cpos) (dE X.K C τ (.d (.int ((Builtin.Int.intBits z:Nat):Int)))):=
 peW (Ev.wz ho hbase hline) λσ H Q q=>by
   obtain ⟨A,H₀,B,S,kk⟩:=dJ q
   refine aO S λv H1 e1 d1=>?_
   cases d1
   exact ⟨z,rfl,kk _ _ e1 .int⟩
end Hy
namespace K54
open PySem PySem.Spec PyProof.Rows L2 Hy
open Ev (D Den aq ay aA)
noncomputable def nq (ds:List D) (r:Sl):Prop:=∃ (S k:Nat),ds=[.int (S:Nat),.int (k:Nat)]/\S < 128/\r=.o ((bI S k).map .int)
section
variable {P:Program} {w:World} {K:PySem.W.Frag} {mg:Str->Option Value} {base:Heap} {k:Nat} {f:Addr} {fd:FuncData} {qual:Str}
theorem vR (F:Fun K "_law_cut" qual (top 70) f fd) (hb:∀ x ∈ ah,mg x=none):aN P w K mg base CX0 (k + 1) f fd ["_law_mask","_law_most"] (spD K nq):=by
 refine fnD F nR hb (by rintro _ _ ⟨_,_,rfl,_⟩; rfl) ?_
 rintro _ _ ⟨S,m,rfl,hS,rfl⟩ cdv A outer s H E b
 have nd:=nR.nd
 obtain ⟨e1,e2⟩:=wC S hS
 have lr:(fP 0 (((Builtin.Int.intBits (S:Int):Nat):Int)).toNat).length=Builtin.Int.intBits (S:Int):=by rw [av,Int.toNat_natCast]
 refine iz 2 nd (s:=.d (.lst ((cols 7 S).map λx:Nat=>D.int x))) (Bg 0 (t:=λj=>S.testBit j) (f:=λj=>.int (j:Nat)) b (cH b (zY (aa 0)) (by omega) (by omega)) cE (by rw [lr]; omega) (λi hi s0 H0 fp=>?_) λi hi _ s0 H0 fp=>(aa 0)) (.inr ?_) ?_
 · rw [<- yN]
   exact bf (aB (aB (aa 1) (aa 0) (yA (by omega))) ae yD) ae gN
 · rw [lr,e1]
 · refine aK (mC (aa 2) hX (cI (aa 1))) ?_
   rw [mI,<- List.map_take]
   unfold bI bt
   rw [List.map_map]
   rfl
end
noncomputable def mkP (n m:Nat) (c:Int):List Int:=nums c [2 ^ n - 1,2 ^ m - 1]
noncomputable def l4 (n m:Nat) (c:Int):List (Nat × Nat):=if n < 4/\m < 4 then (List.range (2 ^ n - 1)).flatMap λi=>(List.range (2 ^ m - 1)).map λj=>(1 + i,1 + j) else [((1 + (mkP n m c).getD 0 0).toNat,(1 + (mkP n m c).getD 1 0).toNat)]
noncomputable def prD (p:Nat × Nat):D:=.tup [.int (p.1:Nat),.int (p.2:Nat)]
noncomputable def il (ds:List D) (r:Sl):Prop:=∃ (c:Int) (n m:Nat),ds=[.int c,.int (n:Nat),.int (m:Nat)]/\1<=n/\n<=7/\1<=m/\m<=7/\r=.d (.lst ((l4 n m c).map prD))
theorem p2 {n:Nat} (h1:1<=n) (h7:n<=7):2<=2 ^ n/\2 ^ n<=128:=by
 have:=Nat.pow_le_pow_right (show 0 < 2 by decide) h1
 have:=Nat.pow_le_pow_right (show 0 < 2 by decide) h7
 omega
theorem vE {n m:Nat} (h1:1<=n) (h7:n<=7) (g1:1<=m) (g7:m<=7) (c:Int):(0<=(mkP n m c).getD 0 0/\(mkP n m c).getD 0 0 < 2 ^ n - 1)/\0<=(mkP n m c).getD 1 0/\(mkP n m c).getD 1 0 < 2 ^ m - 1:=by
 have a:=p2 h1 h7
 have b:=p2 g1 g7
 have e1:((2:Int) ^ n)=((2 ^ n:Nat):Int):=by rw [Int.natCast_pow]; rfl
 have e2:((2:Int) ^ m)=((2 ^ m:Nat):Int):=by rw [Int.natCast_pow]; rfl
 have p:∀ x ∈ [(2:Int) ^ n - 1,2 ^ m - 1],0 < x:=λx hx=>by
   simp only [List.mem_cons,List.not_mem_nil,or_false] at hx
   rcases hx with z | z <;> omega
 exact ⟨i8 (c:=c) p (i:=0) (by show 0 < 2; decide),i8 (c:=c) p (i:=1) (by show 1 < 2; decide)⟩
theorem An {n m:Nat} (h1:1<=n) (h7:n<=7) (g1:1<=m) (g7:m<=7) (c:Int):∀ p ∈ l4 n m c,1<=p.1/\p.1 < 2 ^ n/\1<=p.2/\p.2 < 2 ^ m:=λp hp=>by
 unfold l4 at hp
 split at hp
 · obtain ⟨i,hi,h⟩:=List.mem_flatMap.mp hp
   obtain ⟨j,hj,rfl⟩:=List.mem_map.mp h
   have:=List.mem_range.mp hi
   have:=List.mem_range.mp hj
   refine ⟨?_,?_,?_,?_⟩ <;> (simp only []; omega)
 · obtain ⟨⟨a1,a2⟩,b1,b2⟩:=vE h1 h7 g1 g7 c
   have e1:((2:Int) ^ n)=((2 ^ n:Nat):Int):=by rw [Int.natCast_pow]; rfl
   have e2:((2:Int) ^ m)=((2 ^ m:Nat):Int):=by rw [Int.natCast_pow]; rfl
   rw [List.mem_singleton] at hp
   subst hp
   refine ⟨?_,?_,?_,?_⟩ <;> (simp only []; omega)
noncomputable def mkR (m t:Nat):List (Nat × Nat):=(List.range t).flatMap λi=>(List.range (2 ^ m - 1)).map λj=>(1 + i,1 + j)
theorem qN (m:Nat):∀ t,(mkR m t).length=t * (2 ^ m - 1)
 | 0=>by rw [Nat.zero_mul]; rfl
 | t + 1=>by
   have e:mkR m (t + 1)=mkR m t++(List.range (2 ^ m - 1)).map λj=>(1 + t,1 + j):=by unfold mkR; rw [List.range_succ,List.flatMap_append]; simp
   rw [e,List.length_append,qN m t,List.length_map,List.length_range,Nat.succ_mul]
section
variable {P:Program} {w:World} {K:PySem.W.Frag} {mg:Str->Option Value} {base:Heap} {k:Nat} {f:Addr} {fd:FuncData} {qual:Str}
theorem pM (F:Fun K "_law_masks" qual (top 69) f fd) (hb:∀ x ∈ ah,mg x=none) (c_l_numbers:Cal P w K mg base k "_law_numbers" bW):aN P w K mg base CX0 (k + 1) f fd ["_law_cell_here","_law_many","_law_wide"] (spD K il):=by
 refine fnD F kh hb (by rintro _ _ ⟨_,_,_,rfl,_⟩; rfl) ?_
 rintro _ _ ⟨c,n,m,rfl,h1,h7,g1,g7,rfl⟩ cdv A outer s H E b
 have nd:=kh.nd
 have a:=p2 h1 h7
 have a':=p2 g1 g7
 have e1:((2:Int) ^ n)=((2 ^ n:Nat):Int):=by rw [Int.natCast_pow]; rfl
 have e2:((2:Int) ^ m)=((2 ^ m:Nat):Int):=by rw [Int.natCast_pow]; rfl
 have sh:∀ {X:Cx} (k:Nat),k<=7->cx X (binaryOp .LShift) (.int 1) (.int (k:Nat)) (.int ((2 ^ k:Nat):Int)):=λk hk=>by
   have:((2 ^ k:Nat):Int)=1 * 2 ^ (k:Int).toNat:=by rw [Int.toNat_natCast,Int.one_mul,Int.natCast_pow]; rfl
   rw [this]
   exact uk ⟨by omega,by omega,by decide⟩
 refine eZ (PW.pt (yJ (bf (aa 1) ae kM) λh=>(uh (bf (aa 2) ae kM)))) (λh=>?_) λh=>?_
 · rw [Bool.and_eq_true,decide_eq_true_eq,decide_eq_true_eq] at h
   have hn:n < 4/\m < 4:=by omega
   have e:l4 n m c=mkR m (2 ^ n - 1):=by unfold l4; rw [if_pos hn]; rfl
   rw [e]
   refine az 3 nd (aS (cb af)) ?_
   have lr:∀ N:Nat,(fP 1 (((N:Nat):Int) - 1).toNat).length=N - 1:=λN=>by rw [av]; omega
   refine bE 4 (λi τ=>i<=127/\∃ s4,τ=[.d (.int c),.d (.int (n:Nat)),.d (.int (m:Nat)),.d (.lst ((mkR m i).map prD)),s4,.un]) b nd (kf b ae (aB ae (aa 1) (sh n h7)) ⟨by omega,by omega,by omega,by omega⟩) (λi h=>fJ _ _ i h) ⟨by omega,_,rfl⟩ (λi hi τ h=>?_) λτ h=>?_
   · obtain ⟨_,s4,rfl⟩:=h
     rw [lr] at hi
     have ln:=qN m i
     have b8:2 ^ m<=8:=Nat.pow_le_pow_right (show 0 < 2 by decide) (show m<=3 by omega)
     have bb:i * (2 ^ m - 1)<=127 * 7:=Nat.mul_le_mul (by omega) (by omega)
     refine az 3 nd (aS (k9 (ys:=(List.range (2 ^ m - 1)).map λj=>prD (1 + i,1 + j)) (aa 3) (aS (bZ (cmp 0 (f:=λj=>prD (1 + i,1 + j)) b (kf b ae (aB ae (aa 2) (sh m g7)) ⟨by omega,by omega,by omega,by omega⟩) (λj h=>fJ _ _ j h) (by rw [lr]; omega) λj hj s0 H0 fp=>?_)) ?_) ?_)) (aM ⟨by omega,.d (.int (1 + (i:Nat))),?_⟩)
     · unfold prD
       rw [show ((1 + i:Nat):Int)=1 + (i:Nat) by omega,show ((1 + j:Nat):Int)=1 + (j:Nat) by omega]
       exact (cC (ab (aa 1) (ab (aa 0) af)))
     · rw [lr]
       rfl
     · rw [List.length_map,List.length_map,List.length_range,ln]; omega
     · have e:mkR m (i + 1)=mkR m i++(List.range (2 ^ m - 1)).map λj=>(1 + i,1 + j):=by unfold mkR; rw [List.range_succ,List.flatMap_append]; simp
       rw [e,List.map_append,List.map_map]
       rfl
   · obtain ⟨_,s4,rfl⟩:=h
     rw [lr]
     exact aK (aa 3) rfl
 · have hn:¬(n < 4/\m < 4):=by
     rw [Bool.and_eq_false_iff,decide_eq_false_iff_not,decide_eq_false_iff_not] at h
     omega
   have e:l4 n m c=[((1 + (mkP n m c).getD 0 0).toNat,(1 + (mkP n m c).getD 1 0).toNat)]:=by unfold l4; rw [if_neg hn]
   rw [e]
   obtain ⟨⟨a1,a2⟩,b1,b2⟩:=vE h1 h7 g1 g7 c
   have lq:(mkP n m c).length=2:=fB _ _
   refine az 5 nd (aS (x_call b c_l_numbers (ab (aa 0) (ab (aS (cb (ab (aB (aB ae (aa 1) (sh n h7)) ae iO) (ab (aB (aB ae (aa 2) (sh m g7)) ae iO) af)))) af)) ⟨c,[2 ^ n - 1,2 ^ m - 1],by rw [e1,e2]; rfl,by show 2<=10000; decide,λx hx=>?_,rfl⟩)) ?_
   · have:0 < x/\x < 128:=by
       simp only [List.mem_cons,List.not_mem_nil,or_false] at hx
       omega
     exact wB this.1 (by omega)
   have pa:∀ i:Nat,i < 2->atI ((mkP n m c).map D.int) (i:Int)=some (.int ((mkP n m c).getD i 0)):=λi hi=>atR (by omega)
   show PSs _ _ (dS K [_,_,_,_,_,.d (.lst ((mkP n m c).map D.int))] _)
   refine aK (aS (cb (ab (cC (ab (aB ae (aG (aa 5) ae (aU (pa 0 (by decide)))) bD) (ab (aB ae (aG (aa 5) ae (aU (pa 1 (by decide)))) bD) af))) af))) ?_
   show Sl.d (D.lst [D.tup [.int _,.int _]])=Sl.d (D.lst [D.tup [.int _,.int _]])
   rw [Int.toNat_of_nonneg (by omega),Int.toNat_of_nonneg (by omega)]
end
theorem rw_ok {m n d v:Nat} {M:List (List Rat)} (t:Tq m n M) (hq:∀ r ∈ M,∀ x ∈ r,Qs d v x) (hb:v + (1 + n * d)<=1400):Rw m n (v + (1 + n * d)) (whM M (M.map scL)):=by
 refine ⟨by unfold whM; simp [t.len],λr hr=>?_,⟨t.r1,t.r7⟩,⟨t.c1,t.c7⟩,hb⟩
 unfold whM at hr
 obtain ⟨i,hi,rfl⟩:=List.mem_map.mp hr
 rw [List.mem_range] at hi
 have mi:M.getD i [] ∈ M:=bj hi
 refine ⟨by unfold whR; rw [List.length_map]; exact t.row _ mi,λx hx=>?_⟩
 unfold whR at hx
 obtain ⟨q,hq',rfl⟩:=List.mem_map.mp hx
 have e:(M.map scL).getD i 0=scL (M.getD i []):=by simp [hi]
 rw [e]
 have:=eD (d:=d) (r:=M.getD i []) λx hx=>(hq _ mi x hx).den
 rw [t.row _ mi] at this
 exact yI (hq _ mi q hq') ((fA _).2 q hq') this
theorem Ai {R:List (List Int)} {ls:List Int} {r j:Nat} (h:r < ls.length):dtM (lnR R ls) r j=dtM R (ls.getD r 0).toNat j:=by
 unfold dtM lnR
 simp [h]
theorem xP {m n k S:Nat} {R:List (List Int)} (m7:m<=7) (n7:n<=7) (hS:S < 2 ^ m) (hk:k<=(cols 7 S).length) (h1:1<=k) (hn:k<=n):bI S k ∈ lks R n m:=by
 rw [qI]
 have c:=zF m7 hS hk h1
 have lm:k<=m:=Nat.le_trans hk (iJ m7 hS)
 have:=Aw n (by omega) m (by omega)
 rw [Bool.and_eq_true,List.all_eq_true,List.all_eq_true] at this
 have:=List.all_eq_true.mp (this.2 k (List.mem_range.mpr (by omega))) _ c
 exact List.contains_iff_mem.mp this
theorem qu {m n k S T:Nat} {M:List (List Rat)} (t:Tq m n M) (hS:S < 2 ^ m) (hT:T < 2 ^ n) (hk:k<=(cols 7 S).length) (hk':k<=(cols 7 T).length):∃ v:Int,bA (cf n (lnR (whM M (M.map scL)) (bI S k))) ((mkS (bt T k):Nat):Int)=some v/\(v=0 ↔ mi (qM M) k (λr=>((bI S k).getD r 0).toNat) (λc=>((bI T k).getD c 0).toNat)=0):=by
 have m7:=t.r7
 have n7:=t.c7
 have ls:=gd m7 hS hk
 have lt:=gd n7 hT hk'
 have k7:k<=7:=Nat.le_trans hk (Nat.le_trans (iJ m7 hS) m7)
 obtain ⟨e1,e2⟩:=zL n7 hT k7
 have lb:(bt T k).length=k:=by have h:=lt; unfold bI at h; rw [List.length_map] at h; exact h
 have ll:(lnR (whM M (M.map scL)) (bI S k)).length=k:=by unfold lnR; rw [List.length_map,ls]
 have ri:=ly n (lnR (whM M (M.map scL)) (bI S k))
 rw [ll] at ri
 obtain ⟨a1,a2⟩:=ri.all _ e2 (by rw [e1]; exact lb)
 obtain ⟨v,hv⟩:=Option.ne_none_iff_exists'.mp a1
 refine ⟨v,hv,?_⟩
 unfold gv at a2
 rw [hv,e1] at a2
 have e3:cN (dtM (lnR (whM M (M.map scL)) (bI S k))) (bt T k)=mi (dtM (whM M (M.map scL))) k (λr=>((bI S k).getD r 0).toNat) (λc=>((bI T k).getD c 0).toNat):=by
   unfold cN
   rw [lb]
   refine aD λi hi j hj=>?_
   show dtM _ i ((bt T k).getD j 0)=dtM _ ((bI S k).getD i 0).toNat ((bI T k).getD j 0).toNat
   rw [Ai (by omega),gG (S:=T)]
 have a2:((v:Int):Rat)=_:=a2
 rw [e3,<- yu ls lt,CW t ls lt (eY m7 hS hk) (eY n7 hT hk')] at a2
 have p:=qK (Bn (M:=M) (f:=λr=>((bI S k).getD r 0).toNat)) k
 rw [<- Rat.intCast_eq_zero_iff,a2,Rat.mul_eq_zero]
 exact ⟨λh=>h.resolve_left λz=>by rw [z] at p; exact Rat.lt_irrefl p,.inr⟩
theorem yO {m n k S T:Nat} {V:Nat->Nat->Rat} (r7:m<=7) (c7:n<=7) (hS:S < 2 ^ m) (hT:T < 2 ^ n) (hk:k<=(cols 7 S).length) (hk':k<=(cols 7 T).length):mi (qM (mkT m n V)) k (λr=>((bI S k).getD r 0).toNat) (λc=>((bI T k).getD c 0).toNat)=mi V k (λr=>((bI S k).getD r 0).toNat) λc=>((bI T k).getD c 0).toNat:=
 aD λi hi j hj=>tQ (eY r7 hS hk i hi) (eY c7 hT hk' j hj)
theorem Br {m n k S T:Nat} {V:Nat->Nat->Rat} (r7:m<=7) (c7:n<=7) (hS:S < 2 ^ m) (hT:T < 2 ^ n) (hk:k<=(cols 7 S).length) (hk':k<=(cols 7 T).length):mnQ (mkT m n V) (bI S k) (bI T k)=mi V k (λr=>((bI S k).getD r 0).toNat) λc=>((bI T k).getD c 0).toNat:=by
 rw [<- yO r7 c7 hS hT hk hk']
 unfold mnQ mi
 rw [gd r7 hS hk]
noncomputable def vP (m n:Nat) (A B:Nat->Nat->Rat):Prop:=∀ (k:Nat) (ρ γ:Nat->Nat),Inc k ρ->(∀ i,i < k->ρ i < m)->Inc k γ->(∀ i,i < k->γ i < n)->(mi A k ρ γ=0 ↔ mi B k ρ γ=0)
noncomputable def whT (R C:Nat) (V:Nat->Nat->Rat):List (List Int):=whM (mkT R C V) ((mkT R C V).map scL)
noncomputable def mnD (P:Program) (w:World) (R C:Nat) (V:Nat->Nat->Rat):D:=.box (bxW kT hdT P w (mkM (vMn (whT R C V) C) (lks (whT R C V) C R)))
noncomputable def iG (P:Program) (w:World) (ds:List D) (r:Sl):Prop:=∃ (R C:Nat) (f:List Int) (A B:Nat->Nat->Rat) (S T:Nat),ds=[tbD (tb C R f),mnD P w R C A,mnD P w R C B,.tup [.int (S:Nat),.int (T:Nat)]]/\Tb R C f/\vP R C (thK C (mkG C f) (R * C)) A/\vP R C (thK C (mkG C f) (R * C)) B/\1<=S/\S < 2 ^ R/\1<=T/\T < 2 ^ C/\r=.d (.bl true)
theorem xk {S k:Nat} (h:k<=(cols 7 S).length) (j:Nat) (hj:k<=j):(bI S j).take k=bI S k:=by
 unfold bI bt
 rw [<- List.map_take,List.take_take,Nat.min_eq_left hj]
theorem mK:∀ r:List Int,Ev.eQ (r.map D.int)=true/\Ev.fN (r.map D.int)=0
 | []=>by simp [Ev.eQ,Ev.fN]
 | x :: r=>by
   obtain ⟨h1,h2⟩:=mK r
   rw [List.map_cons,Ev.eQ,Ev.fN,h1,h2]
   simp [Ev.cln,Ev.dep]
theorem vJ:∀ m:List (List Int),Ev.eQ (m.map rwD)=true/\Ev.fN (m.map rwD)<=1
 | []=>by simp [Ev.eQ,Ev.fN]
 | x :: r=>by
   obtain ⟨h1,h2⟩:=vJ r
   obtain ⟨h3,h4⟩:=mK x
   rw [List.map_cons,Ev.eQ,Ev.fN,h1,show rwD x=.lst (x.map .int) from rfl,Ev.cln,Ev.dep,h3,h4]
   exact ⟨rfl,by omega⟩
theorem ya (m:List (List Int)) (xs ys:List Int):Ev.eP (.lst [tbD m,.lst (xs.map .int),.lst (ys.map .int)]):=by
 obtain ⟨h1,h2⟩:=vJ m
 obtain ⟨h3,h4⟩:=mK xs
 obtain ⟨h5,h6⟩:=mK ys
 unfold tbD Ev.eP
 simp only [Ev.cln,Ev.dep,Ev.eQ,Ev.fN,h1,h3,h4,h5,h6]
 exact ⟨rfl,by omega⟩
mutual
theorem js:∀ x:D,Ev.eqD x x=true
 | .non=>by rw [Ev.eqD]
 | .bl a=>by simp [Ev.eqD]
 | .int a=>by simp [Ev.eqD]
 | .str a=>by simp [Ev.eqD]
 | .tup xs=>by rw [Ev.eqD]; exact iH xs
 | .lst xs=>by rw [Ev.eqD]; exact iH xs
 | .box x=>by rw [Ev.eqD]
theorem iH:∀ xs:List D,Ev.kc xs xs=true
 | []=>by rw [Ev.kc]
 | x :: xs=>by rw [Ev.kc,js x,iH xs]; rfl
end
theorem q9 (b:Bool):Ev.eP (.bl b):=⟨by simp [Ev.cln],by simp [Ev.dep]⟩
section
variable {P:Program} {w:World} {K:PySem.W.Frag} {mg:Str->Option Value} {base:Heap} {k:Nat} {f:Addr} {fd:FuncData} {qual:Str}
end
theorem sum_mk (L:List Nat):(L.map λx=>((2 ^ x:Nat):Int)).sum=((mkS L:Nat):Int):=by
 unfold mkS
 induction L with
 | nil=>rfl
 | cons x xs ih=>
   rw [List.map_cons,List.sum_cons,List.map_cons,List.sum_cons,ih]
   omega
section
variable {P:Program} {w:World} {K:PySem.W.Frag} {mg:Str->Option Value} {base:Heap} {k:Nat} {f:Addr} {fd:FuncData} {qual:Str}
set_option maxHeartbeats 1000000 in
theorem pO (F:Fun K "_law_asked" qual (top 71) f fd) (hb:∀ x ∈ ah,mg x=none) (c_l_cut:Cal P w K mg base k "_law_cut" nq) (c_stands:Cal P w K mg base k "stands" kq):aN P w K mg base CX0 (k + 1) f fd ["_law_marks","_law_one","_law_other","_law_masks_here"] (spD K (iG P w)):=by
 refine fnD F jO hb (by rintro _ _ ⟨_,_,_,_,_,_,_,rfl,_⟩; rfl) ?_
 rintro _ _ ⟨R,C,g,A,B,S,T,rfl,h,hA,hB,s1,s2,t1,t2,rfl⟩ cdv A' outer s H E b
 have nd:=jO.nd
 have r7:=h.r7
 have c7:=h.c7
 have S8:S < 128:=Nat.lt_of_lt_of_le s2 (Nat.pow_le_pow_right (by decide) r7)
 have T8:T < 128:=Nat.lt_of_lt_of_le t2 (Nat.pow_le_pow_right (by decide) c7)
 have lS:=iJ r7 s2
 have lT:=iJ c7 t2
 have pS:=uW r7 s2 s1
 have pT:=uW c7 t2 t1
 obtain ⟨u,hu⟩:∃ u,u=min (cols 7 S).length (cols 7 T).length:=⟨_,rfl⟩
 have u1:1<=u:=by omega
 have uS:u<=(cols 7 S).length:=by omega
 have uT:u<=(cols 7 T).length:=by omega
 have l7:(bI S 7).length=(cols 7 S).length:=by unfold bI bt; rw [List.length_map,List.length_take]; omega
 have lc:(bI T (bI S 7).length).length=u:=by rw [l7]; unfold bI bt; rw [List.length_map,List.length_take]; omega
 have eT:bI T (bI S 7).length=bI T u:=by
   rw [l7]
   unfold bI bt
   rw [hu]
   refine congrArg _ ?_
   rcases Nat.le_total (cols 7 S).length (cols 7 T).length with z | z
   · rw [Nat.min_eq_left z]
   · rw [Nat.min_eq_right z,List.take_of_length_le z,List.take_of_length_le (Nat.le_refl _)]
 have eS:(bI S 7).take u=bI S u:=xk uS 7 (by omega)
 refine az 4 nd (aS (x_call b c_l_cut (ab (aG (aa 3) ae (aJ (aw (i:=0) rfl))) (ab ae af)) ⟨S,7,rfl,S8,rfl⟩)) ?_
 refine az 5 nd (aS (x_call b c_l_cut (ab (aG (aa 3) ae (aJ (aw (i:=1) rfl))) (ab (a4 b (ab (aa 4) af) (cD (n:=(bI S 7).length) (List.length_map ..))) af)) ⟨T,(bI S 7).length,rfl,T8,rfl⟩)) ?_
 rw [eT]
 have lu:((bI T u).map D.int).length=u:=by rw [List.length_map,<- eT]; exact lc
 refine az 4 nd (aS (x:=.lst ((bI S u).map .int)) (mC (aa 4) hX (cI (a4 b (ab (aa 5) af) (cD (n:=u) lu)))) ?_) ?_
 · show some (D.lst _)=some (D.lst _)
   rw [mI,<- List.map_take,eS]
 have lm:((tb C R g).map rwD).length=R:=by rw [List.length_map,gq]
 refine az 6 nd (aS (x:=.lst [tbD (tb C R g),.lst ((bI S u).map .int),.lst ((bI T u).map .int)]) (cb (ab (aS (x:=tbD (tb C R g)) (bZ (cmp 0 (g:=λi=>rwD ((tb C R g).getD i [])) (f:=λi=>rwD ((tb C R g).getD i [])) b (aR (aa 0)) kZ (by omega) λi hi s0 H0 fp=>(aS (nK (b.comp s0 H0 _ fp) (ab (aa 0) af) iF)))) ?_) (ab (aS (nK b (ab (aa 4) af) iF)) (ab (aS (nK b (ab (aa 5) af) iF)) af)))) rfl) ?_
 · show some (D.lst _)=some (D.lst _)
   rw [df rwD (tb C R g) [] (by rw [List.length_map])]
 refine az 7 nd (x_call b c_stands (ab (aG (aa 6) ae (aU (aw (i:=0) rfl))) (ab (aG (aa 6) ae (aU (aw (i:=1) rfl))) (ab (aG (aa 6) ae (aU (aw (i:=2) rfl))) af))) ⟨R,C,u,g,bI S u,bI T u,rfl,h,vh r7 s2 uS u1,vh c7 t2 uT u1,gd r7 s2 uS,gd c7 t2 uT,by omega,rfl⟩) ?_
 have eh:=ya (tb C R g) (bI S u) (bI T u)
 refine cM (PW.pt (ny (bV (bP (jH .bool b (aa 7)))) λh=>(jX (bf (aa 6) (aS (cb (ab (aa 0) (ab (aa 4) (ab (aa 5) af))))) (BA b eh eh))))) ?_ ?_
 · rw [js]; rfl
 refine az 8 nd (a4 b (ab (aS (x:=.lst (((bt T u).map λx=>((2 ^ x:Nat):Int)).map .int)) (bZ (cmp 0 (g:=λi=>.int ((bI T u).getD i 0)) (f:=λi=>.int ((2 ^ (bt T u).getD i 0:Nat):Int)) b (aR (aa 5)) k5 (by omega) λi hi s0 H0 fp=>?_)) ?_) af) (A8 b.calm _ rfl)) ?_
 · rw [lu] at hi
   have lt:=eY c7 t2 uT i hi
   rw [gG] at lt
   rw [k8]
   have:((2 ^ (bt T u).getD i 0:Nat):Int)=1 * 2 ^ (((bt T u).getD i 0:Nat):Int).toNat:=by rw [Int.toNat_natCast,Int.one_mul,Int.natCast_pow]; rfl
   rw [this]
   exact aB ae (aa 0) (uk ⟨by omega,by omega,by decide⟩)
 · show some (D.lst _)=some (D.lst _)
   refine congrArg (λl=>some (D.lst l)) ?_
   rw [lu,List.map_map]
   have lb:(bt T u).length=u:=by have h:=lu; unfold bI at h; rw [List.length_map,List.length_map] at h; exact h
   exact df (λx:Nat=>D.int ((2 ^ x:Nat):Int)) (bt T u) 0 lb.symm
 rw [sum_mk]
 have kI:∀ V,bI S u ∈ lks (whT R C V) C R:=λV=>xP r7 c7 s2 uS u1 (by omega)
 obtain ⟨v1,g1,z1⟩:=qu (M:=mkT R C A) (iw h.r1 r7 h.c1 c7) s2 t2 uS uT
 obtain ⟨v2,g2,z2⟩:=qu (M:=mkT R C B) (iw h.r1 r7 h.c1 c7) s2 t2 uS uT
 rw [yO r7 c7 s2 t2 uS uT] at z1 z2
 have i1:=mV r7 s2 uS
 have i2:=mV c7 t2 uT
 have y1:=hA u _ _ i1 (eY r7 s2 uS) i2 (eY c7 t2 uT)
 have y2:=hB u _ _ i1 (eY r7 s2 uS) i2 (eY c7 t2 uT)
 rw [Br r7 c7 s2 t2 uS uT]
 refine aK (fS (cO (aa 7) (cO (pB (m:=cf C (lnR (whT R C A) (bI S u))) (Nat.lt_of_le_of_lt (Nat.add_le_add_left (by decide:1<=64) _) b.room.units) (uw (a:=kT) (hd:=hdT) (key:=bI S u) (Nat.lt_of_le_of_lt (Nat.add_le_add_left (by decide:16<=64) _) b.room.units) (aa 1) (nK b (ab (aa 4) af) vt) (jc (kI A)) (iy _) λ_ _=>rfl) (aa 8) g1 gR) ae pg) (yT b (q9 _) (q9 _))) λh=>(fb (cO (aa 7) (cO (pB (m:=cf C (lnR (whT R C B) (bI S u))) (Nat.lt_of_le_of_lt (Nat.add_le_add_left (by decide:1<=64) _) b.room.units) (uw (a:=kT) (hd:=hdT) (key:=bI S u) (Nat.lt_of_le_of_lt (Nat.add_le_add_left (by decide:16<=64) _) b.room.units) (aa 2) (nK b (ab (aa 4) af) vt) (jc (kI B)) (iy _) λ_ _=>rfl) (aa 8) g2 gR) ae pg) (yT b (q9 _) (q9 _))))) ?_
 have e1:decide (mi (thK C (mkG C g) (R * C)) u (λr=>((bI S u).getD r 0).toNat) (λc=>((bI T u).getD c 0).toNat) ≠ 0)=!decide (v1=0):=by
   rw [<- decide_not]
   exact decide_eq_decide.mpr (not_congr (y1.trans z1.symm))
 have e2:decide (mi (thK C (mkG C g) (R * C)) u (λr=>((bI S u).getD r 0).toNat) (λc=>((bI T u).getD c 0).toNat) ≠ 0)=!decide (v2=0):=by
   rw [<- decide_not]
   exact decide_eq_decide.mpr (not_congr (y2.trans z2.symm))
 rw [<- e1,<- e2,js]
 rfl
end
noncomputable def lgr (one:Bool) (rs:List (List Int)):List (List Int):=rs.flatMap λr=>(if one then [r++[0]] else [])++[r++[1]]
noncomputable def smK (cs:List Bool) (first k:Nat):List (List Int):=((cs.drop (first + 1)).take k).foldl (λrs one=>lgr one rs) [List.replicate first 0++[1]]
noncomputable def gH (cs:List Bool) (k:Nat):List (List Int):=List.replicate cs.length 0 :: (List.range k).flatMap λi=>smK cs i cs.length
noncomputable def opts (cs:List Bool):List (List Int):=gH cs cs.length
theorem my (one:Bool):∀ rs,(lgr one rs).length<=2 * rs.length
 | []=>Nat.le_refl _
 | r :: rs=>by
   have:=my one rs
   unfold lgr at this ⊢
   rw [List.flatMap_cons,List.length_append,List.length_cons]
   cases one <;> simp at this ⊢ <;> omega
theorem jw {cs:List Bool} {first k:Nat} (h:k < (cs.drop (first + 1)).length):smK cs first (k + 1)=lgr ((cs.drop (first + 1)).getD k false) (smK cs first k):=by
 unfold smK
 rw [take_snoc false h,List.foldl_append]
 rfl
theorem i9 {cs:List Bool} {first k:Nat} (h:(cs.drop (first + 1)).length<=k):smK cs first k=smK cs first cs.length:=by
 unfold smK
 rw [List.take_of_length_le h,List.take_of_length_le (by rw [List.length_drop]; omega)]
theorem hE (cs:List Bool) (first:Nat):∀ k,(smK cs first k).length<=2 ^ k
 | 0=>by simp [smK]
 | k + 1=>by
   by_cases h:k < (cs.drop (first + 1)).length
   · rw [jw h]
     have:=my ((cs.drop (first + 1)).getD k false) (smK cs first k)
     have:=hE cs first k
     rw [Nat.pow_succ]
     omega
   · rw [i9 (by omega),<- i9 (k:=k) (by omega)]
     have:=hE cs first k
     rw [Nat.pow_succ]
     omega
theorem pe (cs:List Bool) (h:cs.length<=7):∀ k,(gH cs k).length<=1 + k * 128
 | 0=>by simp [gH]
 | k + 1=>by
   have ih:=pe cs h k
   have h1:=hE cs k cs.length
   have h2:2 ^ cs.length<=2 ^ 7:=Nat.pow_le_pow_right (by decide) h
   unfold gH at ih ⊢
   rw [List.range_succ,List.flatMap_append]
   simp at ih ⊢
   omega
theorem sO (cs:List Bool) (k:Nat):gH cs (k + 1)=gH cs k++smK cs k cs.length:=by
 unfold gH
 rw [List.range_succ,List.flatMap_append]
 simp
structure OkR (cs:List Bool) (n:Nat) (r:List Int):Prop where
 len:r.length=n
 at_:∀ j,j < n->r.getD j 0=1\/(r.getD j 0=0/\((∀ j',j' < j->r.getD j' 0=0)\/cs.getD j false=true))
theorem getD_snoc {r:List Int} {x:Int} {j:Nat}:(r++[x]).getD j 0=if j < r.length then r.getD j 0 else if j=r.length then x else 0:=by
 by_cases h:j < r.length
 · rw [if_pos h]; simp [List.getD,List.getElem?_append_left h]
 · rw [if_neg h]
   by_cases e:j=r.length
   · subst e; simp
   · rw [if_neg e]
     simp [List.getD]
     rw [List.getElem?_eq_none (by simp; omega)]
     rfl
theorem OkR.snoc {cs:List Bool} {n:Nat} {r:List Int} {x:Int} (h:OkR cs n r) (hx:x=1\/x=0/\cs.getD n false=true):OkR cs (n + 1) (r++[x]):=by
 refine ⟨by rw [List.length_append,h.len]; rfl,λj hj=>?_⟩
 rw [getD_snoc,h.len]
 by_cases e:j < n
 · rw [if_pos e]
   refine (h.at_ j e).imp id λ⟨z1,z2⟩=>⟨z1,z2.imp (λz j' hj'=>?_) id⟩
   rw [getD_snoc,h.len,if_pos (by omega)]
   exact z j' hj'
 · rw [if_neg e,if_pos (by omega)]
   obtain rfl:j=n:=by omega
   exact hx.imp id λ⟨z1,z2⟩=>⟨z1,.inr z2⟩
theorem OkR.zeros (cs:List Bool) (n:Nat):OkR cs n (List.replicate n 0):=⟨List.length_replicate,λj hj=>.inr ⟨by simp [hj],.inl λj' hj'=>by simp [(by omega:j' < n)]⟩⟩
theorem pL (cs:List Bool) (first:Nat):∀ k,first + 1 + k<=cs.length->∀ r ∈ smK cs first k,OkR cs (first + 1 + k) r
 | 0,_,r,hr=>by
   simp [smK] at hr
   subst hr
   exact (OkR.zeros cs first).snoc (.inl rfl)
 | k + 1,hk,r,hr=>by
   have hl:k < (cs.drop (first + 1)).length:=by rw [List.length_drop]; omega
   rw [jw hl] at hr
   unfold lgr at hr
   rw [List.mem_flatMap] at hr
   obtain ⟨r0,h0,h1⟩:=hr
   have ih:=pL cs first k (by omega) r0 h0
   have ec:(cs.drop (first + 1)).getD k false=cs.getD (first + 1 + k) false:=by simp [List.getD,List.getElem?_drop]
   rw [ec] at h1
   rcases List.mem_append.mp h1 with z | z
   · cases hc:cs.getD (first + 1 + k) false with
     | false=>rw [hc] at z; simp at z
     | true=>
       rw [hc] at z
       simp at z
       subst z
       exact ih.snoc (.inr ⟨rfl,hc⟩)
   · simp at z
     subst z
     exact ih.snoc (.inl rfl)
theorem wN (cs:List Bool) (r:List Int) (h:r ∈ opts cs):OkR cs cs.length r:=by
 unfold opts gH at h
 rcases List.mem_cons.mp h with rfl | h
 · exact OkR.zeros cs cs.length
 · rw [List.mem_flatMap] at h
   obtain ⟨i,h1,h2⟩:=h
   rw [List.mem_range] at h1
   rw [<- i9 (k:=cs.length - (i + 1)) (by rw [List.length_drop]; exact Nat.le_refl _)] at h2
   have:=pL cs i (cs.length - (i + 1)) (by omega) r h2
   rwa [show i + 1 + (cs.length - (i + 1))=cs.length by omega] at this
noncomputable def fm (ds:List D) (r:Sl):Prop:=∃ cs:List Bool,ds=[.lst (cs.map .bl)]/\cs.length<=7/\r=.d (tbD (opts cs))
theorem Cr {bs:List Bool} (i:Nat) (h:i < (bs.map D.bl).length):(bs.map D.bl)[i]=.bl (bs.getD i false):=by
 have:i < bs.length:=by simpa using h
 simp [this]
theorem kr {xs:List D} (m:Nat):Hy.cutD xs (some (m:Int)) none=xs.drop m:=by
 unfold Hy.cutD
 rw [HT.ja,HT.ot]
 rcases Nat.le_total m xs.length with h | h
 · rw [Nat.min_eq_left h,List.take_of_length_le (by rw [List.length_drop]; exact Nat.le_refl _)]
 · rw [Nat.min_eq_right h,List.drop_of_length_le (Nat.le_refl _),List.drop_of_length_le h,List.take_nil]
theorem wq {α:Type} (n:Nat) (x:α):(List.range n).map (λ_=>x)=List.replicate n x:=by
 refine List.ext_getElem (by simp) λi h1 h2=>by simp
section
variable {P:Program} {w:World} {K:PySem.W.Frag} {mg:Str->Option Value} {base:Heap} {k:Nat} {f:Addr} {fd:FuncData} {qual:Str}
theorem mf (F:Fun K "_law_options" qual (top 66) f fd) (hb:∀ x ∈ ah,mg x=none):aN P w K mg base CX0 (k + 1) f fd ["_law_clear"] (spD K fm):=by
 refine fnD F gM hb (by rintro _ _ ⟨_,rfl,_⟩; rfl) ?_
 rintro _ _ ⟨cs,rfl,h7,rfl⟩ cdv A outer s H E b
 have nd:=gM.nd
 have lc:(cs.map D.bl).length=cs.length:=List.length_map ..
 refine az 1 nd (aS (cb (ab (aS (bZ (cmp 0 (f:=λ_=>.int 0) b (aR (aa 0)) Cr (by omega) λi hi s0 H0 fp=>ae))) af))) ?_
 refine bE 2 (λi τ=>∃ s2 s3 s4 s5 s6,τ=[.d (.lst (cs.map .bl)),.d (tbD (gH cs i)),s2,s3,s4,s5,s6]) b nd (cH b (a4 b (ab (aa 0) af) eG) (by omega) (by omega)) cE ⟨.un,.un,.un,.un,.un,?_⟩ (λi hi τ h=>?_) λτ h=>?_
 · show [_,Sl.d (.lst [.lst ((List.range (cs.map D.bl).length).map λ_=>.int 0)]),_,_,_,_,_]=_
   rw [lc,wq]
   unfold tbD gH rwD
   simp
 · obtain ⟨s2,s3,s4,s5,s6,rfl⟩:=h
   have hi:i < cs.length:=by rw [av] at hi; omega
   refine az 3 nd (aS (cb (ab (aS (k9 (aS (bZ (cmp 0 (f:=λ_=>.int 0) b (cH b (aa 2) (by omega) (by omega)) cE (by rw [av]; omega) λi hi s0 H0 fp=>ae))) (aS (cb (ab ae af))) ?_)) af))) ?_
   · rw [List.length_map,List.length_range,av]; show _ + 1 < _; omega
   refine bE 4 (g:=λj=>.bl ((cs.drop (i + 1)).getD j false)) (λj τ=>∃ s4 s5 s6,τ=[.d (.lst (cs.map .bl)),.d (tbD (gH cs i)),.d (.int (i:Nat)),.d (tbD (smK cs i j)),s4,s5,s6]) b nd (aR (aS (mC (aa 0) (cI (aB (aa 2) ae bD)) hX))) ?_ ⟨s4,s5,s6,?_⟩ (λj hj τ h=>?_) λτ h=>?_
   · intro j hj
     simp only [show (i:Int) + 1=((i + 1:Nat):Int) by omega,kr,<- List.map_drop] at hj ⊢
     exact Cr j hj
   · show [_,_,_,Sl.d (.lst [.lst (((List.range (fP 0 ((i:Int)).toNat).length).map λ_=>.int 0)++[.int 1])]),_,_,_]=_
     rw [av,wq,Int.toNat_natCast]
     unfold tbD smK rwD
     simp
   · obtain ⟨s4,s5,s6,rfl⟩:=h
     have hj:j < (cs.drop (i + 1)).length:=by rw [show (i:Int) + 1=((i + 1:Nat):Int) by omega,kr,<- List.map_drop,List.length_map] at hj; exact hj
     have hj7:j < 7:=by rw [List.length_drop] at hj; omega
     have l2:=hE cs i j
     have l3:2 ^ j<=2 ^ 7:=Nat.pow_le_pow_right (by decide) (by omega)
     have ll:∀ rs,(lgr ((cs.drop (i + 1)).getD j false) rs).length<=2 * rs.length:=my _
     have i0:∀ l,l < (smK cs i j).length->((smK cs i j).getD l []).length<=7:=λl hl=>by
       have:=pL cs i j (by rw [List.length_drop] at hj; omega) ((smK cs i j).getD l []) (by simp [hl])
       rw [this.len]
       rw [List.length_drop] at hj
       omega
     refine az 5 nd (cb af) ?_
     refine bE 6 (g:=λl=>rwD ((smK cs i j).getD l [])) (λl τ=>∃ s6,τ=[.d (.lst (cs.map .bl)),.d (tbD (gH cs i)),.d (.int (i:Nat)),.d (tbD (smK cs i j)),.d (.bl ((cs.drop (i + 1)).getD j false)),.o ((lgr ((cs.drop (i + 1)).getD j false) ((smK cs i j).take l)).map rwD),s6]) b nd (aR (aa 3)) kZ ⟨s6,rfl⟩ (λl hl τ h=>?_) λτ h=>?_
     · obtain ⟨s6,rfl⟩:=h
       have hl:l < (smK cs i j).length:=by simpa using hl
       have rl:=i0 l hl
       have lt:=ll ((smK cs i j).take l)
       rw [List.length_take] at lt
       have step:lgr ((cs.drop (i + 1)).getD j false) ((smK cs i j).take (l + 1))=lgr ((cs.drop (i + 1)).getD j false) ((smK cs i j).take l)++((if (cs.drop (i + 1)).getD j false then [(smK cs i j).getD l []++[0]] else [])++[(smK cs i j).getD l []++[1]]):=by
         rw [take_snoc [] hl]
         unfold lgr
         rw [List.flatMap_append]
         simp
       have cat:∀ x:Int,rwD ((smK cs i j).getD l []++[x])=.lst (((smK cs i j).getD l []).map D.int++[D.int x]):=λx=>by unfold rwD; rw [List.map_append]; rfl
       refine jK (M:=λτ=>τ=[.d (.lst (cs.map .bl)),.d (tbD (gH cs i)),.d (.int (i:Nat)),.d (tbD (smK cs i j)),.d (.bl ((cs.drop (i + 1)).getD j false)),.o ((lgr ((cs.drop (i + 1)).getD j false) ((smK cs i j).take l)++(if (cs.drop (i + 1)).getD j false then [(smK cs i j).getD l []++[0]] else [])).map rwD),.d (rwD ((smK cs i j).getD l []))]) (bP (aa 4)) (λh=>?_) (λh=>?_) λτ h=>?_
       · refine kX 5 (aS (k9 (aa 6) (aS (cb (ab ae af))) ?_)) ?_ (aM ?_)
         · rw [List.length_map]; show _ + 1 < _; omega
         · rw [List.length_map]; omega
         · rw [h,if_pos rfl,List.map_append,List.map_singleton,cat]
           rfl
       · refine aM ?_
         rw [h,if_neg Bool.false_ne_true,List.append_nil]
         rfl
       subst h
       refine kX 5 (aS (k9 (aa 6) (aS (cb (ab ae af))) ?_)) ?_ (aM ?_)
       · rw [List.length_map]; show _ + 1 < _; omega
       · rw [List.length_map,List.length_append]
         have:(if (cs.drop (i + 1)).getD j false then [(smK cs i j).getD l []++[(0:Int)]] else []).length<=1:=by split <;> simp
         omega
       · refine ⟨.d (rwD ((smK cs i j).getD l [])),?_⟩
         rw [step,<- List.append_assoc,List.map_append (l₂:=[_++[1]]),List.map_singleton,cat]
         rfl
     · obtain ⟨s6,rfl⟩:=h
       refine Az 5 ?_
       refine az 3 nd (aa 5) (aM ⟨.d (.bl ((cs.drop (i + 1)).getD j false)),.d (tbD (smK cs i (j + 1))),s6,?_⟩)
       rw [jw hj,List.length_map,List.take_of_length_le (Nat.le_refl _)]
       rfl
   · obtain ⟨s4,s5,s6,rfl⟩:=h
     have l1:=pe cs h7 i
     have l2:=hE cs i cs.length
     have l3:2 ^ cs.length<=2 ^ 7:=Nat.pow_le_pow_right (by decide) h7
     have ej:(Hy.cutD (cs.map D.bl) (some ((i:Int) + 1)) none).length=(cs.drop (i + 1)).length:=by rw [show (i:Int) + 1=((i + 1:Nat):Int) by omega,kr,<- List.map_drop,List.length_map]
     rw [ej,i9 (Nat.le_refl _)]
     refine az 1 nd (aS (k9 (aa 1) (aa 3) ?_)) (aM ⟨.d (.int (i:Nat)),.d (tbD (smK cs i cs.length)),s4,s5,s6,?_⟩)
     · rw [List.length_map,List.length_map]; omega
     · rw [sO]
       unfold tbD
       rw [List.map_append]
       rfl
 · obtain ⟨s2,s3,s4,s5,s6,rfl⟩:=h
   refine aK (aa 1) ?_
   rw [av,lc,Int.toNat_natCast]
   rfl
end
noncomputable def pick (cs:List Bool) (p:Int):List Int:=(opts cs).getD (p.fmod ((opts cs).length:Nat)).toNat []
noncomputable def stS (ps:List Int) (C:Nat):Nat->List (List Int) × List Bool
 | 0=>([],List.replicate C true)
 | i + 1=>((stS ps C i).1++[pick (stS ps C i).2 (ps.getD i 0)],(List.range C).map λj=>(stS ps C i).2.getD j false && decide ((pick (stS ps C i).2 (ps.getD i 0)).getD j 0=0))
theorem oU (cs:List Bool):0 < (opts cs).length:=by simp [opts,gH]
theorem qV (cs:List Bool) (p:Int):0<=p.fmod ((opts cs).length:Nat)/\(p.fmod ((opts cs).length:Nat)).toNat < (opts cs).length:=by
 have h:=oU cs
 have h1:=Int.fmod_nonneg_of_pos p (b:=((opts cs).length:Nat)) (by omega)
 have h2:=Int.fmod_lt_of_pos p (b:=((opts cs).length:Nat)) (by omega)
 exact ⟨h1,by omega⟩
theorem rK (cs:List Bool) (p:Int):OkR cs cs.length (pick cs p):=wN cs _ (by
 have:=(qV cs p).2
 unfold pick
 simp [this])
structure StI (C i:Nat) (ms:List (List Int)) (cs:List Bool):Prop where
 n:ms.length=i
 c:cs.length=C
 row:∀ l,l < i->(ms.getD l []).length=C
 ok:∀ l,l < i->∀ j,j < C->(ms.getD l []).getD j 0=1\/((ms.getD l []).getD j 0=0/\((∀ j',j' < j->(ms.getD l []).getD j' 0=0)\/∀ l',l' < l->(ms.getD l' []).getD j 0=0))
 clr:∀ j,j < C->cs.getD j false=true->∀ l,l < i->(ms.getD l []).getD j 0=0
theorem ky {ms:List (List Int)} {r:List Int} {l:Nat}:(ms++[r]).getD l []=if l < ms.length then ms.getD l [] else if l=ms.length then r else []:=by
 by_cases h:l < ms.length
 · rw [if_pos h]; simp [List.getD,List.getElem?_append_left h]
 · rw [if_neg h]
   by_cases e:l=ms.length
   · subst e; simp
   · rw [if_neg e]
     simp [List.getD]
     rw [List.getElem?_eq_none (by simp; omega)]
     rfl
theorem mY (ps:List Int) (C:Nat):∀ i,StI C i (stS ps C i).1 (stS ps C i).2
 | 0=>⟨rfl,List.length_replicate,λ_ h=>absurd h (by omega),λ_ h=>absurd h (by omega),λ_ _ _ _ h=>absurd h (by omega)⟩
 | i + 1=>by
   have ih:=mY ps C i
   have hp:=rK (stS ps C i).2 (ps.getD i 0)
   rw [ih.c] at hp
   rw [stS]
   simp only
   have old:∀ l,l < i->((stS ps C i).1++[pick (stS ps C i).2 (ps.getD i 0)]).getD l []=(stS ps C i).1.getD l []:=λl hl=>by rw [ky,if_pos (by rw [ih.n]; exact hl)]
   have new:((stS ps C i).1++[pick (stS ps C i).2 (ps.getD i 0)]).getD i []=pick (stS ps C i).2 (ps.getD i 0):=by rw [ky,ih.n,if_neg (Nat.lt_irrefl _),if_pos rfl]
   refine ⟨by rw [List.length_append,ih.n]; rfl,by simp,λl hl=>?_,λl hl j hj=>?_,λj hj hc l hl=>?_⟩
   · by_cases e:l < i
     · rw [old l e]; exact ih.row l e
     · obtain rfl:l=i:=by omega
       rw [new]; exact hp.len
   · by_cases e:l < i
     · rw [old l e]
       refine (ih.ok l e j hj).imp id λ⟨z1,z2⟩=>⟨z1,z2.imp id λz l' hl'=>?_⟩
       rw [old l' (by omega)]
       exact z l' hl'
     · obtain rfl:l=i:=by omega
       rw [new]
       refine (hp.at_ j hj).imp id λ⟨z1,z2⟩=>⟨z1,z2.imp id λz l' hl'=>?_⟩
       rw [old l' hl']
       exact ih.clr j hj z l' hl'
   · have hc:((stS ps C i).2.getD j false && decide ((pick (stS ps C i).2 (ps.getD i 0)).getD j 0=0))=true:=by rw [<- hc]; simp [hj]
     rw [Bool.and_eq_true] at hc
     by_cases e:l < i
     · rw [old l e]; exact ih.clr j hj hc.1 l e
     · obtain rfl:l=i:=by omega
       rw [new]; exact of_decide_eq_true hc.2
theorem yd (C q:Nat) (r g:List Int) (h:r.length=C):tb C (q + 1) (r++g)=r :: tb C q g:=by
 unfold tb
 rw [List.range_succ_eq_map,List.map_cons,List.map_map]
 congr 1
 · rw [Nat.zero_mul,List.drop_zero,<- h,List.take_left]
 · refine List.map_congr_left λi _=>?_
   show ((r++g).drop ((i + 1) * C)).take C=_
   rw [Nat.succ_mul,<- h,Nat.add_comm,<- List.drop_drop,List.drop_left]
theorem rS (C:Nat):∀ ms:List (List Int),(∀ l,l < ms.length->(ms.getD l []).length=C)->tb C ms.length ms.flatten=ms/\ms.flatten.length=ms.length * C
 | [],_=>⟨rfl,by simp⟩
 | r :: ms,h=>by
   obtain ⟨i1,i2⟩:=rS C ms λl hl=>by simpa using h (l + 1) (by simpa using hl)
   have h0:r.length=C:=h 0 (by simp)
   rw [List.flatten_cons,List.length_cons,yd C _ r _ h0,i1,List.length_append,i2,h0,Nat.succ_mul]
   exact ⟨rfl,Nat.add_comm _ _⟩
noncomputable def stF (c:Int) (R C:Nat):List Int:=(stS (nums c (List.replicate R 5040)) C R).1.flatten
theorem uO (c:Int) (R C:Nat):tb C R (stF c R C)=(stS (nums c (List.replicate R 5040)) C R).1/\(stF c R C).length=R * C:=by
 have h:=mY (nums c (List.replicate R 5040)) C R
 have:=rS C (stS (nums c (List.replicate R 5040)) C R).1 λl hl=>h.row l (by rw [<- h.n]; exact hl)
 rw [h.n] at this
 exact this
theorem A1 (c:Int) {R C:Nat} (r1:1<=R) (r7:R<=7) (c1:1<=C) (c7:C<=7):Tb R C (stF c R C):=by
 obtain ⟨e1,e2⟩:=uO c R C
 have h:=mY (nums c (List.replicate R 5040)) C R
 have get:∀ {l j:Nat},l < R->j < C->(stF c R C).getD (l * C + j) 0=((stS (nums c (List.replicate R 5040)) C R).1.getD l []).getD j 0:=λhl hj=>by rw [<- gm hl hj,e1]
 refine ⟨r1,r7,c1,c7,e2,λ{i j} hi hj=>?_⟩
 rw [get hi hj]
 refine (h.ok _ hi _ hj).imp id λ⟨z1,z2⟩=>⟨z1,λ⟨⟨j',y1,y2⟩,⟨i',y3,y4⟩⟩=>?_⟩
 rw [get hi (by omega)] at y2
 rw [get (by omega) hj] at y4
 rcases z2 with z | z
 · rw [z j' y1] at y2; omega
 · rw [z i' y3] at y4; omega
noncomputable def iE (ds:List D) (r:Sl):Prop:=∃ (c:Int) (R C:Nat),ds=[.int c,.int R,.int C]/\1<=R/\R<=7/\1<=C/\C<=7/\r=.d (tbD (tb C R (stF c R C)))
theorem zR {bs:List Bool} {ms:List Int} (i:Nat) (h:i < (ek (bs.map D.bl) (ms.map D.int)).length):(ek (bs.map D.bl) (ms.map D.int))[i]=.tup [.bl (bs.getD i false),.int (ms.getD i 0)]:=by
 rw [mW]
 rw [bJ,List.length_map,List.length_map] at h
 simp [show i < bs.length by omega,show i < ms.length by omega]
section
variable {P:Program} {w:World} {K:PySem.W.Frag} {mg:Str->Option Value} {base:Heap} {k:Nat} {f:Addr} {fd:FuncData} {qual:Str}
theorem p7 (F:Fun K "_law_stair" qual (top 67) f fd) (hb:∀ x ∈ ah,mg x=none) (c_l_numbers:Cal P w K mg base k "_law_numbers" bW) (c_l_options:Cal P w K mg base k "_law_options" fm):aN P w K mg base CX0 (k + 1) f fd ["_law_cell_here","_law_many","_law_wide"] (spD K iE):=by
 refine fnD F ko hb (by rintro _ _ ⟨_,_,_,rfl,_⟩; rfl) ?_
 rintro _ _ ⟨c,R,C,rfl,r1,r7,c1,c7,rfl⟩ cdv A outer s H E b
 have nd:=ko.nd
 have lr:∀ n:Nat,(fP 0 ((n:Int)).toNat).length=n:=λn=>by rw [av,Int.toNat_natCast]
 have ln:(nums c (List.replicate R 5040)).length=R:=by rw [fB,List.length_replicate]
 refine az 3 nd (cb af) ?_
 refine iz 4 nd (cmp 0 (f:=λ_=>.bl true) b (cH b (aa 2) (by omega) (by omega)) cE (by rw [lr]; omega) λi hi s0 H0 fp=>tN) (.inr rfl) ?_
 refine bE 5 (g:=λi=>.int ((nums c (List.replicate R 5040)).getD i 0)) (λi τ=>∃ s5 s6 s7,τ=[.d (.int c),.d (.int R),.d (.int C),.o ((stS (nums c (List.replicate R 5040)) C i).1.map rwD),.d (.lst ((stS (nums c (List.replicate R 5040)) C i).2.map .bl)),s5,s6,s7]) b nd (aR (aS (x_call b c_l_numbers (ab (aa 0) (ab (aS (bZ (cmp 0 (f:=λ_=>.int 5040) b (cH b (aa 1) (by omega) (by omega)) cE (by rw [lr]; omega) λi hi s0 H0 fp=>ae))) af)) ⟨c,List.replicate R 5040,?_,?_,?_,rfl⟩))) k5 ⟨.un,.un,.un,?_⟩ (λi hi τ h=>?_) λτ h=>?_
 · rw [lr,wq,List.map_replicate]
 · rw [List.length_replicate]; omega
 · intro x hx
   rw [List.eq_of_mem_replicate hx]
   exact wB (by decide) (by decide)
 · rw [lr,wq]
   simp [stS]
   rfl
 · obtain ⟨s5,s6,s7,rfl⟩:=h
   have hi:i < R:=by rw [List.length_map,ln] at hi; exact hi
   have st:=mY (nums c (List.replicate R 5040)) C i
   have pl:=qV (stS (nums c (List.replicate R 5040)) C i).2 ((nums c (List.replicate R 5040)).getD i 0)
   have po:=rK (stS (nums c (List.replicate R 5040)) C i).2 ((nums c (List.replicate R 5040)).getD i 0)
   rw [st.c] at po
   have op:=oU (stS (nums c (List.replicate R 5040)) C i).2
   refine az 6 nd (x_call b c_l_options (ab (aa 4) af) ⟨_,rfl,by rw [st.c]; exact c7,rfl⟩) ?_
   refine az 7 nd (aG (aa 6) (aB (aa 5) (a4 b (ab (aa 6) af) eG) (eF ?_)) (aU (iu ?_ ?_))) ?_
   · rw [List.length_map]; omega
   · rw [List.length_map]; exact pl.1
   · rw [List.length_map]; exact pl.2
   rw [List.length_map]
   refine kX 3 (aa 7) ?_ ?_
   · rw [List.length_map,st.n]; omega
   refine iz 4 nd (yi 0 1 (f:=λj=>.bl ((stS (nums c (List.replicate R 5040)) C i).2.getD j false && decide ((pick (stS (nums c (List.replicate R 5040)) C i).2 ((nums c (List.replicate R 5040)).getD i 0)).getD j 0=0))) b (rj b (aa 4) (aa 7)) zR ?_ λi hi s0 H0 fp=>(fS (aa 0) λh=>(fb (cO (aa 1) ae gN)))) (.inr rfl) (aM ?_)
   · rw [bJ,List.length_map,List.length_map]; show min _ (pick _ _).length < _; rw [po.len]; omega
   · refine ⟨.d (.int ((nums c (List.replicate R 5040)).getD i 0)),.d (tbD (opts (stS (nums c (List.replicate R 5040)) C i).2)),.d (rwD (pick (stS (nums c (List.replicate R 5040)) C i).2 ((nums c (List.replicate R 5040)).getD i 0))),?_⟩
     have ez:(ek ((stS (nums c (List.replicate R 5040)) C i).2.map D.bl) ((pick (stS (nums c (List.replicate R 5040)) C i).2 ((nums c (List.replicate R 5040)).getD i 0)).map D.int)).length=C:=by rw [bJ,List.length_map,List.length_map,po.len,st.c,Nat.min_self]
     rw [stS]
     simp only [List.map_append,List.map_map]
     show [_,_,_,_,Sl.d (.lst ((List.range (ek ((stS (nums c (List.replicate R 5040)) C i).2.map D.bl) ((pick (stS (nums c (List.replicate R 5040)) C i).2 ((nums c (List.replicate R 5040)).getD i 0)).map D.int)).length).map _)),_,_,_]=_
     rw [ez]
     rfl
 · obtain ⟨s5,s6,s7,rfl⟩:=h
   refine Az 3 (aK (aa 3) ?_)
   rw [List.length_map,ln,(uO c R C).1]
   rfl
end
noncomputable def szP (c:Int):List Int:=nums c [8,4,4,7,7]
noncomputable def szR (c:Int):Nat:=(1 + (if (szP c).getD 0 0=1 then (szP c).getD 3 0 else (szP c).getD 1 0)).toNat
noncomputable def szC (c:Int):Nat:=(1 + (if (szP c).getD 0 0=1 then (szP c).getD 4 0 else (szP c).getD 2 0)).toNat
theorem fu (c:Int) {i:Nat} (h:i < 5):0<=(szP c).getD i 0/\(szP c).getD i 0 < [8,4,4,7,7].getD i 0:=i8 (c:=c) (bs:=[8,4,4,7,7]) (by decide) h
theorem BQ (c:Int):1<=szR c/\szR c<=7/\1<=szC c/\szC c<=7:=by
 have h1:=fu c (i:=1) (by decide)
 have h2:=fu c (i:=2) (by decide)
 have h3:=fu c (i:=3) (by decide)
 have h4:=fu c (i:=4) (by decide)
 have e1:([8,4,4,7,7]:List Int).getD 1 0=4:=rfl
 have e2:([8,4,4,7,7]:List Int).getD 2 0=4:=rfl
 have e3:([8,4,4,7,7]:List Int).getD 3 0=7:=rfl
 have e4:([8,4,4,7,7]:List Int).getD 4 0=7:=rfl
 unfold szR szC
 split <;> omega
noncomputable def jh (ds:List D) (r:Sl):Prop:=∃ c:Int,ds=[.int c]/\r=.d (.tup [.int (szR c:Nat),.int (szC c:Nat)])
section
variable {P:Program} {w:World} {K:PySem.W.Frag} {mg:Str->Option Value} {base:Heap} {k:Nat} {f:Addr} {fd:FuncData} {qual:Str}
theorem sC (F:Fun K "_law_size" qual (top 58) f fd) (hb:∀ x ∈ ah,mg x=none) (c_l_numbers:Cal P w K mg base k "_law_numbers" bW):aN P w K mg base CX0 (k + 1) f fd ["_law_cell_here"] (spD K jh):=by
 refine fnD F lM hb (by rintro _ _ ⟨_,rfl,_⟩; rfl) ?_
 rintro _ _ ⟨c,rfl,rfl⟩ cdv A outer s H E b
 have nd:=lM.nd
 refine az 1 nd (aS (x_call b c_l_numbers (ab (aa 0) (ab (aS (cb (ab ae (ab ae (ab ae (ab ae (ab ae af))))))) af)) ⟨c,[8,4,4,7,7],rfl,by decide,λx hx=>?_,rfl⟩)) ?_
 · have:0 < x/\x < 9:=by
     simp only [List.mem_cons,List.not_mem_nil,or_false] at hx
     omega
   exact wB this.1 (by omega)
 have ln:(szP c).length=5:=fB c _
 have at_:∀ i:Nat,i < 5->atI ((szP c).map D.int) (i:Int)=some (.int ((szP c).getD i 0)):=λi hi=>atR (by rw [ln]; exact hi)
 have h1:=fu c (i:=1) (by decide)
 have h2:=fu c (i:=2) (by decide)
 have h3:=fu c (i:=3) (by decide)
 have h4:=fu c (i:=4) (by decide)
 refine eZ (bf (aG (aa 1) ae (aU (at_ 0 (by decide)))) ae gN) (λh=>?_) λh=>?_
 · refine aK (cC (ab (aB ae (aG (aa 1) ae (aU (at_ 3 (by decide)))) bD) (ab (aB ae (aG (aa 1) ae (aU (at_ 4 (by decide)))) bD) af))) ?_
   have h:=of_decide_eq_true h
   have e1:((szR c:Nat):Int)=1 + (szP c).getD 3 0:=by unfold szR; rw [if_pos h]; omega
   have e2:((szC c:Nat):Int)=1 + (szP c).getD 4 0:=by unfold szC; rw [if_pos h]; omega
   rw [e1,e2]
 · refine aK (cC (ab (aB ae (aG (aa 1) ae (aU (at_ 1 (by decide)))) bD) (ab (aB ae (aG (aa 1) ae (aU (at_ 2 (by decide)))) bD) af))) ?_
   have h:=of_decide_eq_false h
   have e1:((szR c:Nat):Int)=1 + (szP c).getD 1 0:=by unfold szR; rw [if_neg h]; omega
   have e2:((szC c:Nat):Int)=1 + (szP c).getD 2 0:=by unfold szC; rw [if_neg h]; omega
   rw [e1,e2]
end
noncomputable def r9 (ds:List D) (r:Sl):Prop:=∃ ns:List Int,ns.length<=63/\ds=[.lst (ns.map .int)]/\r=.d (.bl true)
noncomputable def nuV (c:Int) (R C:Nat) (f:List Int):Nat->Nat->Rat:=thK C (nuG (decide (16 < R * C)) f (soP c (R * C)) C) (R * C)
theorem pN {c:Int} {R C:Nat} {f:List Int} (t:Tb R C f):∀ r ∈ mkT R C (nuV c R C f),∀ x ∈ r,Qs 97 110 x:=λr hr x hx=>by
 unfold mkT at hr
 obtain ⟨i,hi,rfl⟩:=List.mem_map.mp hr
 obtain ⟨j,hj,rfl⟩:=List.mem_map.mp hx
 exact (qt t (R * C) (Nat.le_refl _) i (List.mem_range.mp hi)).qs (List.mem_range.mp hj)
theorem nZ {c:Int} {R C:Nat} {f:List Int} (t:Tb R C f):vP R C (thK C (mkG C f) (R * C)) (nuV c R C f):=λk ρ γ h1 h2 h3 h4=>((CC (big:=decide (16 < R * C)) t (ps:=soP c (R * C)) λi=>mw.1).sp R (Nat.le_refl _) k ρ γ h1 h2 h3 h4).2.2
theorem BX (ns:List Int):cutD (ns.map D.int) (some 5) (some 17)=((ns.take 17).drop 5).map D.int:=by
 have:=Hy.qD (xs:=ns.map D.int) 5 17
 rw [List.map_drop,List.map_take]
 exact this
section
variable {P:Program} {w:World} {K:PySem.W.Frag} {mg:Str->Option Value} {base:Heap} {k:Nat} {f:Addr} {fd:FuncData} {qual:Str}
set_option maxHeartbeats 1000000 in
theorem AD (F:Fun K "law" qual (top 72) f fd) (hb:∀ x ∈ ah,mg x=none) (c_l_size:Cal P w K mg base k "_law_size" jh) (c_l_stair:Cal P w K mg base k "_law_stair" iE) (c_l_minors:Cal P w K mg base k "_law_minors" (gu P w)) (c_l_cell:Cal P w K mg base k "_law_cell" j4) (c_l_masks:Cal P w K mg base k "_law_masks" il) (c_l_rows:Cal P w K mg base k "_law_rows" jY) (c_l_thick:Cal P w K mg base k "_law_thick" ig) (c_l_asked:Cal P w K mg base k "_law_asked" (iG P w)) (c_l_numbered:Cal P w K mg base k "_law_numbered" ee):aN P w K mg base CX0 (k + 1) f fd ["_law_script"] (spD K r9):=by
 refine fnD F vK hb (by rintro _ _ ⟨_,_,rfl,_⟩; rfl) ?_
 rintro _ _ ⟨ns,hn,rfl,rfl⟩ cdv A outer s H E b
 have nd:=vK.nd
 obtain ⟨r1,r7,c1,c7⟩:=BQ (ns.getD 0 0)
 refine AO (x_call b c_l_size (ab (x_call b c_l_cell (ab (aa 0) (ab ae af)) ⟨ns,0,rfl,rfl⟩) af) ⟨_,rfl,rfl⟩) (A6 b.calm (rR 1 nd (rR 2 nd AB))) ?_
 show PSs _ _ (dS K [.d (.lst (ns.map .int)),.d (.int (szR (ns.getD 0 0):Nat)),.d (.int (szC (ns.getD 0 0):Nat)),.un,.un,.un,.un,.un,.un] _)
 generalize szR (ns.getD 0 0)=R at *
 generalize szC (ns.getD 0 0)=C at *
 refine az 3 nd (x_call b c_l_stair (ab (x_call b c_l_cell (ab (aa 0) (ab ae af)) ⟨ns,1,rfl,rfl⟩) (ab (aa 1) (ab (aa 2) af))) ⟨ns.getD 1 0,R,C,rfl,r1,r7,c1,c7,rfl⟩) ?_
 have t:=A1 (ns.getD 1 0) r1 r7 c1 c7
 generalize stF (ns.getD 1 0) R C=g at t ⊢
 have ex:∀ V,fzD (.n (.t [oB (whT R C V),.d (.int (prZ ((mkT R C V).map scL)))]))=some (.tup [.lst ((whT R C V).map dtR),.int (prZ ((mkT R C V).map scL))]):=λV=>by
   show some (D.tup [ndD (oB _),_])=_
   rw [AK]
   rfl
 have tq:=λV=>iw (G:=V) r1 r7 c1 c7
 have rc:C * 97<=7 * 97:=Nat.mul_le_mul c7 (Nat.le_refl _)
 have ok:=λc=>rw_ok (tq (nuV c R C g)) (pN t) (by omega)
 have one:∀ {τ:List Sl} (j:Nat) (e0:τ[0]?=some (.d (.lst (ns.map .int)))) (e3:τ[3]?=some (.d (tbD (tb C R g)))),True:=λ_ _ _=>trivial
 refine az 4 nd (x_call b c_l_minors (ab (aG (aS (x_call b c_l_rows (ab (aS (x:=tbQ (mkT R C (nuV (ns.getD 2 0) R C g))) (x_call b c_l_thick (ab (aS (x:=tbQ (nuM (ns.getD 2 0) R C g)) (x_call b c_l_numbered (ab (aa 3) (ab (x_call b c_l_cell (ab (aa 0) (ab ae af)) ⟨ns,2,rfl,rfl⟩) af)) ⟨ns.getD 2 0,R,C,g,rfl,t,rfl⟩) rfl) af) ⟨R,C,96,110,_,rfl,r1,r7,c1,c7,qt t,by decide,rfl⟩) (congrArg some (pE _))) af) ⟨R,C,97,110,_,rfl,tq _,pN t,by omega,by omega,rfl⟩) (ex _)) ae (aJ (aw (i:=0) rfl))) af) ⟨_,_,_,_,rfl,ok _,rfl⟩) ?_
 refine az 5 nd (x_call b c_l_minors (ab (aG (aS (x_call b c_l_rows (ab (aS (x:=tbQ (mkT R C (nuV (ns.getD 3 0) R C g))) (x_call b c_l_thick (ab (aS (x:=tbQ (nuM (ns.getD 3 0) R C g)) (x_call b c_l_numbered (ab (aa 3) (ab (x_call b c_l_cell (ab (aa 0) (ab ae af)) ⟨ns,3,rfl,rfl⟩) af)) ⟨ns.getD 3 0,R,C,g,rfl,t,rfl⟩) rfl) af) ⟨R,C,96,110,_,rfl,r1,r7,c1,c7,qt t,by decide,rfl⟩) (congrArg some (pE _))) af) ⟨R,C,97,110,_,rfl,tq _,pN t,by omega,by omega,rfl⟩) (ex _)) ae (aJ (aw (i:=0) rfl))) af) ⟨_,_,_,_,rfl,ok _,rfl⟩) ?_
 refine az 6 nd (aS (x:=.lst ((ns.getD 4 0 :: (ns.take 17).drop 5).map .int)) (k9 (aS (cb (ab (x_call b c_l_cell (ab (aa 0) (ab ae af)) ⟨ns,4,rfl,rfl⟩) af))) (aS (mC (aa 0) (cI ae) (cI ae)) (congrArg (λl=>some (D.lst l)) (BX ns))) ?_) rfl) ?_
 · rw [List.length_map,List.length_drop,List.length_take]
   show 1 + _ < _
   omega
 have sa:=nZ (c:=ns.getD 2 0) t
 have sb:=nZ (c:=ns.getD 3 0) t
 show PSs _ _ (dS K [.d (.lst (ns.map .int)),.d (.int (R:Nat)),.d (.int (C:Nat)),.d (tbD (tb C R g)),.d (mnD P w R C (nuV (ns.getD 2 0) R C g)),.d (mnD P w R C (nuV (ns.getD 3 0) R C g)),.d (.lst ((ns.getD 4 0 :: (ns.take 17).drop 5).map .int)),.un,.un] _)
 generalize nuV (ns.getD 2 0) R C g=VA at sa ⊢
 generalize nuV (ns.getD 3 0) R C g=VB at sb ⊢
 generalize ns.getD 4 0 :: (ns.take 17).drop 5=cs
 refine jK (M:=λτ=>∃ cs:List Int,τ=[.d (.lst (ns.map .int)),.d (.int (R:Nat)),.d (.int (C:Nat)),.d (tbD (tb C R g)),.d (mnD P w R C VA),.d (mnD P w R C VB),.d (.lst (cs.map .int)),.un,.un]) (PW.pt (yJ (bf (aa 1) ae kM) λh=>(uh (bf (aa 2) ae kM)))) (λh=>?_) (λh=>?_) λτ h=>?_
 · refine az 6 nd (aS (x:=.lst ((cs.take 1).map .int)) (mC (aa 6) hX (cI ae)) ?_) (aM ⟨cs.take 1,rfl⟩)
   show some (D.lst _)=some (D.lst _)
   rw [List.map_take]
   exact congrArg (λl=>some (D.lst l)) (Hy.mI (xs:=cs.map D.int) 1)
 · exact aM ⟨cs,rfl⟩
 obtain ⟨cs,rfl⟩:=h
 refine bE 7 (g:=λi=>.int (cs.getD i 0)) (λi τ=>∃ s7 s8,τ=[.d (.lst (ns.map .int)),.d (.int (R:Nat)),.d (.int (C:Nat)),.d (tbD (tb C R g)),.d (mnD P w R C VA),.d (mnD P w R C VB),.d (.lst (cs.map .int)),s7,s8]) b nd (aR (aa 6)) k5 ⟨_,_,rfl⟩ (λi hi τ h=>?_) λτ h=>?_
 · obtain ⟨s7,s8,rfl⟩:=h
   have mk:=An r1 r7 c1 c7 (cs.getD i 0)
   refine bE 8 (g:=λj=>prD ((l4 R C (cs.getD i 0)).getD j (0,0))) (λj τ=>∃ s8,τ=[.d (.lst (ns.map .int)),.d (.int (R:Nat)),.d (.int (C:Nat)),.d (tbD (tb C R g)),.d (mnD P w R C VA),.d (mnD P w R C VB),.d (.lst (cs.map .int)),.d (.int (cs.getD i 0)),s8]) b nd (aR (x_call b c_l_masks (ab (aa 7) (ab (aa 1) (ab (aa 2) af))) ⟨cs.getD i 0,R,C,rfl,r1,r7,c1,c7,rfl⟩)) (cF (f:=prD) (xs:=l4 R C (cs.getD i 0)) (0,0)) ⟨_,rfl⟩ (λj hj τ h=>?_) λτ h=>?_
   · obtain ⟨s8,rfl⟩:=h
     rw [List.length_map] at hj
     obtain ⟨m1,m2,m3,m4⟩:=mk _ (bj (d:=(0,0)) hj)
     exact cM (bV (bP (x_call b c_l_asked (ab (aa 3) (ab (aa 4) (ab (aa 5) (ab (aa 8) af)))) ⟨R,C,g,VA,VB,_,_,rfl,t,sa,sb,m1,m2,m3,m4,rfl⟩))) rfl (aM ⟨_,rfl⟩)
   · obtain ⟨s8,rfl⟩:=h
     exact aM ⟨_,_,rfl⟩
 · obtain ⟨s7,s8,rfl⟩:=h
   exact aK tN rfl
end
end K54
namespace Hy
open PySem PySem.Spec PyProof.Rows L2
open Ev (D Den aq)
noncomputable def Dfn (K:PySem.W.Frag) (x:Str) (st:Stmt) (f:Addr):Prop:=PySem.W.nsIn K mainGlobals x=some (some (.ref f))/\(∃ oc od kV dc pm an cd ct sl,K.lookup f=some ⟨oc,od,.func (PySem.W.fnOf x x (cB st) (bK st) (ag st) .none kV dc pm an cd ct),sl⟩/\PySem.W.codeIn K cd x=true)/\PySem.W.keepIn K (.ref f)=true
noncomputable def BdA (x:Str) (st:Stmt) (ps:List Str):Prop:=∀ (kV dc pm:Value) (an:Option Addr) (cd ct:Value) (us:List Value),us.length=ps.length->bindArgs (PySem.W.fnOf x x (cB st) (bK st) (ag st) .none kV dc pm an cd ct) ⟨us,[]⟩=pure (ps.zip us)
noncomputable def nsL (K:PySem.W.Frag):List Str->Prop
 | []=>True
 | x :: r=>PySem.W.nsIn K mainGlobals x=some none/\nsL K r
section
variable {P:Program} {w:World} {K:PySem.W.Frag} {h:Heap} {mg:Str->Option Value} {base:Heap} {x:Str} {st:Stmt} {f:Addr} {ps:List Str} {k:Nat} {Φ:List D->Sl->Prop}
theorem Dfn.of {oc:Value} {od an:Option Addr} {kV dc pm cd ct:Value} {sl:Array (Option Value)} (a:PySem.W.nsIn K mainGlobals x=some (some (.ref f))) (l:K.lookup f=some ⟨oc,od,.func (PySem.W.fnOf x x (cB st) (bK st) (ag st) .none kV dc pm an cd ct),sl⟩) (c:PySem.W.codeIn K cd x=true) (k:PySem.W.keepIn K (.ref f)=true):Dfn K x st f:=⟨a,⟨_,_,_,_,_,_,_,_,_,l,c⟩,k⟩
theorem nsL.none (X:K.In h) (G:h.Ns mainGlobals mg):∀ {l:List Str},nsL K l->∀ x ∈ l,mg x=none
 | _ :: _,z,x,m=>by
   rcases List.mem_cons.mp m with rfl | m
   · exact PySem.W.mg_none_of X G z.1
   · exact nsL.none X G z.2 x m
theorem Dfn.fn (d:Dfn K x st f) (X:K.In h) (G:h.Ns mainGlobals mg) (b:BdA x st ps):∃ fd,Fun K x x st f fd/\mg x=some (.ref f)/\PySem.W.keepIn K (.ref f)=true/\Binds K fd ps []:=by
 obtain ⟨a,⟨oc,od,kV,dc,pm,an,cd,ct,sl,l,c'⟩,q⟩:=d
 have F:=pP l c' q
 exact ⟨_,F,PySem.W.mg_of X G a,q,F.binds (b kV dc pm an cd ct)⟩
theorem Dfn.cal (d:Dfn K x st f) (X:K.In h) (G:h.Ns mainGlobals mg) (b:BdA x st ps) (o:∀ fd,Fun K x x st f fd->aN P w K mg base CX0 k f fd ps (spD K Φ)):Cal P w K mg base k x Φ:=by
 obtain ⟨fd,F,h1,h2,h3⟩:=d.fn X G b
 exact ⟨f,fd,ps,o fd F,h1,h2,h3⟩
end
theorem bd1 {Q:List Value->Prop} (h:∀ a,Q [a]):∀ us:List Value,us.length=1->Q us:=λus e=>match us,e with | [a],_=>h a
theorem bd2 {Q:List Value->Prop} (h:∀ a b,Q [a,b]):∀ us:List Value,us.length=2->Q us:=λus e=>match us,e with | [a,b],_=>h a b
theorem bd3 {Q:List Value->Prop} (h:∀ a b c,Q [a,b,c]):∀ us:List Value,us.length=3->Q us:=λus e=>match us,e with | [a,b,c],_=>h a b c
theorem bd4 {Q:List Value->Prop} (h:∀ a b c d,Q [a,b,c,d]):∀ us:List Value,us.length=4->Q us:=λus e=>match us,e with | [a,b,c,d],_=>h a b c d
theorem _root_.L2.Fun.AS {K:PySem.W.Frag} {x qual:Str} {st:Stmt} {f T:Addr} {fd:FuncData} {ps:List Str} {c:Value} {d:Option Addr} {items:Array Value} {n:Nat} {sl:Array (Option Value)} (_:L2.Fun K x qual st f fd) (hd:fd.defaults=.ref T) (lT:K.lookup T=some ⟨c,d,.seq items n,sl⟩)
   (h:∀ us:List Value,us.length=ps.length->∃ k,bindArgs fd ⟨us,[]⟩=seqItems? fd.defaults >>= k/\k (some items)=pure (ps.zip us)):L2.Binds K fd ps []:=λs us X hl=>by
 rw [List.append_nil] at hl ⊢
 obtain ⟨k,h1,h2⟩:=h us hl
 exact .of_defaults hd (X _ _ lT) rfl h1 h2
noncomputable def u6 (K:PySem.W.Frag) (x:Str) (st:Stmt) (f:Addr) (i:Int):Prop:=PySem.W.nsIn K mainGlobals x=some (some (.ref f))/\(∃ oc od kV dc pm an cd ct sl T td tl tc tt tn,K.lookup f=some ⟨oc,od,.func (PySem.W.fnOf x x (cB st) (bK st) (ag st) (.ref T) kV dc pm an cd ct),sl⟩/\PySem.W.codeIn K cd x=true/\K.lookup T=some ⟨tc,td,.seq #[.int i tt] tn,tl⟩)/\PySem.W.keepIn K (.ref f)=true
section
variable {P:Program} {w:World} {K:PySem.W.Frag} {h:Heap} {mg:Str->Option Value} {base:Heap} {x:Str} {st:Stmt} {f:Addr} {ps:List Str} {k:Nat} {Φ:List D->Sl->Prop} {i:Int}
theorem u6.of {oc tc:Value} {od an td:Option Addr} {kV dc pm cd ct:Value} {sl tl:Array (Option Value)} {T:Addr} {tt:Tok} {tn:Nat} (a:PySem.W.nsIn K mainGlobals x=some (some (.ref f))) (l:K.lookup f=some ⟨oc,od,.func (PySem.W.fnOf x x (cB st) (bK st) (ag st) (.ref T) kV dc pm an cd ct),sl⟩) (c:PySem.W.codeIn K cd x=true) (d:K.lookup T=some ⟨tc,td,.seq #[.int i tt] tn,tl⟩) (k:PySem.W.keepIn K (.ref f)=true):u6 K x st f i:=⟨a,⟨_,_,_,_,_,_,_,_,_,_,_,_,_,_,_,l,c,d⟩,k⟩
theorem u6.cal (d:u6 K x st f i) (X:K.In h) (G:h.Ns mainGlobals mg) (b:∀ (T:Addr) (tt:Tok) (kV dc pm:Value) (an:Option Addr) (cd ct:Value) (us:List Value),us.length=ps.length->∃ k,bindArgs (PySem.W.fnOf x x (cB st) (bK st) (ag st) (.ref T) kV dc pm an cd ct) ⟨us,[]⟩=seqItems? (.ref T) >>= k/\k (some #[.int i tt])=pure (ps.zip us))
   (o:∀ fd,Fun K x x st f fd->aN P w K mg base CX0 k f fd ps (spD K Φ)):Cal P w K mg base k x Φ:=by
 obtain ⟨a,⟨oc,od,kV,dc,pm,an,cd,ct,sl,T,td,tl,tc,tt,tn,l,c',dt⟩,q⟩:=d
 have F:=pP l c' q
 exact ⟨f,_,ps,o _ F,PySem.W.mg_of X G a,q,F.AS rfl dt (b T tt kV dc pm an cd ct)⟩
end
end Hy
namespace K54
open PySem PySem.Spec PyProof.Rows L2 Hy
set_option maxHeartbeats 0 in
theorem all_mk {l:PySem.W.OpenLaw} {w:World} {K:PySem.W.Frag} {h:Heap} {mg:Str->Option Value} {fa f0 f1 f2 f3 f4 f5 f6 f7 f8 f9 f10 f11 f12 f13 f14 f15 f16 f17 f18 f19 f20 f21 f22 f23 f24 f25 f26 f27 f28 f29 f30 f31 f32 f33 f34 f35 f36 f37 f38 f39 f40 f41 f42 f43 f44 f45 f46 f47 f48 f49 f50 f51 f52 f53 f54 f55 f56 f57 f58:Addr} {t0:Tok} (X:K.In h) (G:h.Ns mainGlobals mg) (hfa:mg "law" = some (.ref fa))
   (h0:Dfn K "_law_numbers" (top 55) f0) (h1:Dfn K "_law_size" (top 58) f1) (h2:Dfn K "_law_options" (top 66) f2) (h3:Dfn K "_law_stair" (top 67) f3) (h4:Dfn K "_law_minors" (top 60) f4) (h5:Dfn K "_law_cell" (top 54) f5) (h6:Dfn K "_law_masks" (top 69) f6) (h7:Dfn K "_law_divisor" (top 56) f7) (h8:Dfn K "_law_rows" (top 59) f8) (h9:Dfn K "_law_made" (top 57) f9) (h10:Dfn K "_law_part" (top 62) f10) (h11:Dfn K "_law_plus" (top 61) f11) (h12:Dfn K "_law_across" (top 63) f12) (h13:Dfn K "_law_places" (top 64) f13) (h14:Dfn K "_law_thick" (top 65) f14) (h15:Dfn K "_law_cut" (top 70) f15) (h16:Dfn K "is_short_list" (top 19) f16) (h17:Dfn K "column_of" (top 28) f17) (h18:Dfn K "may_be_empty" (top 48) f18) (h19:Dfn K "is_well_filled" (top 47) f19) (h20:Dfn K "is_whole" (top 8) f20) (h21:Dfn K "is_between" (top 9) f21) (h22:Dfn K "is_row_of_marks" (top 46) f22) (h23:Dfn K "is_staircase" (top 45) f23) (h24:Dfn K "look_stairs" (top 49) f24) (h25:Dfn K "common_divisor" (top 11) f25) (h26:Dfn K "is_fraction" (top 10) f26) (h27:Dfn K "is_row" (top 20) f27) (h28:Dfn K "is_table" (top 21) f28) (h29:Dfn K "look_table" (top 24) f29) (h30:Dfn K "is_rising" (top 23) f30) (h31:Dfn K "is_choice" (top 22) f31) (h32:Dfn K "look_choices" (top 25) f32) (h33:Dfn K "look_square" (top 32) f33) (h34:Dfn K "in_lowest_terms" (top 12) f34) (h35:u6 K "fraction" (top 13) f35 (1)) (h36:Dfn K "scale_of" (top 33) f36) (h37:Dfn K "pivot_place" (top 38) f37) (h38:Dfn K "cleared" (top 39) f38) (h39:Dfn K "whole_determinant" (top 37) f39) (h40:Dfn K "product_of_all" (top 36) f40) (h41:Dfn K "whole_row" (top 34) f41) (h42:Dfn K "whole_rows" (top 35) f42) (h43:Dfn K "square_determinant" (top 31) f43) (h44:Dfn K "picked" (top 26) f44) (h45:Dfn K "chosen" (top 27) f45) (h46:Dfn K "minor" (top 30) f46) (h47:Dfn K "places_of" (top 42) f47) (h48:Dfn K "product_of" (top 15) f48) (h49:Dfn K "quotient_of" (top 16) f49) (h50:Dfn K "sum_of" (top 14) f50) (h51:Dfn K "change_by" (top 43) f51) (h52:Dfn K "thickened" (top 41) f52) (h53:Dfn K "numbers_in" (top 51) f53) (h54:Dfn K "plain_table" (top 50) f54) (h55:Dfn K "stands" (top 52) f55) (h56:Dfn K "_law_asked" (top 71) f56) (h57:Dfn K "_law_numbered" (top 68) f57) (h58:Dfn K "law" (top 72) f58) (hz:nsL K ah) (z0:PySem.W.nsIn K mainGlobals "MOST" = some (some (.int 7 t0))) :
   ∃ fd:FuncData,(∀ (s:Shared) (v:Value),BindsTo s fd ⟨[v],[]⟩ [("_law_script",v)])/\∀ base:Heap,K.In base->base.Ns mainGlobals mg->aN l.prog w K mg base CX0 10 fa fd ["_law_script"] (spD K r9):=by
 have hb:=hz.none X G
 have y_MOST:∃ t,mg "MOST" = some (.int 7 t):=⟨_,PySem.W.mg_of X G z0⟩
 obtain ⟨a,⟨oc,od,kV,dc,pm,an,cd,ct,sl,l0,c⟩,r⟩:=h58
 cases hfa.symm.trans (PySem.W.mg_of X G a)
 refine ⟨PySem.W.fnOf "law" "law" (cB (top 72)) (bK (top 72)) (ag (top 72)) .none kV dc pm an cd ct,λs v=>.of_eq rfl,λbase _ _=>?_⟩
 have c_l_numbers:Cal l.prog w K mg base 1 "_law_numbers" bW:=h0.cal (ps:=["_law_cell_here","_law_bases"]) X G (λ_ _ _ _ _ _=>Hy.bd2 λ_ _=>rfl) λ_ F=>ni (k:=0) F hb
 have c_l_size:Cal l.prog w K mg base 2 "_law_size" jh:=h1.cal (ps:=["_law_cell_here"]) X G (λ_ _ _ _ _ _=>Hy.bd1 λ_=>rfl) λ_ F=>sC (k:=1) F hb c_l_numbers
 have c_l_options:Cal l.prog w K mg base 1 "_law_options" fm:=h2.cal (ps:=["_law_clear"]) X G (λ_ _ _ _ _ _=>Hy.bd1 λ_=>rfl) λ_ F=>mf (k:=0) F hb
 have c_l_stair:Cal l.prog w K mg base 2 "_law_stair" iE:=h3.cal (ps:=["_law_cell_here","_law_many","_law_wide"]) X G (λ_ _ _ _ _ _=>Hy.bd3 λ_ _ _=>rfl) λ_ F=>p7 (k:=1) F hb c_l_numbers c_l_options
 have c_l_minors:Cal l.prog w K mg base 1 "_law_minors" (gu l.prog w):=h4.cal (ps:=["_law_rows_here"]) X G (λ_ _ _ _ _ _=>Hy.bd1 λ_=>rfl) λ_ F=>nP (k:=0) F hb
 have c_l_cell:Cal l.prog w K mg base 1 "_law_cell" j4:=h5.cal (ps:=["_law_script","_law_k"]) X G (λ_ _ _ _ _ _=>Hy.bd2 λ_ _=>rfl) λ_ F=>tK (k:=0) F hb
 have c_l_masks:Cal l.prog w K mg base 2 "_law_masks" il:=h6.cal (ps:=["_law_cell_here","_law_many","_law_wide"]) X G (λ_ _ _ _ _ _=>Hy.bd3 λ_ _ _=>rfl) λ_ F=>pM (k:=1) F hb c_l_numbers
 have c_l_divisor:Cal l.prog w K mg base 1 "_law_divisor" dj:=h7.cal (ps:=["_law_one","_law_other"]) X G (λ_ _ _ _ _ _=>Hy.bd2 λ_ _=>rfl) λ_ F=>nA (k:=0) F hb
 have c_l_rows:Cal l.prog w K mg base 2 "_law_rows" jY:=h8.cal (ps:=["_law_table"]) X G (λ_ _ _ _ _ _=>Hy.bd1 λ_=>rfl) λ_ F=>tu (k:=1) F hb c_l_divisor
 have c_l_made:Cal l.prog w K mg base 2 "_law_made" eX:=h9.cal (ps:=["_law_top","_law_bottom"]) X G (λ_ _ _ _ _ _=>Hy.bd2 λ_ _=>rfl) λ_ F=>se (k:=1) F hb c_l_divisor
 have c_l_part:Cal l.prog w K mg base 3 "_law_part" jy:=h10.cal (ps:=["_law_one","_law_other","_law_third"]) X G (λ_ _ _ _ _ _=>Hy.bd3 λ_ _ _=>rfl) λ_ F=>tj (k:=2) F hb c_l_made
 have c_l_plus:Cal l.prog w K mg base 3 "_law_plus" jD:=h11.cal (ps:=["_law_one","_law_other"]) X G (λ_ _ _ _ _ _=>Hy.bd2 λ_ _=>rfl) λ_ F=>tm (k:=2) F hb c_l_made
 have c_l_across:Cal l.prog w K mg base 4 "_law_across" fZ:=h12.cal (ps:=["_law_table","_law_places_here","_law_sign"]) X G (λ_ _ _ _ _ _=>Hy.bd3 λ_ _ _=>rfl) λ_ F=>n9 (k:=3) F hb c_l_part c_l_plus
 have c_l_places:Cal l.prog w K mg base 1 "_law_places" gw:=h13.cal (ps:=["_law_table"]) X G (λ_ _ _ _ _ _=>Hy.bd1 λ_=>rfl) λ_ F=>pj (k:=0) F hb
 have c_l_thick:Cal l.prog w K mg base 5 "_law_thick" ig:=h14.cal (ps:=["_law_table"]) X G (λ_ _ _ _ _ _=>Hy.bd1 λ_=>rfl) λ_ F=>pQ (k:=4) F hb c_l_across (c_l_places.mono (by decide))
 have c_l_cut:Cal l.prog w K mg base 1 "_law_cut" nq:=h15.cal (ps:=["_law_mask","_law_most"]) X G (λ_ _ _ _ _ _=>Hy.bd2 λ_ _=>rfl) λ_ F=>vR (k:=0) F hb
 have c_is_short_list:Cal l.prog w K mg base 1 "is_short_list" a7:=h16.cal (ps:=["thing"]) X G (λ_ _ _ _ _ _=>Hy.bd1 λ_=>rfl) λ_ F=>hZ (k:=0) F hb y_MOST
 have c_column_of:Cal l.prog w K mg base 1 "column_of" fH:=h17.cal (ps:=["table","j"]) X G (λ_ _ _ _ _ _=>Hy.bd2 λ_ _=>rfl) λ_ F=>mX (k:=0) F hb
 have c_may_be_empty:Cal l.prog w K mg base 2 "may_be_empty" c8:=h18.cal (ps:=["marks","i","j"]) X G (λ_ _ _ _ _ _=>Hy.bd3 λ_ _ _=>rfl) λ_ F=>i5 (k:=1) F hb c_column_of
 have c_is_well_filled:Cal l.prog w K mg base 3 "is_well_filled" cj:=h19.cal (ps:=["marks","i"]) X G (λ_ _ _ _ _ _=>Hy.bd2 λ_ _=>rfl) λ_ F=>gS (k:=2) F hb c_may_be_empty
 have c_is_whole:Cal l.prog w K mg base 1 "is_whole" cu:=h20.cal (ps:=["thing"]) X G (λ_ _ _ _ _ _=>Hy.bd1 λ_=>rfl) λ_ F=>ou (k:=0) F hb
 have c_is_between:Cal l.prog w K mg base 2 "is_between" eA:=h21.cal (ps:=["thing","least","most"]) X G (λ_ _ _ _ _ _=>Hy.bd3 λ_ _ _=>rfl) λ_ F=>kz (k:=1) F hb c_is_whole
 have c_is_row_of_marks:Cal l.prog w K mg base 3 "is_row_of_marks" b5:=h22.cal (ps:=["thing"]) X G (λ_ _ _ _ _ _=>Hy.bd1 λ_=>rfl) λ_ F=>gx (k:=2) F hb (c_is_short_list.mono (by decide)) c_is_between
 have c_is_staircase:Cal l.prog w K mg base 4 "is_staircase" cX:=h23.cal (ps:=["thing"]) X G (λ_ _ _ _ _ _=>Hy.bd1 λ_=>rfl) λ_ F=>iX (k:=3) F hb (c_is_short_list.mono (by decide)) c_is_well_filled c_is_row_of_marks
 have c_look_stairs:Cal l.prog w K mg base 5 "look_stairs" dB:=h24.cal (ps:=["thing"]) X G (λ_ _ _ _ _ _=>Hy.bd1 λ_=>rfl) λ_ F=>jk (k:=4) F hb c_is_staircase
 have c_common_divisor:Cal l.prog w K mg base 1 "common_divisor" aZ:=h25.cal (ps:=["one","other"]) X G (λ_ _ _ _ _ _=>Hy.bd2 λ_ _=>rfl) λ_ F=>gP (k:=0) F hb
 have c_is_fraction:Cal l.prog w K mg base 2 "is_fraction" dM:=h26.cal (ps:=["thing"]) X G (λ_ _ _ _ _ _=>Hy.bd1 λ_=>rfl) λ_ F=>jo (k:=1) F hb c_is_whole c_common_divisor
 have c_is_row:Cal l.prog w K mg base 3 "is_row" jM:=h27.cal (ps:=["thing"]) X G (λ_ _ _ _ _ _=>Hy.bd1 λ_=>rfl) λ_ F=>sJ (k:=2) F hb (c_is_short_list.mono (by decide)) c_is_fraction
 have c_is_table:Cal l.prog w K mg base 4 "is_table" gk:=h28.cal (ps:=["thing"]) X G (λ_ _ _ _ _ _=>Hy.bd1 λ_=>rfl) λ_ F=>nX (k:=3) F hb (c_is_short_list.mono (by decide)) c_is_row
 have c_look_table:Cal l.prog w K mg base 5 "look_table" cQ:=h29.cal (ps:=["thing"]) X G (λ_ _ _ _ _ _=>Hy.bd1 λ_=>rfl) λ_ F=>kO (k:=4) F hb c_is_table
 have c_is_rising:Cal l.prog w K mg base 1 "is_rising" e7:=h30.cal (ps:=["numbers"]) X G (λ_ _ _ _ _ _=>Hy.bd1 λ_=>rfl) λ_ F=>mv (k:=0) F hb
 have c_is_choice:Cal l.prog w K mg base 2 "is_choice" fo:=h31.cal (ps:=["thing","many"]) X G (λ_ _ _ _ _ _=>Hy.bd2 λ_ _=>rfl) λ_ F=>mB (k:=1) F hb c_is_rising c_is_whole
 have c_look_choices:Cal l.prog w K mg base 3 "look_choices" cW:=h32.cal (ps:=["rows","columns","many_rows","many_columns"]) X G (λ_ _ _ _ _ _=>Hy.bd4 λ_ _ _ _=>rfl) λ_ F=>iZ (k:=2) F hb c_is_choice
 have c_look_square:Cal l.prog w K mg base 1 "look_square" dr:=h33.cal (ps:=["table"]) X G (λ_ _ _ _ _ _=>Hy.bd1 λ_=>rfl) λ_ F=>jE (k:=0) F hb
 have c_in_lowest_terms:Cal l.prog w K mg base 2 "in_lowest_terms" bx:=h34.cal (ps:=["top","bottom"]) X G (λ_ _ _ _ _ _=>Hy.bd2 λ_ _=>rfl) λ_ F=>gz (k:=1) F hb c_common_divisor
 have c_fraction:Cal l.prog w K mg base 3 "fraction" gn:=h35.cal (ps:=["top","bottom"]) X G (λ_ _ _ _ _ _ _ _=>Hy.bd2 λ_ _=>⟨_,rfl,rfl⟩) λ_ F=>nQ (k:=2) F hb c_in_lowest_terms (c_is_whole.mono (by decide))
 have c_scale_of:Cal l.prog w K mg base 2 "scale_of" gi:=h36.cal (ps:=["row"]) X G (λ_ _ _ _ _ _=>Hy.bd1 λ_=>rfl) λ_ F=>om (k:=1) F hb c_common_divisor
 have c_pivot_place:Cal l.prog w K mg base 1 "pivot_place" dH:=h37.cal (ps:=["grid","k"]) X G (λ_ _ _ _ _ _=>Hy.bd2 λ_ _=>rfl) λ_ F=>jm (k:=0) F hb
 have c_cleared:Cal l.prog w K mg base 1 "cleared" ij:=h38.cal (ps:=["row","pivot_row","k","last"]) X G (λ_ _ _ _ _ _=>Hy.bd4 λ_ _ _ _=>rfl) λ_ F=>qo (k:=0) F hb
 have c_whole_determinant:Cal l.prog w K mg base 2 "whole_determinant" bO:=h39.cal (ps:=["rows"]) X G (λ_ _ _ _ _ _=>Hy.bd1 λ_=>rfl) λ_ F=>fj (k:=1) F hb c_pivot_place c_cleared
 have c_product_of_all:Cal l.prog w K mg base 1 "product_of_all" cv:=h40.cal (ps:=["numbers"]) X G (λ_ _ _ _ _ _=>Hy.bd1 λ_=>rfl) λ_ F=>gX (k:=0) F hb
 have c_whole_row:Cal l.prog w K mg base 1 "whole_row" fE:=h41.cal (ps:=["row","scale"]) X G (λ_ _ _ _ _ _=>Hy.bd2 λ_ _=>rfl) λ_ F=>l6 (k:=0) F hb
 have c_whole_rows:Cal l.prog w K mg base 2 "whole_rows" dZ:=h42.cal (ps:=["table","scales"]) X G (λ_ _ _ _ _ _=>Hy.bd2 λ_ _=>rfl) λ_ F=>kD (k:=1) F hb c_whole_row
 have c_square_determinant:Cal l.prog w K mg base 4 "square_determinant" bH:=h43.cal (ps:=["table"]) X G (λ_ _ _ _ _ _=>Hy.bd1 λ_=>rfl) λ_ F=>eI (k:=3) F hb (c_look_square.mono (by decide)) c_fraction (c_scale_of.mono (by decide)) (c_whole_determinant.mono (by decide)) (c_product_of_all.mono (by decide)) (c_whole_rows.mono (by decide))
 have c_picked:Cal l.prog w K mg base 1 "picked" kg:=h44.cal (ps:=["things","places"]) X G (λ_ _ _ _ _ _=>Hy.bd2 λ_ _=>rfl) λ_ F=>sM (k:=0) F hb
 have c_chosen:Cal l.prog w K mg base 2 "chosen" jV:=h45.cal (ps:=["table","rows","columns"]) X G (λ_ _ _ _ _ _=>Hy.bd3 λ_ _ _=>rfl) λ_ F=>tE (k:=1) F hb c_picked
 have c_minor:Cal l.prog w K mg base 6 "minor" l5:=h46.cal (ps:=["table","rows","columns"]) X G (λ_ _ _ _ _ _=>Hy.bd3 λ_ _ _=>rfl) λ_ F=>v3 (k:=5) F hb c_look_table (c_look_choices.mono (by decide)) (c_square_determinant.mono (by decide)) (c_chosen.mono (by decide))
 have c_places_of:Cal l.prog w K mg base 1 "places_of" e8:=h47.cal (ps:=["table"]) X G (λ_ _ _ _ _ _=>Hy.bd1 λ_=>rfl) λ_ F=>l9 (k:=0) F hb
 have c_product_of:Cal l.prog w K mg base 2 "product_of" cR:=h48.cal (ps:=["one","other"]) X G (λ_ _ _ _ _ _=>Hy.bd2 λ_ _=>rfl) λ_ F=>kF (k:=1) F hb c_common_divisor
 have c_quotient_of:Cal l.prog w K mg base 3 "quotient_of" dD:=h49.cal (ps:=["one","other"]) X G (λ_ _ _ _ _ _=>Hy.bd2 λ_ _=>rfl) λ_ F=>jt (k:=2) F hb c_product_of c_in_lowest_terms
 have c_sum_of:Cal l.prog w K mg base 2 "sum_of" ka:=h50.cal (ps:=["one","other"]) X G (λ_ _ _ _ _ _=>Hy.bd2 λ_ _=>rfl) λ_ F=>sI (k:=1) F hb c_common_divisor
 obtain ⟨fdl,Fl,ml,kl,bl⟩:=h51.fn (ps:=["grid","j","b","sign"]) X G (λ_ _ _ _ _ _=>Hy.bd4 λ_ _ _ _=>rfl)
 have c_change_by:sG l.prog w K mg base 4 "change_by" (spT K ff):=⟨_,_,_,mO (k:=3) Fl hb c_quotient_of (c_sum_of.mono (by decide)) (c_product_of.mono (by decide)),ml,kl,bl⟩
 have c_thickened:Cal l.prog w K mg base 6 "thickened" fI:=h52.cal (ps:=["table"]) X G (λ_ _ _ _ _ _=>Hy.bd1 λ_=>rfl) λ_ F=>mR (k:=5) F hb c_look_table (c_places_of.mono (by decide)) (c_change_by.mono (by decide))
 have c_numbers_in:Cal l.prog w K mg base 1 "numbers_in" ed:=h53.cal (ps:=["row"]) X G (λ_ _ _ _ _ _=>Hy.bd1 λ_=>rfl) λ_ F=>kG (k:=0) F hb
 have c_plain_table:Cal l.prog w K mg base 7 "plain_table" dn:=h54.cal (ps:=["marks"]) X G (λ_ _ _ _ _ _=>Hy.bd1 λ_=>rfl) λ_ F=>jN (k:=6) F hb c_thickened (c_numbers_in.mono (by decide))
 have c_stands:Cal l.prog w K mg base 8 "stands" kq:=h55.cal (ps:=["marks","rows","columns"]) X G (λ_ _ _ _ _ _=>Hy.bd3 λ_ _ _=>rfl) λ_ F=>sr (k:=7) F hb (c_look_stairs.mono (by decide)) (c_minor.mono (by decide)) c_plain_table
 have c_l_asked:Cal l.prog w K mg base 9 "_law_asked" (iG l.prog w):=h56.cal (ps:=["_law_marks","_law_one","_law_other","_law_masks_here"]) X G (λ_ _ _ _ _ _=>Hy.bd4 λ_ _ _ _=>rfl) λ_ F=>pO (k:=8) F hb (c_l_cut.mono (by decide)) c_stands
 have c_l_numbered:Cal l.prog w K mg base 3 "_law_numbered" ee:=h57.cal (ps:=["_law_marks","_law_cell_here"]) X G (λ_ _ _ _ _ _=>Hy.bd2 λ_ _=>rfl) λ_ F=>kH (k:=2) F hb (c_l_numbers.mono (by decide)) c_l_made
 exact AD (k:=9) (pP l0 c r) hb (c_l_size.mono (by decide)) (c_l_stair.mono (by decide)) (c_l_minors.mono (by decide)) (c_l_cell.mono (by decide)) (c_l_masks.mono (by decide)) (c_l_rows.mono (by decide)) (c_l_thick.mono (by decide)) c_l_asked (c_l_numbered.mono (by decide))
theorem walk {l:PySem.W.OpenLaw} {q:Program} {loose:List Str} {XP:(Str->Option Value)->Heap->Prop} {YP:World->Heap->Prop} {d:DefRec} {K:Params->PySem.W.Frag} (hn:l.most=some 63) (hdf:d.params.defaults=[])
   (hY:∀ (w:World) (h:Heap),YP w h->(K w.params).In h)
   (F:∀ (w:World) (mg:Str->Option Value) (fa:Addr) (h:Heap),(K w.params).In h->h.Ns mainGlobals mg->mg d.name=some (.ref fa) ->
     ∃ fd:FuncData,(∀ (s:Shared) (u:Value),BindsTo s fd ⟨[u],[]⟩ [("_law_script",u)])/\∀ base:Heap,(K w.params).In base->base.Ns mainGlobals mg->aN l.prog w (K w.params) mg base CX0 10 fa fd ["_law_script"] (spD (K w.params) r9)) :
   PySem.W.WalkO q loose XP YP l.row.toRowW d [] (λf vs=>PySem.call f vs):=
 L2.yf (n:=63) (k:=10) (x:="_law_script") (CX:=λ_=>CX0) (sp:=λw=>spD (K w.params) r9) hn (by decide) hdf ⟨rfl,by decide,by decide⟩ hY F
   (λw H a ns hl _ hS=>wL (λns h=>⟨ns,h,rfl,rfl⟩) H a ns hl hS) λ_ _ _ _ _ z=>z
end K54
open PySem PySem.W PyProof.Rows
namespace PySem.W.Fast
theorem tw6326560810050326228:True:=⟨⟩
theorem tw6098691695472711559:True:=⟨⟩
theorem tw7513394693761582991:True:=⟨⟩
theorem tw17421194632211240277:True:=⟨⟩
theorem tw4116374663395819569:True:=⟨⟩
theorem tw15122794669047826951:True:=⟨⟩
theorem tw18383273809896165106:True:=⟨⟩
theorem tw32027230405718884:True:=⟨⟩
theorem tw13445365180299387492:True:=⟨⟩
theorem tw14780221608754032911:True:=⟨⟩
theorem tw5033096939152774370:True:=⟨⟩
theorem tw15007706865560097742:True:=⟨⟩
theorem tw15445616884288431997:True:=⟨⟩
theorem tw6487708124827227231:True:=⟨⟩
theorem tw4077541050734820242:True:=⟨⟩
theorem tw11514499620706853071:True:=⟨⟩
theorem tw860136526496424466:True:=⟨⟩
theorem tw3208943794815841235:True:=⟨⟩
theorem tw12850919234113647568:True:=⟨⟩
theorem tw9490195366097932189:True:=⟨⟩
theorem tw9896076157582949626:True:=⟨⟩
theorem tw9043816491536755607:True:=⟨⟩
theorem tw4589545144579230581:True:=⟨⟩
theorem tw11764378901588592217:True:=⟨⟩
theorem tw11144400008292833979:True:=⟨⟩
theorem tw12587169421421068515:True:=⟨⟩
theorem tw7474548271927437642:True:=⟨⟩
theorem tw4322854499875178288:True:=⟨⟩
theorem tw3771405736703589987:True:=⟨⟩
theorem tw16875640905081852968:True:=⟨⟩
theorem tw14348197482152797509:True:=⟨⟩
theorem tw11521789190417900753:True:=⟨⟩
theorem tw7842483063377853139:True:=⟨⟩
theorem tw2324111256245662899:True:=⟨⟩
theorem tw144612883463748560:True:=⟨⟩
theorem tw11373167268592671844:True:=⟨⟩
theorem tw8097523091845590890:True:=⟨⟩
theorem tw9281977817425789472:True:=⟨⟩
theorem tw1036934531651991625:True:=⟨⟩
theorem tw16558819122853032944:True:=⟨⟩
theorem tw11832408599648363552:True:=⟨⟩
theorem tw3117086106326381836:True:=⟨⟩
theorem tw4066342172262619728:True:=⟨⟩
theorem tw6022878194887658045:True:=⟨⟩
theorem tw13343943890777587070:True:=⟨⟩
theorem tw15185341989769821873:True:=⟨⟩
theorem tw16287460406044688809:True:=⟨⟩
theorem tw11291455830455823902:True:=⟨⟩
theorem tw16368365572210793279:True:=⟨⟩
theorem tw16948843484498954099:True:=⟨⟩
theorem tw13395688483717098488:True:=⟨⟩
theorem tw16716800378525980029:True:=⟨⟩
theorem tw15938622140116728155:True:=⟨⟩
theorem tw1435516326462745999:True:=⟨⟩
theorem tw17206003233728519013:True:=⟨⟩
theorem tw2631093010681152083:True:=⟨⟩
theorem tw6480360181160282598:True:=⟨⟩
theorem tw17304106736874356247:True:=⟨⟩
theorem tw15352727426959653221:True:=⟨⟩
theorem tw15972739514320991520:True:=⟨⟩
theorem tw2308578058428354210:True:=⟨⟩
theorem tw12321741670413763902:True:=⟨⟩
theorem tw12184753004659999332:True:=⟨⟩
theorem tw16110477178791292959:True:=⟨⟩
theorem tw1261317031179012446:True:=⟨⟩
theorem tw8960919453342953895:True:=⟨⟩
theorem tw2901780570506181913:True:=⟨⟩
end PySem.W.Fast
set_option maxRecDepth 100000 in
set_option maxHeartbeats 0 in
theorem PySem.Challenge.cw_signsmooth_k54_whole_standing_holds : PySem.Challenge.rw_signsmooth_k54_whole_standing.Holds := by
 w_on; o_law; k_head; (case hw=>w_witness2)
 k_fill
 refine K54.walk (l:=PySem.Challenge.rw_signsmooth_k54_whole_standing) rfl rfl (λw h Y=>PySem.W.kIn_of Y) ?F
 case F=>
   intro w mg fa h KX G hmg
   refine' K54.all_mk KX G hmg (.of ?_ ?_ ?_ ?_) (.of ?_ ?_ ?_ ?_) (.of ?_ ?_ ?_ ?_) (.of ?_ ?_ ?_ ?_) (.of ?_ ?_ ?_ ?_) (.of ?_ ?_ ?_ ?_) (.of ?_ ?_ ?_ ?_) (.of ?_ ?_ ?_ ?_) (.of ?_ ?_ ?_ ?_) (.of ?_ ?_ ?_ ?_) (.of ?_ ?_ ?_ ?_) (.of ?_ ?_ ?_ ?_) (.of ?_ ?_ ?_ ?_) (.of ?_ ?_ ?_ ?_) (.of ?_ ?_ ?_ ?_) (.of ?_ ?_ ?_ ?_) (.of ?_ ?_ ?_ ?_) (.of ?_ ?_ ?_ ?_) (.of ?_ ?_ ?_ ?_) (.of ?_ ?_ ?_ ?_) (.of ?_ ?_ ?_ ?_) (.of ?_ ?_ ?_ ?_) (.of ?_ ?_ ?_ ?_) (.of ?_ ?_ ?_ ?_) (.of ?_ ?_ ?_ ?_) (.of ?_ ?_ ?_ ?_) (.of ?_ ?_ ?_ ?_) (.of ?_ ?_ ?_ ?_) (.of ?_ ?_ ?_ ?_) (.of ?_ ?_ ?_ ?_) (.of ?_ ?_ ?_ ?_) (.of ?_ ?_ ?_ ?_) (.of ?_ ?_ ?_ ?_) (.of ?_ ?_ ?_ ?_) (.of ?_ ?_ ?_ ?_) (.of ?_ ?_ ?_ ?_ ?_) (.of ?_ ?_ ?_ ?_) (.of ?_ ?_ ?_ ?_) (.of ?_ ?_ ?_ ?_) (.of ?_ ?_ ?_ ?_) (.of ?_ ?_ ?_ ?_) (.of ?_ ?_ ?_ ?_) (.of ?_ ?_ ?_ ?_) (.of ?_ ?_ ?_ ?_) (.of ?_ ?_ ?_ ?_) (.of ?_ ?_ ?_ ?_) (.of ?_ ?_ ?_ ?_) (.of ?_ ?_ ?_ ?_) (.of ?_ ?_ ?_ ?_) (.of ?_ ?_ ?_ ?_) (.of ?_ ?_ ?_ ?_) (.of ?_ ?_ ?_ ?_) (.of ?_ ?_ ?_ ?_) (.of ?_ ?_ ?_ ?_) (.of ?_ ?_ ?_ ?_) (.of ?_ ?_ ?_ ?_) (.of ?_ ?_ ?_ ?_) (.of ?_ ?_ ?_ ?_) (.of ?_ ?_ ?_ ?_) ⟨?_,?_,?_,?_,?_,?_,?_,?_,?_,?_,?_,?_,?_,?_,?_,?_,?_,?_,trivial⟩ ?_
   all_goals try k_is
#print axioms PySem.Challenge.cw_signsmooth_k54_whole_standing_holds
