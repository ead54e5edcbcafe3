import PyProof.Rows.All
import Wide.All
import OpenK.AllK
import Wide.FinOn
import Lean
import PyProof.EqAt
import PyProof.EqKinds
import PyProof.TupleCall
import PySem.Challenge.RW_signsmooth_k09_determinants_by_orders
set_option genSizeOf false
set_option bootstrap.genMatcherCode false
set_option Elab.async false
set_option linter.all false
set_option maxRecDepth 100000
set_option exponentiation.threshold 2000
namespace L2
open PySem PySem.Spec PyProof.Rows
noncomputable abbrev Key:=Sum Int Str
noncomputable def JP:Key→Value→Bool
 | .inl k,v=>Value.isInt k v
 | .inr x,v=>Value.isStrOf x v
noncomputable def Pl (w:World):Key→Int
 | .inl k=>hashInt k
 | .inr x=>hashStr w x
theorem cx:∀ {k:Key} {v:Value},JP k v=true→(∃ i t,k=Sum.inl i∧v=Value.int i t)∨(∃ x t,k=Sum.inr x∧v=Value.str x t)
 | .inl i,v,h=>by
   obtain ⟨t,e⟩:=Value.isInt_shape (k:=i) (v:=v) h
   exact .inl ⟨i,t,rfl,e⟩
 | .inr x,v,h=>by
   obtain ⟨t,e⟩:=Value.isStrOf_shape (x:=x) (v:=v) h
   exact .inr ⟨x,t,rfl,e⟩
theorem NB (a b:Int):decide ((Sum.inl a:Key)=Sum.inl b)=(a == b):=by
 by_cases e:a=b
 · subst e; simp
 · have h:¬ (Sum.inl a:Key)=Sum.inl b:=fun q=>e (Sum.inl.inj q)
   rw [decide_eq_false h]
   exact (beq_eq_false_iff_ne.mpr e).symm
theorem Kz (a b:Str):decide ((Sum.inr a:Key)=Sum.inr b)=decide (a=b):=by
 by_cases e:a=b
 · subst e; simp
 · have h:¬ (Sum.inr a:Key)=Sum.inr b:=fun q=>e (Sum.inr.inj q)
   rw [decide_eq_false h,decide_eq_false e]
theorem Ki (a:Int) (b:Str):decide ((Sum.inl a:Key)=Sum.inr b)=false:=decide_eq_false (fun q=>nomatch q)
theorem J2 (a:Str) (b:Int):decide ((Sum.inr a:Key)=Sum.inl b)=false:=decide_eq_false (fun q=>nomatch q)
noncomputable def Bz (prog:Program) (w:World):PySem.KeyKind prog w Key where
 is:=JP
 hash:=Pl w
 inj:=fun v a b ha hb=>by
   rcases cx ha with ⟨i,t,rfl,rfl⟩ | ⟨x,t,rfl,rfl⟩
   · rcases cx hb with ⟨j,u,rfl,e⟩ | ⟨y,u,rfl,e⟩
     · injection e with e1 _; rw [e1]
     · exact nomatch e
   · rcases cx hb with ⟨j,u,rfl,e⟩ | ⟨y,u,rfl,e⟩
     · exact nomatch e
     · injection e with e1 _; rw [e1]
 byValue:=fun k v h=>by
   rcases cx h with ⟨i,t,rfl,rfl⟩ | ⟨x,t,rfl,rfl⟩ <;> rfl
 pyHash:=fun hv h=>by
   rcases cx hv with ⟨i,t,rfl,rfl⟩ | ⟨x,t,rfl,rfl⟩
   · exact wpAny_pyHash_int h
   · exact wpAny_pyHash_str h
 eqBool:=fun hu hv h=>by
   rcases cx hu with ⟨i,t,rfl,rfl⟩ | ⟨x,t,rfl,rfl⟩
   · rcases cx hv with ⟨j,u,rfl,rfl⟩ | ⟨y,u,rfl,rfl⟩
     · rw [NB] at h; exact wpAny_eqBool_int h
     · rw [Ki] at h; exact SeqAt.EqAt.int_str i t y u _ _ _ _ h
   · rcases cx hv with ⟨j,u,rfl,rfl⟩ | ⟨y,u,rfl,rfl⟩
     · rw [J2] at h; exact SeqAt.EqAt.str_int x t j u _ _ _ _ h
     · rw [Kz] at h; exact wpAny_eqBool_str h
 «strs»:=fun k x t v h=>by
   rcases cx h with ⟨i,u,rfl,e⟩ | ⟨y,u,rfl,e⟩
   · exact nomatch e
   · injection e with e1 _
     subst e1
     cases v <;> rfl
end L2
namespace L2
open PySem PySem.Spec PyProof.Rows
inductive V where
 | non | bl (b:Bool) | int (i:Int) | str (x:Str) | byt (b:Array UInt8) | flt (b:UInt64) | ref (a:Addr) | ty (n:String)
 deriving DecidableEq
noncomputable def RelV:V→Value→Prop
 | .non,u=>u=Value.none
 | .bl b,u=>u=Value.bool b
 | .int i,u=>∃ t,u=Value.int i t
 | .str x,u=>∃ t,u=Value.str x t
 | .byt b,u=>∃ t,u=Value.bytes b t
 | .flt b,u=>∃ t,u=Value.float b t
 | .ref a,u=>u=Value.ref a
 | .ty n,u=>u=Value.type n
noncomputable abbrev Vals:List V→List Value→Prop:=Paired RelV
theorem Vals.length {xs:List V} {us:List Value} (r:Vals xs us):xs.length=us.length:=Paired.length r
theorem Vals.get:∀ {xs:List V} {us:List Value} {i:Nat} {x:V},Vals xs us→xs[i]?=some x→∃ u,us[i]?=some u∧RelV x u
 | _,_,_,_,.nil,e=>by simp at e
 | _,_,0,_,.cons r _,e=>by simp at e; subst e; exact ⟨_,rfl,r⟩
 | _,_,i + 1,x,.cons _ t,e=>by
   obtain ⟨u,h1,h2⟩:=Vals.get (i:=i) (x:=x) t (by simpa using e)
   exact ⟨u,by simpa using h1,h2⟩
theorem Vals.set {x:V} {u:Value} (r:RelV x u):∀ {xs:List V} {us:List Value} (i:Nat),Vals xs us→Vals (xs.set i x) (us.set i u)
 | _,_,_,.nil=>.nil
 | _,_,0,.cons _ t=>.cons r t
 | _,_,i + 1,.cons q t=>.cons q (Vals.set r i t)
theorem Vals.append:∀ {xs ys:List V} {us ws:List Value},Vals xs us→Vals ys ws→Vals (xs++ys) (us++ws)
 | _,_,_,_,.nil,s=>s
 | _,_,_,_,.cons r t,s=>.cons r (Vals.append t s)
theorem Vals.take:∀ {xs:List V} {us:List Value} (n:Nat),Vals xs us→Vals (xs.take n) (us.take n)
 | _,_,0,_=>.nil
 | _,_,_ + 1,.nil=>.nil
 | _,_,n + 1,.cons r t=>.cons r (Vals.take n t)
theorem Vals.drop:∀ {xs:List V} {us:List Value} (n:Nat),Vals xs us→Vals (xs.drop n) (us.drop n)
 | _,_,0,r=>r
 | _,_,_ + 1,.nil=>.nil
 | _,_,n + 1,.cons _ t=>Vals.drop n t
noncomputable def NN:Option V→Option Value→Prop
 | some v,some u=>RelV v u
 | none,none=>True
 | _,_=>False
noncomputable def KV {κ:Type}:List (κ × V)→List (κ × Value)→Prop:=Paired fun (p:κ × V) (q:κ × Value)=>p.1=q.1∧RelV p.2 q.2
noncomputable def kV:Key→V
 | .inl i=>.int i
 | .inr x=>.str x
inductive HO where
 | lst (xs:List V)
 | tup (xs:List V)
 | dK (kvs:List (Key × V)) | dT (kvs:List (List Key × V))
 | set (S:Int→Bool) (n:Nat)
 | ins (C dx:Addr) (fs:List (Str × V))
 | own (x:Addr)
 | xd (fs:List (Str × V))
 | met (f x:Addr)
 | rng (lo hi:Int)
 | frz (o:Obj) (u:HO)
 | tbl (ps:Array Value)
 | ext (φ:Heap→Prop)
noncomputable abbrev Hp:=Addr→Option HO
noncomputable def upd (H:Hp) (a:Addr) (o:HO):Hp:=fun b=>if b=a then some o else H b
theorem cV {H:Hp} {a:Addr} {o:HO}:upd H a o a=some o:=by unfold upd; rw [if_pos rfl]
theorem aF {H:Hp} {a b:Addr} {o:HO} (h:b ≠ a):upd H a o b=H b:=by unfold upd; rw [if_neg h]
theorem HQ {H:Hp} {a:Addr} {o u:HO}:upd (upd H a o) a u=upd H a u:=by
 funext b; unfold upd; split <;> rfl
theorem aG {H:Hp} {a b:Addr} {o:HO} (h:H a=some o) (h':H b=none):a ≠ b:=by
 intro e; subst e; rw [h] at h'; cases h'
section
variable (P:Program) (w:World)
noncomputable def iN (H:Hp) (h:Heap) (a:Addr):HO→Prop
 | .lst xs=>xs.length≤sizeLine∧∃ (its:List Value) (n:Nat),Vals xs its∧h.get? a=some { cls:=.type "list",data:=.seq its.toArray n }
 | .tup xs=>xs.length≤sizeLine∧∃ its:List Value,Vals xs its∧IsTup h a its.toArray
 | .dK kvs=>kvs.length≤sizeLine∧(a == sysModules)=false∧∃ vs,KV kvs vs∧h.DictOf (Bz P w) a vs
 | .dT kvs=>kvs.length≤sizeLine∧(a == sysModules)=false∧∃ xs:List (List Key × Addr × Value),
     Paired (fun (p:List Key × V) (q:List Key × Addr × Value)=>p.1=q.1∧H q.2.1=some (.tup (p.1.map kV))∧RelV p.2 q.2.2) kvs xs ∧
     ∃ o es ep,h.get? a=some o∧o.ExactDict∧o.data=.dict es ep∧es.toList=xs.map (entryOfKey (tupleKind (Bz P w)))∧(xs.map (·.1)).Nodup
 | .set S n=>h.SetOf (intKind P w) a S n
 | .ins C dx fs=>H dx=some (.own a)∧fs.length≤1000∧dx ≠ a∧h.get? a=some (PySem.W.instObj C dx) ∧
     ∃ mA,h.Ns1 dx mA∧(∀ f,NN (fs.lookup f) (mA f))∧PySem.Within mA (fs.map (·.1))
 | .own _=>∃ o,h.get? a=some o
 | .xd fs=>∃ mA,h.Ns1 a mA∧∀ f,NN (fs.lookup f) (mA f)
 | .rng lo hi=>∃ t u v,h.get? a=some { cls:=.type "range",data:=.fields #[.int lo t,.int hi u,.int 1 v] }
 | .frz o u=>h.get? a=some o∧iN H h a u
 | .tbl ps=>h.get? a=some { cls:=.none,data:=.fields ps }
 | .met f x=>h.get? a=some (PySem.W.methodObj (.ref f) (.ref x))
 | .ext φ=>φ h∧(∃ o,h.get? a=some o)∧∀ h1 h2:Heap,φ h1→(∀ o,h1.get? a=some o→h2.get? a=some o)→φ h2
noncomputable def HOk (H:Hp) (h:Heap):Prop:=∀ a o,H a=some o→iN P w H h a o
end
section
variable {P:Program} {w:World} {H H':Hp} {h h':Heap} {a:Addr} {o:HO}
theorem iN.lt (x:iN P w H h a o):a < h.objs.size:=by
 cases o with
 | lst xs=>obtain ⟨_,_,_,_,e⟩:=x; exact Heap.lt_size e
 | tup xs=>obtain ⟨_,_,_,p⟩:=x; exact p.lt
 | dK kvs=>obtain ⟨_,_,_,_,o,_,_,e,_⟩:=x; exact Heap.lt_size e
 | dT kvs=>obtain ⟨_,_,_,_,o,_,_,e,_⟩:=x; exact Heap.lt_size e
 | set S n=>obtain ⟨o,_,_,_,e,_⟩:=x; exact Heap.lt_size e
 | ins C dx fs=>obtain ⟨_,_,_,e,_⟩:=x; exact Heap.lt_size e
 | own y=>obtain ⟨_,e⟩:=x; exact Heap.lt_size e
 | xd fs=>obtain ⟨_,⟨_,_,_,e,_⟩,_⟩:=x; exact Heap.lt_size e
 | rng lo hi=>obtain ⟨_,_,_,e⟩:=x; exact Heap.lt_size e
 | frz ob u=>obtain ⟨e,_⟩:=x; exact Heap.lt_size e
 | tbl ps=>exact Heap.lt_size (show h.get? a=some _ from x)
 | met f y=>exact Heap.lt_size (show h.get? a=some _ from x)
 | ext φ=>obtain ⟨_,⟨_,e⟩,_⟩:=x; exact Heap.lt_size e
theorem Paired.N9 {α β:Type} {F G:α→β→Prop}:∀ {l₁:List α} {l₂:List β},Paired F l₁ l₂→(∀ a b,F a b→G a b)→Paired G l₁ l₂
 | _,_,.nil,_=>.nil
 | _,_,.cons r t,f=>.cons (f _ _ r) (Paired.N9 t f)
theorem iN.nH (x:iN P w H h a o) (k:∀ b u,(b=a∨H b=some (.own a))→h.get? b=some u→h'.get? b=some u)
   (ho:∀ b,H b=some (.own a)→H' b=some (.own a)) (ht:∀ b xs,H b=some (.tup xs)→H' b=some (.tup xs)):iN P w H' h' a o:=by
 induction o with
 | lst xs=>obtain ⟨z,its,n,r,e⟩:=x; exact ⟨z,its,n,r,k _ _ (.inl rfl) e⟩
 | tup xs=>obtain ⟨z,its,r,ob,e,c⟩:=x; exact ⟨z,its,r,ob,k _ _ (.inl rfl) e,c⟩
 | dK kvs=>obtain ⟨z,y,vs,r,ob,es,ep,e,c⟩:=x; exact ⟨z,y,vs,r,ob,es,ep,k _ _ (.inl rfl) e,c⟩
 | dT kvs=>
   obtain ⟨z,y,xs,r,ob,es,ep,e,c⟩:=x
   exact ⟨z,y,xs,Paired.N9 r fun p q z=>⟨z.1,ht _ _ z.2.1,z.2.2⟩,ob,es,ep,k _ _ (.inl rfl) e,c⟩
 | set S n=>obtain ⟨ob,es,ep,t,e,c⟩:=x; exact ⟨ob,es,ep,t,k _ _ (.inl rfl) e,c⟩
 | ins C dx fs=>
   obtain ⟨d,z,ne,e,mA,⟨od,es,ep,e2,c⟩,r⟩:=x
   exact ⟨ho _ d,z,ne,k _ _ (.inl rfl) e,mA,⟨od,es,ep,k _ _ (.inr d) e2,c⟩,r⟩
 | own y=>obtain ⟨ob,e⟩:=x; exact ⟨ob,k _ _ (.inl rfl) e⟩
 | xd fs=>obtain ⟨mA,⟨od,es,ep,e,c⟩,r⟩:=x; exact ⟨mA,⟨od,es,ep,k _ _ (.inl rfl) e,c⟩,r⟩
 | rng lo hi=>obtain ⟨t,u,v,e⟩:=x; exact ⟨t,u,v,k _ _ (.inl rfl) e⟩
 | frz ob u ih=>obtain ⟨e,q⟩:=x; exact ⟨k _ _ (.inl rfl) e,ih q⟩
 | tbl ps=>
   have e:h.get? a=some { cls:=.none,data:=.fields ps }:=x
   show h'.get? a=some { cls:=.none,data:=.fields ps }
   exact k a _ (.inl rfl) e
 | met f y=>
   have e:h.get? a=some (PySem.W.methodObj (.ref f) (.ref y)):=x
   show h'.get? a=some (PySem.W.methodObj (.ref f) (.ref y))
   exact k a _ (.inl rfl) e
 | ext φ=>obtain ⟨p,⟨o,e⟩,st⟩:=x; exact ⟨st _ _ p fun o q=>k _ _ (.inl rfl) q,⟨o,k _ _ (.inl rfl) e⟩,st⟩
theorem HOk.lt (x:HOk P w H h) (e:H a=some o):a < h.objs.size:=(x a o e).lt
theorem HOk.fresh (x:HOk P w H h) (e:h.objs.size≤a):H a=none:=by
 cases q:H a with
 | none=>rfl
 | some u=>exact absurd (Nat.lt_of_lt_of_le (x.lt q) e) (Nat.lt_irrefl _)
theorem HOk.kept (x:HOk P w H h) (k:∀ b u,h.get? b=some u→h'.get? b=some u):HOk P w H h':=fun a o e=>
 (x a o e).nH (fun b u _ q=>k b u q) (fun _ q=>q) fun _ _ q=>q
theorem HOk.laid (x:HOk P w H h) (k:∀ b u,h.get? b=some u→h'.get? b=some u) (hp:h.objs.size≤a) (new:iN P w (upd H a o) h' a o):HOk P w (upd H a o) h':=fun b u e=>by
 have hn:=x.fresh hp
 by_cases hb:b=a
 · subst hb; rw [cV] at e; cases e; exact new
 · rw [aF hb] at e
   exact (x b u e).nH (fun c v _ q=>k c v q) (fun c q=>by rw [aF (aG q hn)]; exact q) fun c xs q=>by rw [aF (aG q hn)]; exact q
end
noncomputable def Rd (H:Hp) (a:Addr) (u:HO):Prop:=H a=some u∨∃ o,H a=some (.frz o u)
theorem Rd.ok {P:Program} {w:World} {H:Hp} {h:Heap} {a:Addr} {u:HO} (r:Rd H a u) (x:HOk P w H h):iN P w H h a u:=by
 rcases r with r | ⟨o,r⟩
 · exact x a u r
 · obtain ⟨_,q⟩:=x a _ r
   exact q
noncomputable def Mut:Option HO→Prop
 | some (.lst _)=>True
 | some (.dK _)=>True
 | some (.dT _)=>True
 | some (.set _ _)=>True
 | some (.ins _ _ _)=>True
 | some (.ext _)=>True
 | _=>False
section
variable {P:Program} {w:World} {H:Hp} {h h':Heap} {x e:Addr} {o':HO}
theorem HOk.write (ok:HOk P w H h) (mu:Mut (H x)) (he:e=x∨H e=some (.own x)) (k:∀ b u,b ≠ e→h.get? b=some u→h'.get? b=some u) (heo:∃ u,h'.get? e=some u)
   (new:iN P w (upd H x o') h' x o'):HOk P w (upd H x o') h':=fun b u q=>by
 have nown:∀ c y,H c=some (.own y)→c ≠ x:=fun c y r z=>by subst z; rw [r] at mu; exact mu
 have ntup:∀ c xs,H c=some (.tup xs)→c ≠ x:=fun c xs r z=>by subst z; rw [r] at mu; exact mu
 by_cases hb:b=x
 · subst hb; rw [cV] at q; cases q; exact new
 · rw [aF hb] at q
   by_cases hbe:b=e
   · have q':H b=some (.own x):=by
       rcases he with z | z
       · exact absurd (hbe.trans z) hb
       · rw [hbe]; exact z
     rw [q] at q'; cases q'
     obtain ⟨v,hv⟩:=heo
     exact ⟨v,by rw [hbe]; exact hv⟩
   · refine (ok b u q).nH (fun c v hc r=>k c v ?_ r) (fun c r=>by rw [aF (nown c b r)]; exact r) fun c xs r=>by rw [aF (ntup c xs r)]; exact r
     rcases hc with rfl | hc
     · exact hbe
     · rintro rfl
       rcases he with z | z
       · exact nown c b hc z
       · rw [hc] at z; cases z; exact hb rfl
end
structure Un (fs ex:List Addr) (H H':Hp) (h h':Heap):Prop where
 keep:∀ b o,h.get? b=some o→H b=none→b ∉ fs→b ∉ ex→h'.get? b=some o
 slot:∀ b o,h.get? b=some o→H b=none→b ∈ fs→b ∉ ex→∃ sl,h'.get? b=some { o with slots:=sl }
 free:∀ b o,h.get? b=some o→H b=none→b ∉ ex→H' b=none
 there:∀ b o,h.get? b=some o→b ∉ ex→∃ o',h'.get? b=some o'
 tups:∀ b xs,H b=some (.tup xs)→H' b=some (.tup xs)
 frzs:∀ b o u,H b=some (.frz o u)→H' b=some (.frz o u)
 tbls:∀ b ps,H b=some (.tbl ps)→∃ more,H' b=some (.tbl (ps++more))
section
variable {fs fs' ex ex':List Addr} {H H1 H2:Hp} {h h1 h2 h':Heap} {a x e:Addr} {o:HO}
theorem Un.any (u:Un fs ex H H1 h h1) {b:Addr} {ob:Obj} (q:h.get? b=some ob) (n:H b=none) (hx:b ∉ ex):∃ sl,h1.get? b=some { ob with slots:=sl }:=by
 by_cases hb:b ∈ fs
 · exact u.slot b ob q n hb hx
 · exact ⟨ob.slots,u.keep b ob q n hb hx⟩
theorem Un.kept (k:∀ b u,h.get? b=some u→h'.get? b=some u):Un fs ex H H h h':=
 ⟨fun b ob q _ _ _=>k b ob q,fun b ob q _ _ _=>⟨ob.slots,k b ob q⟩,fun _ _ _ n _=>n,fun b ob q _=>⟨ob,k b ob q⟩,fun _ _ q=>q,fun _ _ _ q=>q,fun _ ps q=>⟨#[],by rw [q]; simp⟩⟩
theorem Un.refl:Un fs ex H H h h:=Un.kept fun _ _ q=>q
theorem Un.laid (k:∀ b u,h.get? b=some u→h'.get? b=some u) (hp:h.objs.size≤a) (hn:H a=none):Un fs ex H (upd H a o) h h' where
 keep:=fun b u q _ _ _=>k b u q
 slot:=fun b u q _ _ _=>⟨u.slots,k b u q⟩
 free:=fun b u q n _=>by rw [aF (Nat.ne_of_lt (Nat.lt_of_lt_of_le (Heap.lt_size q) hp))]; exact n
 there:=fun b u q _=>⟨u,k b u q⟩
 tups:=fun b xs q=>by rw [aF (aG q hn)]; exact q
 frzs:=fun b u xs q=>by rw [aF (aG q hn)]; exact q
 tbls:=fun b ps q=>⟨#[],by rw [aF (aG q hn),q]; simp⟩
theorem Un.write (mu:Mut (H x)) (he:e=x∨H e=some (.own x)) (k:∀ b u,b ≠ e→h.get? b=some u→h'.get? b=some u) (heo:∃ u,h'.get? e=some u):Un fs ex H (upd H x o) h h':=by
 have hx:∀ b,H b=none→b ≠ x:=fun b n z=>by subst z; rw [n] at mu; exact mu
 have hb:∀ b,H b=none→b ≠ e:=fun b n z=>by
   subst z
   rcases he with r | r
   · exact hx b n r
   · rw [n] at r; cases r
 have hm:∀ b u,H b=some u→¬ Mut (some u)→b ≠ x:=fun b u q nm z=>by subst z; rw [q] at mu; exact nm mu
 refine ⟨fun b u q n _ _=>k b u (hb b n) q,fun b u q n _ _=>⟨u.slots,k b u (hb b n) q⟩,fun b u q n _=>by rw [aF (hx b n)]; exact n,fun b u q _=>?_,
   fun b xs q=>by rw [aF (hm b _ q fun z=>z)]; exact q,fun b u xs q=>by rw [aF (hm b _ q fun z=>z)]; exact q,fun b ps q=>⟨#[],by rw [aF (hm b _ q fun z=>z),q]; simp⟩⟩
 by_cases hbe:b=e
 · subst hbe; exact heo
 · exact ⟨u,k b u hbe q⟩
end
noncomputable def trk (h:Heap) (H:Hp):List Addr:=(List.range h.objs.size).filter fun a=>(H a).isSome
noncomputable def vo (h:Heap) (H:Hp):Heap:=PySem.W.hideAll h (trk h H)
theorem B3 (h:Heap) (H:Hp):(vo h H).objs.size=h.objs.size:=PySem.W.hideAll_size _ _
theorem Gb {h:Heap} {H:Hp} {b:Addr} {o:Obj} (e:h.get? b=some o) (n:H b=none):(vo h H).get? b=some o:=
 PySem.W.hideAll_get _ e fun hm=>by
   have q:(H b).isSome=true:=(List.mem_filter.mp hm).2
   rw [n] at q; simp at q
theorem HK {h:Heap} {H:Hp} {b:Addr} {o:Obj} (e:(vo h H).get? b=some o):h.get? b=some o∧H b=none:=by
 have e':h.get? b=some o:=PySem.W.of_hideAll (trk h H) e
 refine ⟨e',?_⟩
 cases q:H b with
 | none=>rfl
 | some x=>
   have hm:b ∈ trk h H:=List.mem_filter.mpr ⟨List.mem_range.mpr (Heap.lt_size e'),by simp [q]⟩
   have z:(vo h H).get? b=none:=PySem.W.hideAll_none (trk h H) hm
   rw [z] at e; cases e
noncomputable def IB (g h:Heap) (L:Addr):List (Addr × Obj):=(List.range h.objs.size).filterMap fun a=>if a=L∨(g.get? a).isSome=true then none else (h.get? a).map fun o=>(a,o)
noncomputable def rest (g h:Heap) (L d:Addr):List (Addr × Obj):=(IB g h L).filter fun p=>decide (p.1 ≠ d)
end L2
namespace L2
open PySem PySem.Spec PyProof.Rows
structure Mod (K:PySem.W.Frag) (mg:Str→Option Value) (base:Heap):Prop where
 kin:K.In base
 glob:base.Ns mainGlobals mg
 blt:∃ mb,base.Ns builtinsNs mb∧∀ x:Str,x ≠ "__name__" → mb x=bootBuiltins x
 nolimit:base.NoLimit
structure Cx where
 prog:Program
 w:World
 K:PySem.W.Frag
 mg:Str→Option Value
 base:Heap
 A:Around
 N:List Str
 s₀:Shared
 H₀:Hp
 env:Env
 outer:List Env
 stack:List Env
 ex:List Addr
 fn:Str→Bool
 calm:Bool
 pn:List (Addr × Obj)
 xe:Value→Shared→Prop
noncomputable def frs (l:List Env):List Addr:=l.filterMap (·.frame)
noncomputable abbrev Cx.fs (X:Cx):List Addr:=frs X.outer
noncomputable def Vis (sc:Scope) (x:Str):Prop:=sc.names.lookup x=some .local∨sc.names.lookup x=some .cell∨sc.names.lookup x=some .free
noncomputable def Loc (sc:Scope) (x:Str):Prop:=sc.names.lookup x=some .local∨sc.names.lookup x=some .cell
noncomputable def Look (env:Env) (h:Heap) (m:Str→Option Value) (x:Str) (u:Value):Prop:=
 (env.kindOf x=some .local∧m x=some u)∨((env.kindOf x=some .cell∨env.kindOf x=some .free)∧∃ c,env.cells.lookup x=some c∧h.IsCell c (some u))
structure Cx.Ok (X:Cx):Prop where
 mod:Mod X.K X.mg X.base
 kind:X.env.scope.kind=.function
 glob:X.env.globals=mainGlobals
 blt:X.env.builtins=builtinsNs
 above:X.s₀.heap.objs.size≤X.env.locals
 inj:∀ x y c,X.env.cells.lookup x=some c→X.env.cells.lookup y=some c→x=y
 has:∀ x,(X.env.kindOf x=some .cell∨X.env.kindOf x=some .free)→∃ c,X.env.cells.lookup x=some c
 cab:∀ x c,X.fn x=true→X.env.cells.lookup x=some c→X.s₀.heap.objs.size≤c
 hd:X.calm=true→X.A.handled=none
 frames:X.A.frames=some X.stack
 stk:X.stack=X.outer∨(X.stack=X.env :: X.outer∧X.env.frame=some X.env.locals)
 exf:∀ b ∈ X.ex,b ≠ X.env.locals∧∀ x c,X.env.cells.lookup x=some c→c ≠ b
 bs:∀ b o,X.base.get? b=some o→X.s₀.heap.get? b=some o∧X.H₀ b=none
 bsz:X.base.objs.size≤X.s₀.heap.objs.size
 noex:∀ b o,X.base.get? b=some o→b ∉ X.ex
 exfs:∀ b ∈ X.ex,b ∉ X.fs
 qm:X.s₀.heap.FunFrames X.base X.outer
 frf:∀ b ∈ X.fs,X.H₀ b=none
structure Inv (X:Cx) (pins:List (Addr × Obj)) (σ:List (Option V)) (H:Hp) (s:Shared):Prop where
 ok:X.Ok
 os:s.os=X.s₀.os
 bare:AllBare s.gens
 base:Un X.fs X.ex X.H₀ H X.s₀.heap s.heap
 loc:∃ m,s.heap.Ns X.env.locals m∧∀ (i:Nat) (x:Str) (v:V),X.N[i]?=some x→σ[i]?=some (some v)→Vis X.env.scope x→∃ u,RelV v u∧Look X.env s.heap m x u
 cell:∀ x c,X.env.cells.lookup x=some c→∃ v,s.heap.IsCell c v
 free:H X.env.locals=none
 freeC:∀ x c,X.env.cells.lookup x=some c→H c=none
 pin:∀ p ∈ X.pn++pins,s.heap.get? p.1=some p.2∧H p.1=none∧p.1 ≠ X.env.locals∧p.1 ∉ X.fs∧∀ v,p.2.data ≠ .cell v
 hok:HOk X.prog X.w H s.heap
 len:σ.length=X.N.length
section
variable {X:Cx} {pins:List (Addr × Obj)} {σ:List (Option V)} {H H':Hp} {s:Shared} {h':Heap}
theorem Cx.Ok.PR (ok:X.Ok) {b:Addr} {o:Obj} (e:X.base.get? b=some o):b ∉ X.fs:=fun hb=>by
 have:=(ok.qm.mem hb).1
 rw [e] at this; cases this
theorem Inv.bs (I:Inv X pins σ H s):∀ b o,X.base.get? b=some o→s.heap.get? b=some o∧H b=none:=fun b o e=>
 ⟨I.base.keep b o (I.ok.bs b o e).1 (I.ok.bs b o e).2 (I.ok.PR e) (I.ok.noex b o e),I.base.free b o (I.ok.bs b o e).1 (I.ok.bs b o e).2 (I.ok.noex b o e)⟩
theorem Inv.bk (I:Inv X pins σ H s):∀ b o,X.base.get? b=some o→s.heap.get? b=some o:=fun b o e=>(I.bs b o e).1
theorem Inv.mod (I:Inv X pins σ H s):Mod X.K X.mg X.base:=I.ok.mod
theorem Inv.kIn (I:Inv X pins σ H s):X.K.In s.heap:=I.ok.mod.kin.keeps I.bk
theorem Inv.lt (I:Inv X pins σ H s):X.env.locals < s.heap.objs.size:=let ⟨_,hn,_⟩:=I.loc; hn.lt
theorem Inv.sz (I:Inv X pins σ H s):X.s₀.heap.objs.size≤s.heap.objs.size:=Nat.le_trans I.ok.above (Nat.le_of_lt I.lt)
theorem Inv.PU (I:Inv X pins σ H s) {a:Addr} (h:s.heap.objs.size≤a):a ∉ X.fs:=fun hb=>by
 obtain ⟨_,o,ho,_⟩:=I.ok.qm.mem hb
 exact absurd (Nat.lt_of_lt_of_le (Heap.lt_size ho) (Nat.le_trans I.sz h)) (Nat.lt_irrefl _)
theorem Inv.cne (I:Inv X pins σ H s):∀ x c,X.env.cells.lookup x=some c→c ≠ X.env.locals:=fun x c e z=>by
 obtain ⟨v,o,ho,hd⟩:=I.cell x c e
 obtain ⟨m,⟨o',es,ep,ho',hd',_⟩,_⟩:=I.loc
 rw [z,ho'] at ho; cases ho; rw [hd'] at hd; cases hd
theorem Inv.qm (I:Inv X pins σ H s):s.heap.FunFrames X.base X.outer:=by
 have all:∀ (l:List Env),(∀ b ∈ frs l,b ∈ X.fs)→X.s₀.heap.FunFrames X.base l→s.heap.FunFrames X.base l:=by
   intro l
   induction l with
   | nil=>intro _ _; trivial
   | cons env r ih=>
     intro hs hl
     obtain ⟨hk,⟨L,o,hf,hn,ho,hd⟩,hr⟩:=hl
     have hL:L ∈ X.fs:=hs L (by unfold frs; rw [List.filterMap_cons,hf]; exact List.mem_cons_self)
     obtain ⟨sl,e⟩:=I.base.slot L o ho (I.ok.frf L hL) hL fun z=>I.ok.exfs L z hL
     exact ⟨hk,⟨L,_,hf,hn,e,hd⟩,ih (fun b hb=>hs b (by unfold frs; rw [List.filterMap_cons,hf]; exact List.mem_cons_of_mem _ hb)) hr⟩
 exact all X.outer (fun _ hb=>hb) I.ok.qm
theorem Inv.stack (I:Inv X pins σ H s):s.heap.FunFrames X.base X.stack:=by
 rcases I.ok.stk with e | ⟨e,hf⟩
 · rw [e]; exact I.qm
 · rw [e]
   obtain ⟨m,hn,_⟩:=I.loc
   refine .cons (by rw [I.ok.kind]; decide) hf hn ?_ I.qm
   exact Heap.get?_none_of_le (Nat.le_trans I.ok.bsz I.ok.above)
theorem Inv.y7 (I:Inv X pins σ H s):∀ b ∈ frs X.stack,b ∈ X.env.locals :: X.fs:=fun b hb=>by
 rcases I.ok.stk with e | ⟨e,hf⟩
 · rw [e] at hb; exact List.mem_cons_of_mem _ hb
 · rw [e] at hb
   unfold frs at hb
   rw [List.filterMap_cons,hf] at hb
   exact hb
theorem Inv.AH (I:Inv X pins σ H s):∀ b ∈ frs X.stack,H b=none:=fun b hb=>by
 rcases List.mem_cons.mp (I.y7 b hb) with e | hb
 · rw [e]; exact I.free
 · obtain ⟨_,o,ho,_⟩:=I.ok.qm.mem hb
   exact I.base.free b o ho (I.ok.frf b hb) fun z=>I.ok.exfs b z hb
theorem Inv.step {g':Array GenState} {t':Nat} {d':Drawn} {ch:List Addr} (I:Inv X pins σ H s)
   (hch:∀ b ∈ ch,(b ∈ X.ex∨X.s₀.heap.objs.size≤b)∧b ≠ X.env.locals∧(∀ x c,X.env.cells.lookup x=some c→c ≠ b)∧∀ p ∈ X.pn++pins,p.1 ≠ b)
   (keep:∀ b o,b ≠ X.env.locals→b ∉ X.fs→b ∉ ch→s.heap.get? b=some o→H b=none→h'.get? b=some o)
   (slot:∀ b o,b ≠ X.env.locals→b ∈ X.fs→b ∉ ch→s.heap.get? b=some o→H b=none→∃ sl,h'.get? b=some { o with slots:=sl }) (free:∀ b o,b ∉ ch→s.heap.get? b=some o→H b=none→H' b=none)
   (there:∀ b o,b ∉ ch→s.heap.get? b=some o→∃ o',h'.get? b=some o')
   (tups:∀ b xs,H b=some (.tup xs)→H' b=some (.tup xs)) (frzs:∀ b o u,H b=some (.frz o u)→H' b=some (.frz o u)) (tbls:∀ b ps,H b=some (.tbl ps)→∃ more,H' b=some (.tbl (ps++more)))
   (ns:∀ m,s.heap.Ns X.env.locals m→h'.Ns X.env.locals m) (hok:HOk X.prog X.w H' h') (hg:AllBare g') :
   Inv X pins σ H' { s with heap:=h',gens:=g',drawn:=d',toks:=t' }:=by
 have neL:∀ b o,X.s₀.heap.get? b=some o→b ≠ X.env.locals:=fun b o e=>Nat.ne_of_lt (Nat.lt_of_lt_of_le (Heap.lt_size e) I.ok.above)
 have neC:∀ b o,X.s₀.heap.get? b=some o→b ∉ X.ex→b ∉ ch:=fun b o e hx hb=>by
   rcases (hch b hb).1 with z | z
   · exact hx z
   · exact absurd (Nat.lt_of_lt_of_le (Heap.lt_size e) z) (Nat.lt_irrefl _)
 have cellK:∀ x c,X.env.cells.lookup x=some c→∀ v,s.heap.IsCell c v→h'.IsCell c v:=fun x c e v ⟨o,ho,hd⟩=>by
   have nch:c ∉ ch:=fun z=>(hch c z).2.2.1 x c e rfl
   by_cases hc:c ∈ X.fs
   · obtain ⟨sl,q⟩:=slot c o (I.cne x c e) hc nch ho (I.freeC x c e)
     exact ⟨_,q,hd⟩
   · exact ⟨o,keep c o (I.cne x c e) hc nch ho (I.freeC x c e),hd⟩
 refine ⟨I.ok,I.os,hg,⟨fun b o e n hb hx=>?_,fun b o e n hb hx=>?_,fun b o e n hx=>?_,fun b o e hx=>?_,fun b xs e=>tups b xs (I.base.tups b xs e),fun b o xs e=>frzs b o xs (I.base.frzs b o xs e),fun b ps e=>?_⟩,?_,fun x c e=>?_,?_,fun x c e=>?_,fun p hp=>?_,hok,I.len⟩
 · exact keep b o (neL b o e) hb (neC b o e hx) (I.base.keep b o e n hb hx) (I.base.free b o e n hx)
 · obtain ⟨sl,e1⟩:=I.base.slot b o e n hb hx
   obtain ⟨sl',e2⟩:=slot b _ (neL b o e) hb (neC b o e hx) e1 (I.base.free b o e n hx)
   exact ⟨sl',e2⟩
 · obtain ⟨o',e1⟩:=I.base.there b o e hx
   exact free b o' (neC b o e hx) e1 (I.base.free b o e n hx)
 · obtain ⟨o',e1⟩:=I.base.there b o e hx
   exact there b o' (neC b o e hx) e1
 · obtain ⟨m1,e1⟩:=I.base.tbls b ps e
   obtain ⟨m2,e2⟩:=tbls b _ e1
   exact ⟨m1++m2,by rw [e2,Array.append_assoc]⟩
 · obtain ⟨m,hn,hl⟩:=I.loc
   refine ⟨m,ns m hn,fun i x v e1 e2 e3=>?_⟩
   obtain ⟨u,r,l⟩:=hl i x v e1 e2 e3
   refine ⟨u,r,?_⟩
   rcases l with l | ⟨k,c,e,z⟩
   · exact .inl l
   · exact .inr ⟨k,c,e,cellK x c e _ z⟩
 · obtain ⟨v,z⟩:=I.cell x c e
   exact ⟨v,cellK x c e v z⟩
 · obtain ⟨m,⟨o,_,_,ho,_⟩,_⟩:=I.loc
   exact free _ o (fun z=>(hch _ z).2.1 rfl) ho I.free
 · obtain ⟨v,o,ho,hd⟩:=I.cell x c e
   exact free c o (fun z=>(hch c z).2.2.1 x c e rfl) ho (I.freeC x c e)
 · obtain ⟨e,n,ne,nf,d⟩:=I.pin p hp
   have nch:p.1 ∉ ch:=fun z=>(hch p.1 z).2.2.2 p hp rfl
   exact ⟨keep p.1 p.2 ne nf nch e n,free p.1 p.2 nch e n,ne,nf,d⟩
theorem Inv.un {t':Nat} (I:Inv X pins σ H s) (u:Un X.fs [] H H' s.heap h') (hok:HOk X.prog X.w H' h'):Inv X pins σ H' { s with heap:=h',toks:=t' }:=by
 obtain ⟨m,⟨o,es,ep,ho,r⟩,_⟩:=id I.loc
 obtain ⟨sl,hL⟩:=u.any ho I.free (by simp)
 exact I.step (g':=s.gens) (d':=s.drawn) (ch:=[]) (fun _ z=>nomatch z) (fun b o _ hb _ e n=>u.keep b o e n hb (by simp)) (fun b o _ hb _ e n=>u.slot b o e n hb (by simp)) (fun b o _ e n=>u.free b o e n (by simp)) (fun b o _ e=>u.there b o e (by simp)) u.tups u.frzs u.tbls (fun m' hm=>by
   obtain ⟨o',es',ep',ho',r'⟩:=hm
   rw [ho] at ho'; cases ho'
   exact ⟨_,es',ep',hL,r'⟩) hok I.bare
theorem Inv.call {g':Array GenState} {t':Nat} {d':Drawn} {ch:List Addr} (I:Inv X pins σ H s) (u:Un (frs X.stack) ch H H' s.heap h') (hok:HOk X.prog X.w H' h') (hg:AllBare g')
   (hch:∀ b ∈ ch,(b ∈ X.ex∨X.s₀.heap.objs.size≤b)∧b ≠ X.env.locals∧(∀ x c,X.env.cells.lookup x=some c→c ≠ b)∧∀ p ∈ X.pn++pins,p.1 ≠ b) :
   Inv X pins σ H' { s with heap:=h',gens:=g',drawn:=d',toks:=t' }:=by
 obtain ⟨m,⟨o,es,ep,ho,r⟩,_⟩:=id I.loc
 obtain ⟨sl,hL⟩:=u.any ho I.free fun z=>(hch _ z).2.1 rfl
 exact I.step (ch:=ch) hch (fun b o hL hb hc e n=>u.keep b o e n (fun z=>(List.mem_cons.mp (I.y7 b z)).elim hL hb) hc) (fun b o _ _ hc e n=>u.any e n hc) (fun b o hc e n=>u.free b o e n hc) (fun b o hc e=>u.there b o e hc) u.tups u.frzs u.tbls (fun m' hm=>by
   obtain ⟨o',es',ep',ho',r'⟩:=hm
   rw [ho] at ho'; cases ho'
   exact ⟨_,es',ep',hL,r'⟩) hok hg
theorem Inv.turned {t':Nat} {it:Addr} (I:Inv X pins σ H s) (k:∀ b o,b ≠ it→s.heap.get? b=some o→h'.get? b=some o) (hn:H it=none) (hL:it ≠ X.env.locals)
   (h1:it ∈ X.ex∨X.s₀.heap.objs.size≤it) (h2:∀ x c,X.env.cells.lookup x=some c→c ≠ it) (h3:∀ p ∈ X.pn++pins,p.1 ≠ it):Inv X pins σ H { s with heap:=h',toks:=t' }:=by
 have nit:∀ b u,H b=some u→b ≠ it:=fun b u e z=>by rw [z,hn] at e; cases e
 refine I.step (g':=s.gens) (d':=s.drawn) (ch:=[it]) (fun b hb=>?_) (fun b o _ _ hc e _=>k b o (fun z=>hc (by simp [z])) e) (fun b o _ _ hc e _=>⟨o.slots,k b o (fun z=>hc (by simp [z])) e⟩) (fun _ _ _ _ n=>n)
   (fun b o hc e=>⟨o,k b o (fun z=>hc (by simp [z])) e⟩) (fun _ _ e=>e) (fun _ _ _ e=>e) (fun b ps e=>⟨#[],by rw [e]; simp⟩) (fun m hm=>?_) (fun b u e=>?_) I.bare
 · have e:b=it:=by simpa using hb
   subst e
   exact ⟨h1,hL,h2,h3⟩
 · obtain ⟨o,es,ep,ho,r⟩:=hm
   exact ⟨o,es,ep,k _ o (Ne.symm hL) ho,r⟩
 · refine (I.hok b u e).nH (fun c v hc q=>k c v ?_ q) (fun _ q=>q) fun _ _ q=>q
   rcases hc with z | z
   · rw [z]; exact nit b u e
   · exact nit c _ z
theorem Inv.tok (I:Inv X pins σ H s) (t:Nat):Inv X pins σ H { s with toks:=t }:=I.un (h':=s.heap) (t':=t) Un.refl I.hok
theorem Inv.kept {t':Nat} (I:Inv X pins σ H s) (k:∀ b u,s.heap.get? b=some u→h'.get? b=some u):Inv X pins σ H { s with heap:=h',toks:=t' }:=I.un (Un.kept k) (I.hok.kept k)
theorem Inv.laid {a:Addr} {o:HO} {t':Nat} (I:Inv X pins σ H s) (k:∀ b u,s.heap.get? b=some u→h'.get? b=some u) (hp:s.heap.objs.size≤a) (new:iN X.prog X.w (upd H a o) h' a o) :
   Inv X pins σ (upd H a o) { s with heap:=h',toks:=t' }:=I.un (Un.laid k hp (I.hok.fresh hp)) (I.hok.laid k hp new)
theorem Inv.write {x e:Addr} {o:HO} {t':Nat} (I:Inv X pins σ H s) (mu:Mut (H x)) (he:e=x∨H e=some (.own x)) (k:∀ b u,b ≠ e→s.heap.get? b=some u→h'.get? b=some u) (heo:∃ u,h'.get? e=some u)
   (new:iN X.prog X.w (upd H x o) h' x o):Inv X pins σ (upd H x o) { s with heap:=h',toks:=t' }:=I.un (Un.write mu he k heo) (I.hok.write mu he k heo new)
theorem Inv.A2 {pins':List (Addr × Obj)} (I:Inv X pins σ H s) (h:∀ p ∈ pins',s.heap.get? p.1=some p.2∧H p.1=none∧p.1 ≠ X.env.locals∧p.1 ∉ X.fs∧∀ v,p.2.data ≠ .cell v):Inv X pins' σ H s:=
 ⟨I.ok,I.os,I.bare,I.base,I.loc,I.cell,I.free,I.freeC,fun p hp=>(List.mem_append.mp hp).elim (fun z=>I.pin p (List.mem_append_left _ z)) (h p),I.hok,I.len⟩
theorem xI {N:List Str} (hN:N.Nodup) {i j:Nat} {x:Str} (a:N[i]?=some x) (b:N[j]?=some x):i=j:=by
 obtain ⟨h1,e1⟩:=List.getElem?_eq_some_iff.mp a
 obtain ⟨h2,e2⟩:=List.getElem?_eq_some_iff.mp b
 exact (List.getElem_inj hN).mp (e1.trans e2.symm)
theorem BB {M:Model} {A:Around} {E:Value→Shared→Prop} {i:Nat} {x:Str} {v:V} {u:Value} {Q:Unit→Shared→Prop} (I:Inv X pins σ H s) (hN:X.N.Nodup) (hi:X.N[i]?=some x) (hx:Loc X.env.scope x) (r:RelV v u)
   (h:∀ s',Inv X pins (σ.set i (some v)) H s'→(∃ a,Heap.SameBut a s.heap s'.heap∧(a=X.env.locals∨X.env.cells.lookup x=some a))→Q () s') (hf:X.fn x=true∨X.env.scope.names.lookup x=some .local:=by first | exact .inl rfl | exact .inr rfl | assumption):wpAny M A (storeName X.env x u) Q E s:=by
 obtain ⟨m,hn,hl⟩:=id I.loc
 have hcls:(X.env.scope.kind == .class || (X.env.scope.kind == .module && X.env.locals != X.env.globals))=false:=by rw [I.ok.kind]; rfl
 have hiσ:i < σ.length:=by rw [I.len]; exact (List.getElem?_eq_some_iff.mp hi).1
 have cne:=I.cne
 have tracked:∀ {a:Addr} {h':Heap},(∃ o,s.heap.get? a=some o∧H a=none)→Heap.SameBut a s.heap h'→HOk X.prog X.w H h':=fun {a h'} ha hs b ob e=>by
   obtain ⟨_,_,hfree⟩:=ha
   refine (I.hok b ob e).nH (fun c w' hc q=>(hs.2 c ?_).trans q) (fun _ q=>q) fun _ _ q=>q
   rintro rfl
   rcases hc with rfl | hc
   · rw [hfree] at e; cases e
   · rw [hfree] at hc; cases hc
 rcases hx with hk | hk
 · refine wpAny_storeName_local hk hn (fun h' hn' hs=>?_) hcls
   obtain ⟨oL,_,_,hoL,_⟩:=id hn
   refine h _ ⟨I.ok,I.os,I.bare,⟨fun b o e n hb hx=>?_,fun b o e n hb hx=>?_,I.base.free,fun b o e hx=>?_,I.base.tups,I.base.frzs,I.base.tbls⟩,⟨_,hn',fun j y v' e1 e2 e3=>?_⟩,fun y c e=>?_,I.free,I.freeC,fun p hp=>?_,tracked ⟨oL,hoL,I.free⟩ hs,by simpa using I.len⟩ ⟨_,hs,.inl rfl⟩
   · exact (hs.2 b (Nat.ne_of_lt (Nat.lt_of_lt_of_le (Heap.lt_size e) I.ok.above))).trans (I.base.keep b o e n hb hx)
   · obtain ⟨sl,e1⟩:=I.base.slot b o e n hb hx
     exact ⟨sl,(hs.2 b (Nat.ne_of_lt (Nat.lt_of_lt_of_le (Heap.lt_size e) I.ok.above))).trans e1⟩
   · obtain ⟨o',e1⟩:=I.base.there b o e hx
     exact ⟨o',(hs.2 b (Nat.ne_of_lt (Nat.lt_of_lt_of_le (Heap.lt_size e) I.ok.above))).trans e1⟩
   · by_cases hj:j=i
     · subst hj
       rw [hi] at e1; cases e1
       rw [List.getElem?_set_self hiσ] at e2
       cases e2
       exact ⟨u,r,.inl ⟨hk,by simp⟩⟩
     · rw [List.getElem?_set_ne (Ne.symm hj)] at e2
       obtain ⟨u',r',q⟩:=hl j y v' e1 e2 e3
       refine ⟨u',r',?_⟩
       rcases q with ⟨k,e⟩ | ⟨k,c,e,z⟩
       · refine .inl ⟨k,?_⟩
         have:y ≠ x:=fun e=>hj (xI hN e1 (e ▸ hi))
         simp [this,e]
       · exact .inr ⟨k,c,e,z.sameBut hs (cne y c e)⟩
   · obtain ⟨w',z⟩:=I.cell y c e
     exact ⟨w',z.sameBut hs (cne y c e)⟩
   · obtain ⟨e,n,ne,nf,d⟩:=I.pin p hp
     exact ⟨(hs.2 p.1 ne).trans e,n,ne,nf,d⟩
 · have hfn:X.fn x=true:=by
     rcases hf with z | z
     · exact z
     · rw [z] at hk; cases hk
   obtain ⟨c,hc⟩:=I.ok.has x (.inl hk)
   obtain ⟨w',z⟩:=I.cell x c hc
   refine wpAny_storeName_cell I.ok.kind hk hc z (fun h' hc' hs=>?_)
   obtain ⟨oc,hoc,hocd⟩:=id z
   refine h { s with heap:=h' } ⟨I.ok,I.os,I.bare,⟨fun b o e n hb hx=>?_,fun b o e n hb hx=>?_,I.base.free,fun b o e hx=>?_,I.base.tups,I.base.frzs,I.base.tbls⟩,⟨m,hn.sameBut hs (Ne.symm (cne x c hc)),fun j y v' e1 e2 e3=>?_⟩,fun y c' e=>?_,I.free,I.freeC,fun p hp=>?_,tracked ⟨oc,hoc,I.freeC x c hc⟩ hs,by simpa using I.len⟩ ⟨c,hs,.inr hc⟩
   · exact (hs.2 b (Nat.ne_of_lt (Nat.lt_of_lt_of_le (Heap.lt_size e) (I.ok.cab x c hfn hc)))).trans (I.base.keep b o e n hb hx)
   · obtain ⟨sl,e1⟩:=I.base.slot b o e n hb hx
     exact ⟨sl,(hs.2 b (Nat.ne_of_lt (Nat.lt_of_lt_of_le (Heap.lt_size e) (I.ok.cab x c hfn hc)))).trans e1⟩
   · obtain ⟨o',e1⟩:=I.base.there b o e hx
     exact ⟨o',(hs.2 b (Nat.ne_of_lt (Nat.lt_of_lt_of_le (Heap.lt_size e) (I.ok.cab x c hfn hc)))).trans e1⟩
   · by_cases hj:j=i
     · subst hj
       rw [hi] at e1; cases e1
       rw [List.getElem?_set_self hiσ] at e2
       cases e2
       exact ⟨u,r,.inr ⟨.inl hk,c,hc,hc'⟩⟩
     · rw [List.getElem?_set_ne (Ne.symm hj)] at e2
       obtain ⟨u',r',q⟩:=hl j y v' e1 e2 e3
       refine ⟨u',r',?_⟩
       rcases q with q | ⟨k,c',e,z'⟩
       · exact .inl q
       · refine .inr ⟨k,c',e,z'.sameBut hs ?_⟩
         rintro rfl
         exact hj (xI hN e1 (I.ok.inj _ _ _ e hc ▸ hi))
   · by_cases hcc:c'=c
     · subst hcc; exact ⟨_,hc'⟩
     · obtain ⟨w2,z2⟩:=I.cell y c' e
       exact ⟨w2,z2.sameBut hs hcc⟩
   · obtain ⟨e,n,ne,nf,d⟩:=I.pin p hp
     refine ⟨(hs.2 p.1 ?_).trans e,n,ne,nf,d⟩
     intro q
     rw [q,hoc] at e
     have q':oc=p.2:=Option.some.inj e
     exact d w' (by rw [← q']; exact hocd)
theorem Ep {M:Model} {A:Around} {E:Value→Shared→Prop} {i:Nat} {x:Str} {v:V} {u:Value} {Q:Unit→Shared→Prop} (I:Inv X pins σ H s) (hN:X.N.Nodup) (hi:X.N[i]?=some x) (hx:Loc X.env.scope x) (r:RelV v u)
   (h:∀ s',Inv X pins (σ.set i (some v)) H s'→Q () s') (hf:X.fn x=true∨X.env.scope.names.lookup x=some .local:=by first | exact .inl rfl | exact .inr rfl | assumption):wpAny M A (storeName X.env x u) Q E s:=
 BB I hN hi hx r (fun s' I' _=>h s' I') hf
theorem Inv.JA {s':Shared} {ch:List Addr} (I:Inv X pins σ H s) (ho:s'.os=s.os) (u:Un (frs X.stack) ch H H' s.heap s'.heap) (hok:HOk X.prog X.w H' s'.heap) (hg:AllBare s'.gens)
   (hch:∀ b ∈ ch,(b ∈ X.ex∨X.s₀.heap.objs.size≤b)∧b ≠ X.env.locals∧(∀ x c,X.env.cells.lookup x=some c→c ≠ b)∧∀ p ∈ X.pn++pins,p.1 ≠ b):Inv X pins σ H' s':=by
 obtain ⟨h',g',d',t',o'⟩:=s'
 have e:o'=s.os:=ho
 subst e
 exact I.call (g':=g') (t':=t') (d':=d') u hok hg hch
end
noncomputable abbrev XK:=Value→Option Addr→Hp→Prop
noncomputable abbrev St:=List (Option V)
noncomputable abbrev VK:=V→Hp→Prop
noncomputable abbrev TE:=St→Hp→VK→Prop
noncomputable abbrev TT:=St→Hp→(Bool→Hp→Prop)→Prop
noncomputable abbrev TA:=St→Hp→(List V→Hp→Prop)→Prop
structure Ends where
 nx:St→Hp→Prop
 rt:VK
 bk:St→Hp→Prop:=fun _ _=>False
 ct:St→Hp→Prop:=fun _ _=>False
noncomputable abbrev TS:=Ends→St→Hp→Prop
noncomputable def EP (X:Cx) (pins:List (Addr × Obj)) (σ:St) (Q:VK) (u:Value) (s':Shared):Prop:=∃ v H',Inv X pins σ H' s'∧RelV v u∧Q v H'
noncomputable def TP (X:Cx) (pins:List (Addr × Obj)) (σ:St) (Q:Bool→Hp→Prop) (b:Bool) (s':Shared):Prop:=∃ H',Inv X pins σ H' s'∧Q b H'
noncomputable def AP (X:Cx) (pins:List (Addr × Obj)) (σ:St) (Q:List V→Hp→Prop) (us:List Value) (s':Shared):Prop:=∃ vs H',Inv X pins σ H' s'∧Vals vs us∧Q vs H'
noncomputable def SP (X:Cx) (pins:List (Addr × Obj)) (D:Ends) (f:Flow) (s':Shared):Prop:=
 match f with
 | .next=>∃ σ' H',Inv X pins σ' H' s'∧D.nx σ' H'
 | .brk=>∃ σ' H',Inv X pins σ' H' s'∧D.bk σ' H'
 | .cont=>∃ σ' H',Inv X pins σ' H' s'∧D.ct σ' H'
 | .ret u=>∃ v σ' H',Inv X pins σ' H' s'∧RelV v u∧D.rt v H'
noncomputable def PE (X:Cx) (e:Expr) (t:TE):Prop:=
 ∀ (pins:List (Addr × Obj)) (s:Shared) (σ:St) (H:Hp) (Q:VK),Inv X pins σ H s→t σ H Q→wpAny (model X.prog X.w) X.A (eval e X.env) (EP X pins σ Q) X.xe s
noncomputable def PT (X:Cx) (e:Expr) (t:TT):Prop:=
 ∀ (pins:List (Addr × Obj)) (s:Shared) (σ:St) (H:Hp) (Q:Bool→Hp→Prop),Inv X pins σ H s→t σ H Q→wpAny (model X.prog X.w) X.A (isTrue e X.env (eval e X.env)) (TP X pins σ Q) X.xe s
noncomputable def PW (X:Cx) (e:Expr) (t:TT):Prop:=
 ∀ (whole:Sem Value) (pins:List (Addr × Obj)) (s:Shared) (σ:St) (H:Hp) (Q:Bool→Hp→Prop),Inv X pins σ H s→t σ H Q→wpAny (model X.prog X.w) X.A (isTrue e X.env whole) (TP X pins σ Q) X.xe s
theorem PW.pt {X:Cx} {e:Expr} {t:TT} (h:PW X e t):PT X e t:=h _
noncomputable def PA (X:Cx) (es:List Expr) (t:TA):Prop:=
 ∀ (pos:Pos) (pins:List (Addr × Obj)) (s:Shared) (σ:St) (H:Hp) (Q:List V→Hp→Prop),Inv X pins σ H s→t σ H Q→wpAny (model X.prog X.w) X.A (spliced (backTo pos (starEach es X.env))) (AP X pins σ Q) X.xe s
noncomputable def PS (X:Cx) (st:Stmt) (t:TS):Prop:=
 ∀ (pins:List (Addr × Obj)) (s:Shared) (σ:St) (H:Hp) (D:Ends),Inv X pins σ H s→t D σ H→wpAny (model X.prog X.w) X.A (exec st X.env) (SP X pins D) X.xe s
noncomputable def PSs (X:Cx) (st:List Stmt) (t:TS):Prop:=
 ∀ (pins:List (Addr × Obj)) (s:Shared) (σ:St) (H:Hp) (D:Ends),Inv X pins σ H s→t D σ H→wpAny (model X.prog X.w) X.A (execs st X.env) (SP X pins D) X.xe s
theorem thn {α:Type} {t:Sem α} {Q Q':α→Shared→Prop} {M:Model} {A:Around} {E:Value→Shared→Prop} {s:Shared} (h:wpAny M A t Q E s) (hQ:∀ a s,Q a s→Q' a s):wpAny M A t Q' E s:=wpAny_mono h hQ fun _ _ x=>x
end L2
namespace L2
open PySem PySem.Spec PyProof.Rows
section
variable {X:Cx}
theorem bin {a b:Expr} {ta tb:TE} (ha:PE X a ta) (hb:PE X b tb) {pins:List (Addr × Obj)} {s:Shared} {σ:St} {H:Hp} {R:V→V→Hp→Prop} (I:Inv X pins σ H s) (h:ta σ H fun x H1=>tb σ H1 fun y H2=>R x y H2)
   {α:Type} {Q:α→Shared→Prop} {f:Value→Value→Sem α}
   (hf:∀ v u s2 x y H2,Inv X pins σ H2 s2→RelV x v→RelV y u→R x y H2→wpAny (model X.prog X.w) X.A (f v u) Q X.xe s2) :
   wpAny (model X.prog X.w) X.A (eval a X.env) (fun v s₁=>wpAny (model X.prog X.w) X.A (eval b X.env) (fun u s₂=>wpAny (model X.prog X.w) X.A (f v u) Q X.xe s₂) X.xe s₁) X.xe s:=by
 refine thn (ha pins s σ H _ I h) fun v s1 ⟨x,H1,I1,r1,q1⟩=>?_
 refine thn (hb pins s1 σ H1 _ I1 q1) fun u s2 ⟨y,H2,I2,r2,q2⟩=>?_
 exact hf v u s2 x y H2 I2 r1 r2 q2
noncomputable def O3 (i:Nat):TE:=fun σ H Q=>∃ v,σ[i]?=some (some v)∧Q v H
noncomputable def tC (v:V):TE:=fun _ H Q=>Q v H
theorem KC {i:Nat} {x:Str} {pos:Pos} (hN:X.N[i]?=some x) (hv:Vis X.env.scope x) (hd:(x == ("__debug__" : Str))=false:=by decide) (hcd:(x == ("__classdict__" : Str))=false:=by decide):PE X (.Name x pos) (O3 i):=by
 intro pins s σ H Q I h
 obtain ⟨v,e,h⟩:=h
 obtain ⟨m,hn,hl⟩:=I.loc
 obtain ⟨u,r,l⟩:=hl i x v hN e hv
 have fin:EP X pins σ Q u s:=⟨v,H,I,r,h⟩
 rcases l with ⟨hk,hm⟩ | ⟨hk,c,hc,hcell⟩
 · exact wpAny_Name (wpAny_loadName_local I.ok.kind hk hn hm fin) hd
 · rcases hk with hk | hk
   · exact wpAny_Name (wpAny_loadName_cell I.ok.kind hk hc hcell fin) hd
   · exact wpAny_Name (wpAny_loadName_free I.ok.kind hk hc hcell fin hcd) hd
theorem NI {i j pos}:PE X (.Constant (.int i) j pos) (tC (.int i)):=fun _ _ _ H _ I h=>wpAny_Constant_int ⟨.int i,H,I.tok _,⟨_,rfl⟩,h⟩
theorem DV {b j pos}:PE X (.Constant (.bool b) j pos) (tC (.bl b)):=fun _ _ _ H _ I h=>Constant_bool ⟨.bl b,H,I,rfl,h⟩
theorem Ag {j pos}:PE X (.Constant .none j pos) (tC .non):=fun _ _ _ H _ I h=>Constant_none ⟨.non,H,I,rfl,h⟩
theorem Mp {x j pos}:PE X (.Constant (.str x) j pos) (tC (.str x)):=fun _ _ _ H _ I h=>Calls.Constant_str ⟨.str x,H,I.tok _,⟨_,rfl⟩,h⟩
noncomputable def Gl (X:Cx) (x:Str):Prop:=X.env.kindOf x=some .globalImplicit
theorem AR {E:Value→Shared→Prop} {pins:List (Addr × Obj)} {s:Shared} {σ:St} {H:Hp} {x:Str} {u:Value} {pos:Pos} {Q:Value→Shared→Prop} (I:Inv X pins σ H s) (hg:Gl X x) (hm:X.mg x=some u) (h:Q u s)
   (hd:(x == ("__debug__" : Str))=false:=by decide):wpAny (model X.prog X.w) X.A (eval (.Name x pos) X.env) Q E s:=
 Calls.Name_function_global I.ok.kind hg (Calls.loadGlobal_global (by rw [I.ok.glob]; exact I.mod.glob.keeps I.bk) hm h) hd
theorem jC {E:Value→Shared→Prop} {pins:List (Addr × Obj)} {s:Shared} {σ:St} {H:Hp} {x:Str} {u:Value} {pos:Pos} {Q:Value→Shared→Prop} (I:Inv X pins σ H s) (hg:Gl X x) (hm:X.mg x=none) (hv:bootBuiltins x=some u) (h:Q u s)
   (hn:x ≠ "__name__":=by decide) (hd:(x == ("__debug__" : Str))=false:=by decide):wpAny (model X.prog X.w) X.A (eval (.Name x pos) X.env) Q E s:=by
 obtain ⟨mb,h1,h2⟩:=I.mod.blt
 exact Calls.Name_function_global I.ok.kind hg (Calls.loadGlobal_builtin (by rw [I.ok.glob]; exact I.mod.glob.keeps I.bk) hm (by rw [I.ok.blt]; exact h1.keeps I.bk) ((h2 x hn).trans hv) h) hd
theorem Ij {x:Str} {v:V} {u:Value} {pos:Pos} (hg:Gl X x) (hm:X.mg x=some u) (r:RelV v u) (hd:(x == ("__debug__" : Str))=false:=by decide):PE X (.Name x pos) (tC v):=
 fun _ _ _ H _ I h=>AR I hg hm ⟨v,H,I,r,h⟩ hd
theorem nP {x:Str} {v:V} {u:Value} {pos:Pos} (hg:Gl X x) (hm:X.mg x=none) (hv:bootBuiltins x=some u) (r:RelV v u) (hn:x ≠ "__name__":=by decide) (hd:(x == ("__debug__" : Str))=false:=by decide):PE X (.Name x pos) (tC v):=
 fun _ _ _ H _ I h=>jC I hg hm hv ⟨v,H,I,r,h⟩ hn hd
variable {a b:Expr} {ta tb:TE} {pos:Pos}
noncomputable def PC (X:Cx) (op:CmpOp) (a b:Expr) (t:TE):Prop:=
 ∀ (pins:List (Addr × Obj)) (s:Shared) (σ:St) (H:Hp) (Q:VK),Inv X pins σ H s→t σ H Q →
   wpAny (model X.prog X.w) X.A (eval a X.env) (fun v s₁=>wpAny (model X.prog X.w) X.A (eval b X.env) (fun u s₂=>wpAny (model X.prog X.w) X.A (compareOp op v u) (EP X pins σ Q) X.xe s₂) X.xe s₁) X.xe s
theorem Fd (b:Expr) {op:CmpOp} (h:op ≠ .In) (h2:op ≠ .NotIn):behindInMarks op b=false:=by
 have e1:(op == CmpOp.In)=false:=by cases op <;> first | rfl | exact absurd rfl h
 have e2:(op == CmpOp.NotIn)=false:=by cases op <;> first | rfl | exact absurd rfl h2
 cases b <;> simp [behindInMarks,e1,e2]
noncomputable def tB (t:TE):TT:=fun σ H Q=>t σ H fun x H1=>∃ c,x=.bl c∧Q c H1
theorem Pk {op:CmpOp} {t:TE} (h:PC X op a b t) (h1:behindInMarks op b=false:=by first | exact Fd _ (by decide) (by decide) | rfl):PT X (.Compare a [op] [b] pos) (tB t):=by
 intro pins s σ H Q I hw
 refine wpAny_isTrue_Compare1 (thn (h pins s σ H _ I hw) fun v s1 h1=>thn h1 fun u s2 h2=>thn h2 fun c s3 ⟨x,H1,I1,r1,q1⟩=>?_) h1
 obtain ⟨d,rfl,q⟩:=q1
 cases r1
 exact wpAny_truthy_bool ⟨H1,I1,q⟩
theorem Ka {e:Expr} {t:TE} (h:PE X e t) (he:∀ whole,isTrue e X.env whole=(do let v ← whole; standAt e.pos; holding [v] (truthy v)):=by intro _; rfl):PT X e (tB t):=by
 intro pins s σ H Q I hw
 refine isTrue_plain (thn (h pins s σ H _ I hw) fun v s1 ⟨x,H1,I1,r1,q1⟩=>?_) (he _)
 obtain ⟨d,rfl,q⟩:=q1
 cases r1
 exact wpAny_truthy_bool ⟨H1,I1,q⟩
variable {tA tB':TT} {rest:List Expr}
noncomputable def PH (t u:TT):TT:=fun σ H Q=>t σ H fun c H1=>if c=true then u σ H1 Q else Q false H1
noncomputable def tOr (t u:TT):TT:=fun σ H Q=>t σ H fun c H1=>if c=true then Q true H1 else u σ H1 Q
noncomputable def O4 (t:TT):TT:=fun σ H Q=>t σ H fun c H1=>Q (!c) H1
theorem pw_and1 (ha:PT X a tA):PW X (.BoolOp .And [a] pos) tA:=by
 intro wh pins s σ H Q I h
 refine isTrue_and (thn (ha pins s σ H Q I h) fun c s1 e=>?_)
 cases c with
 | true=>exact isTrue_and_nil e
 | false=>exact e
theorem pw_or1 (ha:PT X a tA):PW X (.BoolOp .Or [a] pos) tA:=by
 intro wh pins s σ H Q I h
 refine isTrue_or (thn (ha pins s σ H Q I h) fun c s1 e=>?_)
 cases c with
 | false=>exact isTrue_or_nil e
 | true=>exact e
theorem pw_and (ha:PT X a tA) (hb:PW X (.BoolOp .And (b :: rest) pos) tB'):PW X (.BoolOp .And (a :: b :: rest) pos) (PH tA tB'):=by
 intro wh pins s σ H Q I h
 refine isTrue_and (thn (ha pins s σ H _ I h) fun c s1 ⟨H1,I1,q1⟩=>?_)
 cases c with
 | true=>exact hb wh pins s1 σ H1 Q I1 q1
 | false=>exact ⟨H1,I1,q1⟩
theorem pw_or (ha:PT X a tA) (hb:PW X (.BoolOp .Or (b :: rest) pos) tB'):PW X (.BoolOp .Or (a :: b :: rest) pos) (tOr tA tB'):=by
 intro wh pins s σ H Q I h
 refine isTrue_or (thn (ha pins s σ H _ I h) fun c s1 ⟨H1,I1,q1⟩=>?_)
 cases c with
 | true=>exact ⟨H1,I1,q1⟩
 | false=>exact hb wh pins s1 σ H1 Q I1 q1
theorem Nw (ha:PT X a tA):PT X (.UnaryOp .Not a pos) (O4 tA):=by
 intro pins s σ H Q I h
 exact isTrue_not (ha pins s σ H (fun c H1=>Q (!c) H1) I h)
noncomputable def OG (ta tb:TE):TE:=fun σ H Q=>ta σ H fun x H1=>∃ c,x=.bl c∧if c=true then tb σ H1 Q else Q (.bl false) H1
noncomputable def Pz (ta tb:TE):TE:=fun σ H Q=>ta σ H fun x H1=>∃ c,x=.bl c∧if c=true then Q (.bl true) H1 else tb σ H1 Q
noncomputable def OO (ta:TE):TE:=fun σ H Q=>ta σ H fun x H1=>∃ c,x=.bl c∧Q (.bl (!c)) H1
theorem Mi {op} {t:TE} (h:PE X a t):PE X (.BoolOp op [a] pos) t:=fun pins s σ H Q I hw=>BoolOp_one (h pins s σ H Q I hw)
theorem M7 (ha:PE X a ta) (hb:PE X (.BoolOp .And (b :: rest) pos) tb):PE X (.BoolOp .And (a :: b :: rest) pos) (OG ta tb):=by
 intro pins s σ H Q I h
 refine BoolOp_and (thn (ha pins s σ H _ I h) fun v s1 ⟨x,H1,I1,r1,q1⟩=>?_)
 obtain ⟨c,rfl,q1⟩:=q1
 cases r1
 refine wpAny_truthy_bool ?_
 cases c with
 | true=>exact hb pins s1 σ H1 Q I1 q1
 | false=>exact ⟨.bl false,H1,I1,rfl,q1⟩
theorem Oc (ha:PE X a ta) (hb:PE X (.BoolOp .Or (b :: rest) pos) tb):PE X (.BoolOp .Or (a :: b :: rest) pos) (Pz ta tb):=by
 intro pins s σ H Q I h
 refine BoolOp_or (thn (ha pins s σ H _ I h) fun v s1 ⟨x,H1,I1,r1,q1⟩=>?_)
 obtain ⟨c,rfl,q1⟩:=q1
 cases r1
 refine wpAny_truthy_bool ?_
 cases c with
 | false=>exact hb pins s1 σ H1 Q I1 q1
 | true=>exact ⟨.bl true,H1,I1,rfl,q1⟩
theorem K5 (ha:PE X a ta):PE X (.UnaryOp .Not a pos) (OO ta):=by
 intro pins s σ H Q I h
 refine UnaryOp_ (thn (ha pins s σ H _ I h) fun v s1 ⟨x,H1,I1,r1,q1⟩=>?_)
 obtain ⟨c,rfl,q1⟩:=q1
 cases r1
 exact not_of (wpAny_truthy_bool ⟨.bl (!c),H1,I1,rfl,q1⟩)
noncomputable def tIf (t:TT) (ta tb:TE):TE:=fun σ H Q=>t σ H fun c H1=>if c=true then ta σ H1 Q else tb σ H1 Q
theorem DU {c:Expr} (hc:PT X c tA) (ha:PE X a ta) (hb:PE X b tb):PE X (.IfExp c a b pos) (tIf tA ta tb):=by
 intro pins s σ H Q I h
 refine wpAny_IfExp (thn (hc pins s σ H _ I h) fun d s1 ⟨H1,I1,q1⟩=>?_)
 cases d with
 | true=>exact ha pins s1 σ H1 Q I1 q1
 | false=>exact hb pins s1 σ H1 Q I1 q1
end
end L2
namespace L2
open PySem PySem.Spec PyProof.Rows
noncomputable def SqL (K:PySem.W.Frag) (H:Hp) (a:Addr) (xs:List V):Prop:=
 Rd H a (.lst xs) ∨
   ∃ (o:Obj) (its:Array Value) (n:Nat),K.lookup a=some o∧o.cls=.type "list" ∧ o.dict=none∧o.data=.seq its n∧its.size≤sizeLine∧Vals xs its.toList
noncomputable def SqT (K:PySem.W.Frag) (H:Hp) (a:Addr) (xs:List V):Prop:=
 Rd H a (.tup xs) ∨
   ∃ (o:Obj) (its:Array Value) (n:Nat),K.lookup a=some o∧o.cls=.type "tuple" ∧ o.data=.seq its n∧its.size≤sizeLine∧Vals xs its.toList
noncomputable def O5:Value→Option V
 | .none=>some .non
 | .bool b=>some (.bl b)
 | .int i _=>some (.int i)
 | .str x _=>some (.str x)
 | .bytes b _=>some (.byt b)
 | .float b _=>some (.flt b)
 | .ref a=>some (.ref a)
 | .type n=>some (.ty n)
 | _=>none
theorem RelV.abs {x:V} {u:Value} (r:RelV x u):O5 u=some x:=by
 cases x with
 | non=>cases r; rfl
 | bl _=>cases r; rfl
 | int _=>obtain ⟨t,rfl⟩:=r; rfl
 | str _=>obtain ⟨t,rfl⟩:=r; rfl
 | byt _=>obtain ⟨t,rfl⟩:=r; rfl
 | flt _=>obtain ⟨t,rfl⟩:=r; rfl
 | ref _=>cases r; rfl
 | ty _=>cases r; rfl
theorem RelV.inj {x y:V} {u:Value} (r:RelV x u) (q:RelV y u):x=y:=Option.some.inj (r.abs.symm.trans q.abs)
theorem Vals.inj:∀ {xs ys:List V} {us:List Value},Vals xs us→Vals ys us→xs=ys
 | _,_,_,.nil,.nil=>rfl
 | _,_,_,.cons r t,.cons r' t'=>by rw [r.inj r',Vals.inj t t']
section
variable {X:Cx} {pins:List (Addr × Obj)} {σ:St} {H:Hp} {s:Shared} {a:Addr} {xs ys:List V}
theorem Inv.list (I:Inv X pins σ H s) (h:SqL X.K H a xs):∃ its:List Value,Vals xs its∧PlainL s.heap a its.toArray∧xs.length≤sizeLine:=by
 rcases h with h | ⟨o,its,n,hk,hc,hd,hs,hz,r⟩
 · obtain ⟨z,its,n,r,e⟩:=h.ok I.hok
   exact ⟨its,r,⟨_,n,e,rfl,rfl,rfl⟩,z⟩
 · refine ⟨its.toList,r,⟨o,n,I.kIn a o hk,hc,hd,by simpa using hs⟩,?_⟩
   have e:=r.length
   simp only [Array.length_toList] at e
   omega
theorem Inv.tuple (I:Inv X pins σ H s) (h:SqT X.K H a xs):∃ its:List Value,Vals xs its∧IsTup s.heap a its.toArray∧xs.length≤sizeLine:=by
 rcases h with h | ⟨o,its,n,hk,hc,hs,hz,r⟩
 · obtain ⟨z,its,r,p⟩:=h.ok I.hok
   exact ⟨its,r,p,z⟩
 · refine ⟨its.toList,r,⟨o,I.kIn a o hk,hc,n,by simpa using hs⟩,?_⟩
   have e:=r.length
   simp only [Array.length_toList] at e
   omega
theorem Inv.mY (I:Inv X pins σ H s) (h:SqL X.K H a xs) (h':SqL X.K H a ys):xs=ys:=by
 obtain ⟨its,r,⟨o,n,e,_,_,d⟩,_⟩:=I.list h
 obtain ⟨its',r',⟨o',n',e',_,_,d'⟩,_⟩:=I.list h'
 rw [e] at e'; cases e'
 rw [d] at d'
 injection d' with d1 _
 have:its=its':=by simpa using congrArg Array.toList d1
 subst this
 exact r.inj r'
theorem Inv.Cb (I:Inv X pins σ H s) (h:SqT X.K H a xs) (h':SqT X.K H a ys):xs=ys:=by
 obtain ⟨its,r,⟨o,e,_,n,d⟩,_⟩:=I.tuple h
 obtain ⟨its',r',⟨o',e',_,n',d'⟩,_⟩:=I.tuple h'
 rw [e] at e'; cases e'
 rw [d] at d'
 injection d' with d1 _
 have:its=its':=by simpa using congrArg Array.toList d1
 subst this
 exact r.inj r'
end
noncomputable abbrev Cx.q9 (X:Cx) (E:Value→Shared→Prop):Cx:={ X with xe:=E }
noncomputable abbrev Cx.nox (X:Cx):Cx:=X.q9 fun _ _=>False
theorem Cx.Ok.q9 {X:Cx} (ok:X.Ok) (E:Value→Shared→Prop):(X.q9 E).Ok:=
 ⟨ok.mod,ok.kind,ok.glob,ok.blt,ok.above,ok.inj,ok.has,ok.cab,ok.hd,ok.frames,ok.stk,ok.exf,ok.bs,ok.bsz,ok.noex,ok.exfs,ok.qm,ok.frf⟩
theorem Cx.Ok.jP {X:Cx} {E:Value→Shared→Prop} (ok:(X.q9 E).Ok):X.Ok:=
 ⟨ok.mod,ok.kind,ok.glob,ok.blt,ok.above,ok.inj,ok.has,ok.cab,ok.hd,ok.frames,ok.stk,ok.exf,ok.bs,ok.bsz,ok.noex,ok.exfs,ok.qm,ok.frf⟩
section
variable {X:Cx} {pins:List (Addr × Obj)} {σ:St} {H:Hp} {s:Shared} {E:Value→Shared→Prop}
theorem Inv.q9 (I:Inv X pins σ H s) (E:Value→Shared→Prop):Inv (X.q9 E) pins σ H s:=⟨I.ok.q9 E,I.os,I.bare,I.base,I.loc,I.cell,I.free,I.freeC,I.pin,I.hok,I.len⟩
theorem Inv.jP (I:Inv (X.q9 E) pins σ H s):Inv X pins σ H s:=⟨I.ok.jP,I.os,I.bare,I.base,I.loc,I.cell,I.free,I.freeC,I.pin,I.hok,I.len⟩
theorem SP.jP {D:Ends} {f:Flow} {s':Shared} (h:SP (X.q9 E) pins D f s'):SP X pins D f s':=by
 cases f with
 | next=>obtain ⟨σ',H',I,q⟩:=h; exact ⟨σ',H',I.jP,q⟩
 | brk=>obtain ⟨σ',H',I,q⟩:=h; exact ⟨σ',H',I.jP,q⟩
 | cont=>obtain ⟨σ',H',I,q⟩:=h; exact ⟨σ',H',I.jP,q⟩
 | ret u=>obtain ⟨v,σ',H',I,r,q⟩:=h; exact ⟨v,σ',H',I.jP,r,q⟩
theorem PSs.nox {st:List Stmt} {t:TS} (h:PSs X.nox st t):PSs X st t:=fun pins s σ H D I hw=>
 wpAny_mono (h pins s σ H D (I.q9 _) hw) (fun _ _ q=>q.jP) fun _ _ z=>False.elim z
end
section
variable {X:Cx} {st:Stmt} {rest:List Stmt} {t u:TS} {e:Expr} {te:TE} {pos:Pos}
noncomputable def OY:TS:=fun D σ H=>D.nx σ H
noncomputable def PB (t u:TS):TS:=fun D σ H=>t { D with nx:=u D } σ H
theorem HV:PSs X [] OY:=fun _ _ σ H _ I h=>wpAny_execs_nil ⟨σ,H,I,h⟩
theorem Fq (h1:PS X st t) (h2:PSs X rest u):PSs X (st :: rest) (PB t u):=by
 intro pins s σ H D I h
 refine wpAny_execs_cons (thn (h1 pins s σ H { D with nx:=u D } I h) fun f s1 q=>?_)
 cases f with
 | next=>
   obtain ⟨σ',H',I',q⟩:=q
   exact h2 pins s1 σ' H' D I' q
 | ret v=>exact q
 | brk=>exact q
 | cont=>exact q
theorem Inv.quiet {pins:List (Addr × Obj)} {σ:St} {H:Hp} {s:Shared} (I:Inv X pins σ H s):interactive X.env=false:=by simp [interactive,I.ok.kind]
noncomputable def JL (te:TE):TS:=fun D σ H=>te σ H fun _ H1=>D.nx σ H1
theorem qa (he:PE X e te) (hs:swapsWith e none pos.line X.env=pure false:=by rfl):PS X (.Expr e pos) (JL te):=by
 intro pins s σ H D I h
 exact wpAny_Expr_any (thn (he pins s σ H _ I h) fun v s1 ⟨x,H1,I1,r1,q1⟩=>⟨σ,H1,I1,q1⟩) I.quiet hs
noncomputable def Pb (te:TE):TS:=fun D σ H=>te σ H D.rt
theorem Mz (he:PE X e te):PS X (.Return (some e) pos) (Pb te):=by
 intro pins s σ H D I h
 exact wpAny_Return_some (thn (he pins s σ H _ I h) fun v s1 ⟨x,H1,I1,r1,q1⟩=>⟨x,σ,H1,I1,r1,q1⟩)
noncomputable def Pf (c:TT) (t u:TS):TS:=fun D σ H=>c σ H fun b H1=>if b=true then t D σ H1 else u D σ H1
theorem Oa {c:Expr} {a b:List Stmt} {tc:TT} (hc:PT X c tc) (ha:PSs X a t) (hb:PSs X b u):PS X (.If c a b pos) (Pf tc t u):=by
 intro pins s σ H D I h
 refine wpAny_If (thn (hc pins s σ H _ I h) fun d s1 ⟨H1,I1,q1⟩=>?_)
 cases d with
 | true=>exact ha pins s1 σ H1 D I1 q1
 | false=>exact hb pins s1 σ H1 D I1 q1
noncomputable def LJ:TS:=fun _ _ _=>False
theorem Ge:PS X st LJ:=fun _ _ _ _ _ _ h=>h.elim
end
noncomputable abbrev TG:=V→St→Hp→(St→Hp→Prop)→Prop
noncomputable abbrev TGs:=List V→St→Hp→(St→Hp→Prop)→Prop
noncomputable def PG (X:Cx) (target:Expr) (t:TG):Prop:=
 ∀ (pins:List (Addr × Obj)) (s:Shared) (σ:St) (H:Hp) (v:V) (u:Value) (Q:St→Hp→Prop),Inv X pins σ H s→RelV v u→t v σ H Q →
   wpAny (model X.prog X.w) X.A (assign target X.env u) (fun _ s'=>∃ σ' H',Inv X pins σ' H' s'∧Q σ' H') X.xe s
noncomputable def PGs (X:Cx) (ts:List Expr) (t:TGs):Prop:=
 ∀ (pins:List (Addr × Obj)) (s:Shared) (σ:St) (H:Hp) (vs:List V) (us:List Value) (Q:St→Hp→Prop),Inv X pins σ H s→Vals vs us→t vs σ H Q →
   wpAny (model X.prog X.w) X.A (assignInOrder ((assignEach ts X.env).map (·.2)) us) (fun _ s'=>∃ σ' H',Inv X pins σ' H' s'∧Q σ' H') X.xe s
noncomputable abbrev Ma:=V→V→V→Hp→(Hp→Prop)→Prop
noncomputable def LC (X:Cx) (t:Ma):Prop:=
 ∀ (pins:List (Addr × Obj)) (s:Shared) (σ:St) (H:Hp) (o i v:V) (ov iv u:Value) (Q:Hp→Prop),Inv X pins σ H s→RelV o ov→RelV i iv→RelV v u→t o i v H Q →
   wpAny (model X.prog X.w) X.A (setItem ov iv u) (fun _ s'=>∃ H',Inv X pins σ H' s'∧Q H') X.xe s
section
variable {X:Cx} {pos:Pos}
noncomputable def NT (i:Nat):TG:=fun v σ H Q=>Q (σ.set i (some v)) H
theorem Bo {i:Nat} {x:Str} (hN:X.N.Nodup) (hi:X.N[i]?=some x) (hx:Loc X.env.scope x) (hf:X.fn x=true∨X.env.scope.names.lookup x=some .local:=by first | exact .inl rfl | exact .inr rfl | assumption):PG X (.Name x pos) (NT i):=by
 intro pins s σ H v u Q I r h
 exact wpAny_assign_Name (Ep I hN hi hx r (fun s' I'=>⟨_,H,I',h⟩) hf)
noncomputable def Ph:TGs:=fun vs σ H Q=>vs=[]∧Q σ H
noncomputable def Oe (t:TG) (u:TGs):TGs:=fun vs σ H Q=>∃ v r,vs=v :: r∧t v σ H fun σ' H'=>u r σ' H' Q
theorem GN:PGs X [] Ph:=by
 intro pins s σ H vs us Q I r h
 obtain ⟨e,h⟩:=h
 subst e
 cases r
 exact assignInOrder_nil ⟨σ,H,I,h⟩
theorem El {e:Expr} {es:List Expr} {t:TG} {u:TGs} (h1:PG X e t) (h2:PGs X es u)
   (hs:(assignEach (e :: es) X.env).map (·.2)=assign e X.env :: (assignEach es X.env).map (·.2):=by rfl):PGs X (e :: es) (Oe t u):=by
 intro pins s σ H vs us Q I r h
 obtain ⟨v,vr,e1,h⟩:=h
 subst e1
 cases r with
 | cons r rr=>
   rw [hs]
   refine assignInOrder_cons (thn (h1 pins s σ H _ _ _ I r h) fun _ s1 ⟨σ1,H1,I1,q1⟩=>?_)
   exact h2 pins s1 σ1 H1 _ _ Q I1 rr q1
noncomputable def O2 (K:PySem.W.Frag) (n:Nat) (t:TGs):TG:=fun v σ H Q=>∃ a xs,v=.ref a∧SqT K H a xs∧xs.length=n∧t xs σ H Q
theorem Nt {es:List Expr} {k:Nat} {t:TGs} {n:Nat} (hc:X.calm=true) (h:PGs X es t)
   (hn:(assignEach es X.env).length=n:=by rfl) (hst:(assignEach es X.env).findIdx? (·.1)=none:=by rfl):PG X (.Tuple es k pos) (O2 X.K n t):=by
 intro pins s σ H v u Q I r hw
 obtain ⟨a,xs,e1,hq,hl,hw⟩:=hw
 subst e1
 cases r
 obtain ⟨its,rv,ht,hz⟩:=I.tuple hq
 refine assign_Tuple_tuple (I.ok.hd hc) ht (by simp [hn,← hl,rv.length]) hst fun h' hx=>?_
 have I1:Inv X pins σ H { s with heap:=h' }:=I.kept (t':=s.toks) fun b o e=>hx b o (Nat.ne_of_lt (Heap.lt_size e)) e
 exact h pins _ σ H xs _ Q I1 (by simpa using rv) hw
noncomputable def PV (to ti:TE) (t:Ma):TG:=fun v σ H Q=>to σ H fun o H1=>ti σ H1 fun i H2=>t o i v H2 fun H3=>Q σ H3
theorem NG {o i:Expr} {to ti:TE} {t:Ma} (ho:PE X o to) (hi:PE X i ti) (hs:LC X t)
   (ha:∀ v,assign (.Subscript o i pos) X.env v=(do
     let ov ← holding [v] (eval o X.env)
     let iv ← holding [v,ov] (eval i X.env)
     standAt pos
     holding [v,ov,iv] (setItem ov iv v)
     release [v,ov,iv] []):=by intro _; rfl):PG X (.Subscript o i pos) (PV to ti t):=by
 intro pins s σ H v u Q I r h
 rw [ha]
 refine wpAny_bind (wpAny_holding (thn (ho pins s σ H _ I h) fun ov s1 ⟨x,H1,I1,r1,q1⟩=>?_))
 refine wpAny_bind (wpAny_holding (thn (hi pins s1 σ H1 _ I1 q1) fun iv s2 ⟨y,H2,I2,r2,q2⟩=>?_))
 refine wpAny_bind (wpAny_standAt (wpAny_bind (wpAny_holding (thn (hs pins s2 σ H2 x y v ov iv u _ I2 r1 r2 r q2) fun _ s3 ⟨H3,I3,q3⟩=>?_))))
 exact wpAny_release ⟨σ,H3,I3,q3⟩
noncomputable def Lv (te:TE) (g:TG):TS:=fun D σ H=>te σ H fun x H1=>g x σ H1 D.nx
theorem Df {tg e:Expr} {te:TE} {g:TG} (he:PE X e te) (hg:PG X tg g) (hs:swapsWithSole [tg] e pos.line X.env=pure false:=by rfl) (hw:swappedStores [tg] e X.env=pure none:=by rfl)
   (h1:(assignEach [tg] X.env).map (·.2)=[assign tg X.env]:=by rfl):PS X (.Assign [tg] e pos) (Lv te g):=by
 intro pins s σ H D I h
 refine wpAny_Assign_stores (thn (he pins s σ H _ I h) fun v s1 ⟨x,H1,I1,r1,q1⟩=>?_) hs hw
 rw [h1]
 exact thn (hg pins s1 σ H1 x v _ I1 r1 q1) fun _ s2 q=>q
end
section
variable {X:Cx} {pos:Pos}
noncomputable def Mr (c:TT) (tb:TS):TS:=fun D σ H=>∃ W:Nat→St→Hp→Prop,(∃ m,W m σ H)∧∀ m σ H,W m σ H →
 c σ H fun b H1=>if b=true then ∃ N:St→Hp→Prop,(∀ σ' H',N σ' H'→∃ m',m' < m∧W m' σ' H')∧tb { D with nx:=N,ct:=N,bk:=D.nx } σ H1 else D.nx σ H1
theorem ET {c:Expr} {body:List Stmt} {tc:TT} {tb:TS} (hp:PassesOwn (model X.prog X.w) X.A X.env X.xe) (hc:PT X c tc) (hb:PSs X body tb):PS X (.While c body [] pos) (Mr tc tb):=by
 intro pins s σ H D I h
 obtain ⟨W,⟨m0,w0⟩,turn⟩:=h
 refine wpAny_While (codeAny_whileLoop (fun n s'=>∃ σ' H',Inv X pins σ' H' s'∧W n σ' H') ?_ m0 ⟨σ,H,I,w0⟩)
 rintro n s1 ⟨σ1,H1,I1,w1⟩
 refine wpAny_passesOwn hp (thn (hc pins s1 σ1 H1 _ I1 (turn n σ1 H1 w1)) fun b s2 ⟨H2,I2,q2⟩=>?_)
 cases b with
 | true=>
   obtain ⟨N,hN,q2⟩:=q2
   rw [if_pos rfl]
   refine wpAny_passesOwn hp (thn (hb pins s2 σ1 H2 _ I2 q2) fun f s3 q3=>?_)
   cases f with
   | next=>
     obtain ⟨σ3,H3,I3,n3⟩:=q3
     obtain ⟨m',hm,w3⟩:=hN σ3 H3 n3
     exact ⟨m',hm,σ3,H3,I3,w3⟩
   | cont=>
     obtain ⟨σ3,H3,I3,n3⟩:=q3
     obtain ⟨m',hm,w3⟩:=hN σ3 H3 n3
     exact ⟨m',hm,σ3,H3,I3,w3⟩
   | brk=>exact q3
   | ret v=>exact q3
 | false=>
   rw [if_neg Bool.false_ne_true]
   exact wpAny_execs_nil ⟨σ1,H2,I2,q2⟩
end
structure It where
 go:Nat→Hp→Prop
 yld:Nat→Hp→V→Hp→Prop
 stop:Nat→Hp→Prop
noncomputable def sT (X:Cx) (pins:List (Addr × Obj)) (H:Hp) (b:Addr):Prop:=
 H b=none∧b ≠ X.env.locals∧b ∉ X.fs∧(b ∈ X.ex∨X.s₀.heap.objs.size≤b)∧(∀ x c,X.env.cells.lookup x=some c→c ≠ b)∧∀ p ∈ X.pn++pins,p.1 ≠ b
theorem Inv.zO {X:Cx} {pins:List (Addr × Obj)} {σ:St} {H H':Hp} {s:Shared} {b:Addr} (I:Inv X pins σ H s) (hb:s.heap.objs.size≤b) (hn:H' b=none):sT X pins H' b:=by
 refine ⟨hn,Nat.ne_of_gt (Nat.lt_of_lt_of_le I.lt hb),I.PU hb,.inr (Nat.le_trans I.sz hb),fun x c e z=>?_,fun p hp z=>?_⟩
 · obtain ⟨v,q⟩:=I.cell x c e
   exact absurd (Nat.lt_of_lt_of_le q.lt (by rw [z]; exact hb)) (Nat.lt_irrefl _)
 · exact absurd (Nat.lt_of_lt_of_le (Heap.lt_size (I.pin p hp).1) (by rw [z]; exact hb)) (Nat.lt_irrefl _)
structure Turn (P:Program) (w:World) (K:PySem.W.Frag) (tg:Expr) (J:It) (fp:List Addr) (it:Addr) (tn:Nat→Heap→Prop):Prop where
 mem:it ∈ fp
 obj:∀ i h,tn i h→∀ b ∈ fp,∃ o,h.get? b=some o∧∀ v,o.data ≠ .cell v
 keep:∀ i h h',tn i h→(∀ b ∈ fp,∀ o,h.get? b=some o→h'.get? b=some o)→tn i h'
 item:∀ (X:Cx),X.prog=P→X.w=w→X.K=K→X.calm=true→∀ (i:Nat) (pins:List (Addr × Obj)) (s:Shared) (σ:St) (H:Hp) (E:Value→Shared→Prop),Inv X pins σ H s→(∀ b ∈ fp,sT X pins H b)→tn i s.heap→J.go i H →
   wpAny (model P w) X.A (pyNext (.ref it)) (fun r s1=>∃ u,r=some u ∧
     wpAny (model P w) X.A (letOwnedTupleGo tg (.ref it) u) (fun _ s2=>∃ x H',Inv X pins σ H' s2∧RelV x u∧J.yld i H x H'∧tn (i + 1) s2.heap∧∀ b ∈ fp,H' b=none) E s1) E s
 done:∀ (X:Cx),X.prog=P→X.w=w→X.K=K→X.calm=true→∀ (i:Nat) (pins:List (Addr × Obj)) (s:Shared) (σ:St) (H:Hp) (E:Value→Shared→Prop),Inv X pins σ H s→(∀ b ∈ fp,sT X pins H b)→tn i s.heap→J.stop i H →
   wpAny (model P w) X.A (pyNext (.ref it)) (fun r s1=>r=none∧Inv X pins σ H s1) E s
 self:∀ (A:Around) (i:Nat) (s:Shared) (Q:Value→Shared→Prop) (E:Value→Shared→Prop),tn i s.heap→Q (.ref it) s→wpAny (model P w) A (pyIter (.ref it)) Q E s
noncomputable abbrev TI:=St→Hp→(It→Hp→Prop)→Prop
noncomputable def PIE (X:Cx) (pins:List (Addr × Obj)) (σ:St) (tg:Expr) (R:It→Hp→Prop) (itv:Value) (s2:Shared):Prop:=
 ∃ (it:Addr) (fp:List Addr) (tn:Nat→Heap→Prop) (J:It) (H':Hp),itv=.ref it∧Inv X pins σ H' s2∧Turn X.prog X.w X.K tg J fp it tn∧tn 0 s2.heap∧(∀ b ∈ fp,sT X pins H' b)∧R J H'
noncomputable def PI (X:Cx) (tg iter:Expr) (wi:TI):Prop:=
 ∀ (pins:List (Addr × Obj)) (s:Shared) (σ:St) (H:Hp) (R:It→Hp→Prop),Inv X pins σ H s→wi σ H R →
   wpAny (model X.prog X.w) X.A (eval iter X.env) (fun v s1=>wpAny (model X.prog X.w) X.A (pyIter v) (PIE X pins σ tg R) X.xe s1) X.xe s
theorem Fc {M:Model} {A:Around} {E:Value→Shared→Prop} {s:Shared} {tg:Expr} {it:Addr} {u:Value} {o:Obj} {n:String} {vs:Array Value} {Q:Unit→Shared→Prop} (ho:s.heap.get? it=some o) (hc:o.cls=.type n) (hd:o.data=.fields vs)
   (hn:["enumerate","zip","dict_itemiterator","dict_reverseitemiterator","odict_iterator","itertools.zip_longest","itertools.pairwise"].contains n=false) (hQ:Q () s):wpAny M A (letOwnedTupleGo tg (.ref it) u) Q E s:=by
 unfold letOwnedTupleGo
 cases tg <;> first
   | exact wpAny_pure hQ
   | (cases u <;> first
       | exact wpAny_pure hQ
       | (refine wpAny_bind (wpAny_load ho ?_)
          rw [hc,hd]
          show wpAny M A (if (["enumerate","zip","dict_itemiterator","dict_reverseitemiterator","odict_iterator","itertools.zip_longest","itertools.pairwise"].contains n && vs[0]? == some (rawInt _))=true then _ else _) Q E s
          rw [if_neg (by intro h; rw [hn,Bool.false_and] at h; cases h)]
          exact wpAny_pure hQ))
noncomputable def Itl (K:PySem.W.Frag) (a:Addr):It:=
 ⟨fun i H=>∃ xs x,SqL K H a xs∧xs[i]?=some x,fun i H x H'=>H'=H∧∀ xs,SqL K H a xs→xs[i]?=some x,fun i H=>∃ xs,SqL K H a xs∧xs.length≤i⟩
noncomputable def Itt (K:PySem.W.Frag) (a:Addr):It:=
 ⟨fun i H=>∃ xs x,SqT K H a xs∧xs[i]?=some x,fun i H x H'=>H'=H∧∀ xs,SqT K H a xs→xs[i]?=some x,fun i H=>∃ xs,SqT K H a xs∧xs.length≤i⟩
noncomputable def Itr (lo:Int) (n:Nat):It:=⟨fun i _=>i < n,fun i H x H'=>H'=H∧x=.int (lo + i),fun i _=>n≤i⟩
theorem CA {P:Program} {w:World} {K:PySem.W.Frag} {tg:Expr} (a it:Addr):Turn P w K tg (Itl K a) [it] it (fun i h=>h.IsListIter it a i) where
 mem:=by simp
 obj:=fun i h st b hb=>by
   have e:b=it:=by simpa using hb
   subst e
   obtain ⟨o,e,c,d⟩:=st
   exact ⟨o,e,fun v z=>by rw [d] at z; cases z⟩
 keep:=fun i h h' st k=>st.at fun o e=>k it (by simp) o e
 item:=by
   intro X hP hw hK hc i pins s σ H E I hf st hg
   subst hP hw hK
   obtain ⟨xs,x,hq,hx⟩:=hg
   obtain ⟨its,rv,p,hz⟩:=I.list hq
   obtain ⟨u,hu,ru⟩:=rv.get hx
   obtain ⟨f0,f1,f2,f3,f4,f5⟩:=hf it (by simp)
   refine wpAny_pyNext_list_item st p.isList (x:=u) (by simpa using hu) fun h' st' sb=>?_
   have I1:Inv X pins σ H { s with heap:=h' }:=I.turned (t':=s.toks) (fun b o hb e=>(sb.2 b hb).trans e) f0 f1 f3 f4 f5
   obtain ⟨o,e,c,d⟩:=id st'
   exact ⟨u,rfl,Fc (s:={ s with heap:=h' }) e c d (by decide) ⟨x,H,I1,ru,⟨rfl,fun ys hy=>by rw [I.mY hy hq]; exact hx⟩,st',fun b hb=>(hf b hb).1⟩⟩
 done:=by
   intro X hP hw hK hc i pins s σ H E I hf st hg
   subst hP hw hK
   obtain ⟨xs,hq,hx⟩:=hg
   obtain ⟨its,rv,p,hz⟩:=I.list hq
   obtain ⟨f0,f1,f2,f3,f4,f5⟩:=hf it (by simp)
   have hl:=rv.length
   exact wpAny_pyNext_list_end (I.ok.hd hc) st p.isList (by simp; omega) fun h' eb=>⟨rfl,I.turned (t':=s.toks) (fun b o hb e=>eb b o hb e) f0 f1 f3 f4 f5⟩
 self:=fun _ _ _ _ _ st h=>wpAny_pyIter_listiter st h
theorem zD {P:Program} {w:World} {K:PySem.W.Frag} {tg:Expr} (a it:Addr):Turn P w K tg (Itt K a) [it] it (fun i h=>h.IsTupleIter it a i) where
 mem:=by simp
 obj:=fun i h st b hb=>by
   have e:b=it:=by simpa using hb
   subst e
   obtain ⟨o,e,c,d⟩:=st
   exact ⟨o,e,fun v z=>by rw [d] at z; cases z⟩
 keep:=fun i h h' st k=>st.at fun o e=>k it (by simp) o e
 item:=by
   intro X hP hw hK hc i pins s σ H E I hf st hg
   subst hP hw hK
   obtain ⟨xs,x,hq,hx⟩:=hg
   obtain ⟨its,rv,p,hz⟩:=I.tuple hq
   obtain ⟨u,hu,ru⟩:=rv.get hx
   obtain ⟨f0,f1,f2,f3,f4,f5⟩:=hf it (by simp)
   refine wpAny_pyNext_tuple_item st (show s.heap.IsTuple a its.toArray from p) (x:=u) (by simpa using hu) fun h' st' sb=>?_
   have I1:Inv X pins σ H { s with heap:=h' }:=I.turned (t':=s.toks) (fun b o hb e=>(sb.2 b hb).trans e) f0 f1 f3 f4 f5
   obtain ⟨o,e,c,d⟩:=id st'
   exact ⟨u,rfl,Fc (s:={ s with heap:=h' }) e c d (by decide) ⟨x,H,I1,ru,⟨rfl,fun ys hy=>by rw [I.Cb hy hq]; exact hx⟩,st',fun b hb=>(hf b hb).1⟩⟩
 done:=by
   intro X hP hw hK hc i pins s σ H E I hf st hg
   subst hP hw hK
   obtain ⟨xs,hq,hx⟩:=hg
   obtain ⟨its,rv,p,hz⟩:=I.tuple hq
   obtain ⟨f0,f1,f2,f3,f4,f5⟩:=hf it (by simp)
   have hl:=rv.length
   exact wpAny_pyNext_tuple_end (I.ok.hd hc) st (show s.heap.IsTuple a its.toArray from p) (by simp; omega) fun h' eb=>⟨rfl,I.turned (t':=s.toks) (fun b o hb e=>eb b o hb e) f0 f1 f3 f4 f5⟩
 self:=fun _ _ _ _ _ st h=>wpAny_pyIter_tupleiter st h
theorem zV {P:Program} {w:World} {K:PySem.W.Frag} {tg:Expr} (it:Addr) (lo:Int) (n:Nat):Turn P w K tg (Itr lo n) [it] it (fun i h=>IsRangeIter h it (lo + (i:Nat) * 1) ((n:Int) - (i:Nat)) 1) where
 mem:=by simp
 obj:=fun i h st b hb=>by
   have e:b=it:=by simpa using hb
   subst e
   exact ⟨_,st,fun v z=>by
     have z':Data.fields _=Data.cell v:=z
     cases z'⟩
 keep:=fun i h h' st k=>k it (by simp) _ st
 item:=by
   intro X hP hw hK hc i pins s σ H E I hf st hg
   subst hP hw hK
   obtain ⟨f0,f1,f2,f3,f4,f5⟩:=hf it (by simp)
   have W:=Walks.range (prog:=X.prog) (w:=X.w) (I.ok.hd hc) it lo 1 n
   refine W.item i s _ _ hg st fun v h' tk hv st' kk=>?_
   obtain ⟨t,rfl⟩:=hv
   have I1:Inv X pins σ H { s with heap:=h',toks:=tk }:=I.turned (fun b o hb e=>kk b o (by simpa using hb) e) f0 f1 f3 f4 f5
   refine ⟨_,rfl,Fc (s:={ s with heap:=h',toks:=tk }) (n:="range_iterator") st' rfl rfl (by decide) ⟨.int (lo + i),H,I1,⟨t,?_⟩,⟨rfl,rfl⟩,st',fun b hb=>(hf b hb).1⟩⟩
   rw [Int.mul_one]
 done:=by
   intro X hP hw hK hc i pins s σ H E I hf st hg
   subst hP hw hK
   obtain ⟨f0,f1,f2,f3,f4,f5⟩:=hf it (by simp)
   exact wpAny_pyNext_range_end (I.ok.hd hc) st (by have:n≤i:=hg; omega) fun h' eb=>⟨rfl,I.turned (t':=s.toks) (fun b o hb e=>eb b o hb e) f0 f1 f3 f4 f5⟩
 self:=fun _ _ _ _ _ st h=>wpAny_pyIter_rangeiter st h
end L2
namespace L2
open PySem PySem.Spec PyProof.Rows
section
variable {X:Cx} {tg:Expr}
noncomputable def OR (K:PySem.W.Frag) (tl:TE):TI:=fun σ H R=>tl σ H fun x H1=>∃ a,x=.ref a∧(∃ xs,SqL K H1 a xs)∧R (Itl K a) H1
noncomputable def Pt (K:PySem.W.Frag) (tl:TE):TI:=fun σ H R=>tl σ H fun x H1=>∃ a,x=.ref a∧(∃ xs,SqT K H1 a xs)∧R (Itt K a) H1
theorem GJ {l:Expr} {tl:TE} (hl:PE X l tl):PI X tg l (OR X.K tl):=by
 intro pins s σ H R I h
 refine thn (hl pins s σ H _ I h) fun v s1 ⟨x,H1,I1,r1,q1⟩=>?_
 obtain ⟨a,e,⟨xs,hq⟩,q⟩:=q1
 subst e
 cases r1
 obtain ⟨its,rv,p,hz⟩:=I1.list hq
 refine wpAny_pyIter_list p.isList ?_
 refine ⟨s1.heap.objs.size,[s1.heap.objs.size],_,_,H1,rfl,I1.kept (t':=s1.toks) fun b o e=>Heap.get?_push_of_some _ e,CA a _,⟨_,Heap.get?_push_size _ rfl,rfl,rfl⟩,fun b hb=>?_,q⟩
 have e:b=s1.heap.objs.size:=by simpa using hb
 subst e
 exact I1.zO (Nat.le_refl _) (I1.hok.fresh (Nat.le_refl _))
theorem Mo {l:Expr} {tl:TE} (hl:PE X l tl):PI X tg l (Pt X.K tl):=by
 intro pins s σ H R I h
 refine thn (hl pins s σ H _ I h) fun v s1 ⟨x,H1,I1,r1,q1⟩=>?_
 obtain ⟨a,e,⟨xs,hq⟩,q⟩:=q1
 subst e
 cases r1
 obtain ⟨its,rv,p,hz⟩:=I1.tuple hq
 refine wpAny_pyIter_tuple (show s1.heap.IsTuple a its.toArray from p) ?_
 refine ⟨s1.heap.objs.size,[s1.heap.objs.size],_,_,H1,rfl,I1.kept (t':=s1.toks) fun b o e=>Heap.get?_push_of_some _ e,zD a _,⟨_,Heap.get?_push_size _ rfl,rfl,rfl⟩,fun b hb=>?_,q⟩
 have e:b=s1.heap.objs.size:=by simpa using hb
 subst e
 exact I1.zO (Nat.le_refl _) (I1.hok.fresh (Nat.le_refl _))
theorem wF {pins:List (Addr × Obj)} {σ:St} {H:Hp} {s:Shared} {R:It→Hp→Prop} {E:Value→Shared→Prop} {lo hi:Int} {t u v:Tok} {tk:Nat} (I:Inv X pins σ H s) (h1:-(2 ^ 62)≤lo) (h2:lo < 2 ^ 62) (h3:-(2 ^ 62)≤hi) (h4:hi < 2 ^ 62)
   (q:R (Itr lo (hi - lo).toNat) H):wpAny (model X.prog X.w) X.A (pyIter (.ref s.heap.objs.size)) (PIE X pins σ tg R) E { s with heap:=s.heap.push { cls:=.type "range",data:=.fields #[.int lo t,.int hi u,.int 1 v] },toks:=tk }:=by
 refine wpAny_pyIter_range (IsRange.new ..) (small_one h1 h2 h3 h4) ?_
 have I1:Inv X pins σ H { s with heap:=s.heap.push { cls:=.type "range",data:=.fields #[.int lo t,.int hi u,.int 1 v] },toks:=tk }:=I.kept fun b o e=>Heap.get?_push_of_some _ e
 refine ⟨(s.heap.push { cls:=.type "range",data:=.fields #[.int lo t,.int hi u,.int 1 v] }).objs.size,[(s.heap.push { cls:=.type "range",data:=.fields #[.int lo t,.int hi u,.int 1 v] }).objs.size],_,_,H,rfl,
   I1.kept (t':=tk) fun b o e=>Heap.get?_push_of_some _ e,zV _ lo (hi - lo).toNat,?_,fun b hb=>?_,q⟩
 · have e1:lo + ((0:Nat):Int) * 1=lo:=by simp
   have e2:(((hi - lo).toNat:Nat):Int) - ((0:Nat):Int)=Builtin.Range.rangeSize lo hi 1:=by rw [rangeSize_one]; split <;> omega
   show IsRangeIter _ _ (lo + ((0:Nat):Int) * 1) ((((hi - lo).toNat:Nat):Int) - ((0:Nat):Int)) 1
   rw [e1,e2]
   exact Heap.get?_push_size _ rfl
 · have e:b=(s.heap.push { cls:=.type "range",data:=.fields #[.int lo t,.int hi u,.int 1 v] }).objs.size:=by simpa using hb
   subst e
   exact I1.zO (Nat.le_refl _) (I1.hok.fresh (Nat.le_refl _))
noncomputable def NX (ta:TA):TI:=fun σ H R=>ta σ H fun vs H1=>∃ j:Int,vs=[.int j]∧-(2 ^ 62)≤j∧j < 2 ^ 62∧R (Itr 0 j.toNat) H1
noncomputable def N4 (ta:TA):TI:=fun σ H R=>ta σ H fun vs H1=>∃ i j:Int,vs=[.int i,.int j]∧(-(2 ^ 62)≤i∧i < 2 ^ 62∧-(2 ^ 62)≤j∧j < 2 ^ 62)∧R (Itr i (j - i).toNat) H1
theorem BP {a:Expr} {ta:TA} {p pos:Pos} (hg:Gl X "range") (hm:X.mg "range" = none) (ha:PA X [a] ta) (hs:starEach [a] X.env=[(false,eval a X.env)]:=by rfl):PI X tg (.Call (.Name "range" p) [a] [] pos) (NX ta):=by
 intro pins s σ H R I h
 refine Call_ (jC I hg hm boot_range (PyProof.Rows.callWith_type1 (thn (ha pos pins s σ H _ I h) fun us s1 ⟨vs,H1,I1,r1,q1⟩=>?_) hs rfl))
 obtain ⟨j,e,q1,q2,q⟩:=q1
 subst e
 cases r1 with
 | cons r rr=>
   cases rr
   obtain ⟨t,rfl⟩:=r
   exact call_range_1 (wF I1 (by omega) (by omega) q1 q2 (by simpa using q))
theorem Cu {a b:Expr} {ta:TA} {p pos:Pos} (hg:Gl X "range") (hm:X.mg "range" = none) (ha:PA X [a,b] ta) (hs:starEach [a,b] X.env=[(false,eval a X.env),(false,eval b X.env)]:=by rfl) (hs2:starEach [b] X.env=[(false,eval b X.env)]:=by rfl) :
   PI X tg (.Call (.Name "range" p) [a,b] [] pos) (N4 ta):=by
 intro pins s σ H R I h
 refine Call_ (jC I hg hm boot_range (PyProof.Rows.callWith_type1 (thn (ha pos pins s σ H _ I h) fun us s1 ⟨vs,H1,I1,r1,q1⟩=>?_) (by rw [hs,hs2]) (by rw [hs2]; rfl)))
 obtain ⟨i,j,e,⟨q1,q2,q3,q4⟩,q⟩:=q1
 subst e
 cases r1 with
 | cons r rr=>
   cases rr with
   | cons r' rr=>
     cases rr
     obtain ⟨t,rfl⟩:=r
     obtain ⟨t',rfl⟩:=r'
     exact call_range_2 (wF I1 q1 q2 q3 q4 q)
noncomputable def PL (wi:TI) (g:TG) (tb:TS):TS:=fun D σ H=>wi σ H fun J H1=>∃ W:Nat→Nat→St→Hp→Prop,(∃ m,W 0 m σ H1)∧∀ i m σ H,W i m σ H →
 (J.stop i H∧D.nx σ H)∨(J.go i H∧∃ N:St→Hp→Prop,(∀ σ' H',N σ' H'→∃ m',m' < m∧W (i + 1) m' σ' H')∧∀ x H',J.yld i H x H'→g x σ H' fun σ2 H2=>tb { D with nx:=N,ct:=N,bk:=D.nx } σ2 H2)
noncomputable def my (fp:List Addr) (h:Heap):List (Addr × Obj):=fp.filterMap fun b=>(h.get? b).map fun o=>(b,o)
theorem eV {fp:List Addr} {h:Heap} {b:Addr} {o:Obj} (hb:b ∈ fp) (e:h.get? b=some o):(b,o) ∈ my fp h:=List.mem_filterMap.mpr ⟨b,hb,by rw [e]; rfl⟩
theorem BD {fp:List Addr} {h:Heap} {p:Addr × Obj} (hp:p ∈ my fp h):p.1 ∈ fp∧h.get? p.1=some p.2:=by
 obtain ⟨b,hb,e⟩:=List.mem_filterMap.mp hp
 cases q:h.get? b with
 | none=>rw [q] at e; cases e
 | some o=>
   rw [q] at e
   have e':(b,o)=p:=Option.some.inj e
   subst e'
   exact ⟨hb,q⟩
theorem Inv.pinned {pins:List (Addr × Obj)} {σ:St} {H:Hp} {s:Shared} {fp:List Addr} (I:Inv X pins σ H s) (hf:∀ b ∈ fp,sT X pins H b) (ho:∀ b ∈ fp,∃ o,s.heap.get? b=some o∧∀ v,o.data ≠ .cell v):Inv X (pins++my fp s.heap) σ H s:=
 I.A2 fun p hp=>(List.mem_append.mp hp).elim (fun z=>I.pin p (List.mem_append_right _ z)) fun z=>by
   obtain ⟨hb,e⟩:=BD z
   obtain ⟨f0,f1,f2,_⟩:=hf p.1 hb
   obtain ⟨o,e',d⟩:=ho p.1 hb
   rw [e] at e'; cases e'
   exact ⟨e,f0,f1,f2,d⟩
theorem Inv.ja {pins pl:List (Addr × Obj)} {σ:St} {H:Hp} {s:Shared} (I:Inv X (pins++pl) σ H s):Inv X pins σ H s:=I.A2 fun p hp=>I.pin p (List.mem_append_right _ (List.mem_append_left _ hp))
theorem Kf {iter:Expr} {body:List Stmt} {wi:TI} {g:TG} {tb:TS} {pos:Pos} (hp:PassesOwn (model X.prog X.w) X.A X.env X.xe) (hc:X.calm=true) (hi:PI X tg iter wi) (hg:PG X tg g) (hb:PSs X body tb)
   (hs:∀ x,foldedSetIterable iter X.env x=pure x:=by intro _; rfl):PS X (.For tg iter body [] pos) (PL wi g tb):=by
 intro pins s σ H D I h
 refine wpAny_For (thn (hi pins s σ H _ I h) fun v s1 h1=>thn h1 fun itv s2 h2=>?_) hs
 obtain ⟨it,fp,tn,J,H2,e,I2,T,st2,f2,W,⟨m0,w0⟩,turn⟩:=h2
 subst e
 have stat:∀ {H':Hp},(∀ b ∈ fp,H' b=none)→∀ b ∈ fp,sT X pins H' b:=fun hn b hb=>⟨hn b hb,(f2 b hb).2⟩
 refine codeAny_forLoop_any (fun n s'=>∃ i σ' H',Inv X pins σ' H' s'∧tn i s'.heap∧(∀ b ∈ fp,H' b=none)∧W i n σ' H') ?_ m0 ⟨0,σ,H2,I2,st2,fun b hb=>(f2 b hb).1,w0⟩
 rintro n s3 ⟨i,σ3,H3,I3,st3,fr3,w3⟩
 rcases turn i n σ3 H3 w3 with ⟨stop,qn⟩ | ⟨go,N,hN,step⟩
 · refine wpAny_passesOwn hp (thn (T.done X rfl rfl rfl hc i pins s3 σ3 H3 X.xe I3 (stat fr3) st3 stop) fun r s4 ⟨hr,I4⟩=>?_)
   subst hr
   exact wpAny_execs_nil ⟨σ3,H3,I4,qn⟩
 · refine wpAny_passesOwn hp (thn (T.item X rfl rfl rfl hc i pins s3 σ3 H3 X.xe I3 (stat fr3) st3 go) fun r s4 ⟨u,hr,h4⟩=>?_)
   subst hr
   refine wpAny_passesOwn hp (thn h4 fun _ s5 ⟨x,H5,I5,r5,y5,st5,fr5⟩=>?_)
   have I5':=I5.pinned (stat fr5) (T.obj _ _ st5)
   refine wpAny_passesOwn hp (thn (hg _ s5 σ3 H5 x u _ I5' r5 (step x H5 y5)) fun _ s6 ⟨σ6,H6,I6,q6⟩=>?_)
   refine wpAny_passesOwn hp (thn (hb _ s6 σ6 H6 _ I6 q6) fun f s7 q7=>?_)
   have again:∀ {σ7:St} {H7:Hp},Inv X (pins++my fp s5.heap) σ7 H7 s7→N σ7 H7→∃ m,m < n∧∃ i σ' H',Inv X pins σ' H' s7∧tn i s7.heap∧(∀ b ∈ fp,H' b=none)∧W i m σ' H':=fun {σ7 H7} I7 n7=>by
     obtain ⟨m',hm,w7⟩:=hN σ7 H7 n7
     refine ⟨m',hm,i + 1,σ7,H7,I7.ja,T.keep _ _ _ st5 fun b hb o e=>(I7.pin (b,o) (List.mem_append_right _ (List.mem_append_right _ (eV hb e)))).1,fun b hb=>?_,w7⟩
     obtain ⟨o,e,d⟩:=T.obj _ _ st5 b hb
     exact (I7.pin (b,o) (List.mem_append_right _ (List.mem_append_right _ (eV hb e)))).2.1
   cases f with
   | next=>obtain ⟨σ7,H7,I7,n7⟩:=q7; exact again I7 n7
   | cont=>obtain ⟨σ7,H7,I7,n7⟩:=q7; exact again I7 n7
   | brk=>obtain ⟨σ7,H7,I7,q7⟩:=q7; exact ⟨σ7,H7,I7.ja,q7⟩
   | ret v=>obtain ⟨x7,σ7,H7,I7,r7,q7⟩:=q7; exact ⟨x7,σ7,H7,I7.ja,r7,q7⟩
end
end L2
namespace L2
open PySem PySem.Spec PyProof.Rows
noncomputable abbrev R2:=V→V→Hp→VK→Prop
noncomputable def OpR (X:Cx) (f:Value→Value→Sem Value) (r:R2):Prop:=
 ∀ (pins:List (Addr × Obj)) (s:Shared) (σ:St) (H:Hp) (x y:V) (v u:Value) (Q:VK),Inv X pins σ H s→RelV x v→RelV y u→r x y H Q →
   wpAny (model X.prog X.w) X.A (f v u) (EP X pins σ Q) X.xe s
noncomputable def UnR (X:Cx) (f:Value→Sem Value) (r:V→Hp→VK→Prop):Prop:=
 ∀ (pins:List (Addr × Obj)) (s:Shared) (σ:St) (H:Hp) (x:V) (v:Value) (Q:VK),Inv X pins σ H s→RelV x v→r x H Q →
   wpAny (model X.prog X.w) X.A (f v) (EP X pins σ Q) X.xe s
noncomputable def iP (X:Cx) (f:Value) (r:List V→Hp→VK→Prop):Prop:=
 ∀ (pins:List (Addr × Obj)) (s:Shared) (σ:St) (H:Hp) (xs:List V) (us:List Value) (Q:VK),Inv X pins σ H s→Vals xs us→r xs H Q →
   wpAny (model X.prog X.w) X.A (call f us) (EP X pins σ Q) X.xe s
noncomputable def tOp (r:R2) (ta tb:TE):TE:=fun σ H Q=>ta σ H fun x H1=>tb σ H1 fun y H2=>r x y H2 Q
noncomputable def tUn (r:V→Hp→VK→Prop) (ta:TE):TE:=fun σ H Q=>ta σ H fun x H1=>r x H1 Q
noncomputable def rI (C:Int→Int→Prop) (g:Int→Int→V):R2:=fun x y H Q=>∃ i j,x=.int i∧y=.int j∧C i j∧Q (g i j) H
noncomputable def rI0 (g:Int→Int→V):R2:=fun x y H Q=>∃ i j,x=.int i∧y=.int j∧Q (g i j) H
noncomputable def rU (g:Int→V):V→Hp→VK→Prop:=fun x H Q=>∃ i,x=.int i∧Q (g i) H
section
variable {X:Cx} {a b c:Expr} {ta tb tc:TE} {pos:Pos}
theorem NJ (ha:PE X a ta) (hb:PE X b tb) {pins:List (Addr × Obj)} {s:Shared} {σ:St} {H:Hp} {R:V→V→Hp→Prop} (I:Inv X pins σ H s)
   (h:ta σ H fun x H1=>tb σ H1 fun y H2=>R x y H2) {Q:Value→Shared→Prop} {f:Value→Value→Sem Value}
   (hf:∀ v u s2 x y H2,Inv X pins σ H2 s2→RelV x v→RelV y u→R x y H2→wpAny (model X.prog X.w) X.A (f v u) Q X.xe s2) :
   wpAny (model X.prog X.w) X.A (eval a X.env) (fun v s₁=>wpAny (model X.prog X.w) X.A (eval b X.env) (fun u s₂=>wpAny (model X.prog X.w) X.A (f v u) Q X.xe s₂) X.xe s₁) X.xe s:=by
 refine thn (ha pins s σ H _ I h) fun v s1 ⟨x,H1,I1,r1,q1⟩=>?_
 refine thn (hb pins s1 σ H1 _ I1 q1) fun u s2 ⟨y,H2,I2,r2,q2⟩=>?_
 exact hf v u s2 x y H2 I2 r1 r2 q2
theorem Ov {op:Operator} {r:R2} (ho:OpR X (binaryOp op) r) (ha:PE X a ta) (hb:PE X b tb):PE X (.BinOp a op b pos) (tOp r ta tb):=by
 intro pins s σ H Q I h
 exact wpAny_BinOp (NJ ha hb I h fun v u s2 x y H2 I2 rx ry q=>ho pins s2 σ H2 x y v u Q I2 rx ry q)
theorem OH {op:UnaryOp} {r:V→Hp→VK→Prop} (ho:UnR X (unaryOp op) r) (ha:PE X a ta):PE X (.UnaryOp op a pos) (tUn r ta):=by
 intro pins s σ H Q I h
 exact UnaryOp_ (thn (ha pins s σ H _ I h) fun v s1 ⟨x,H1,I1,r1,q1⟩=>ho pins s1 σ H1 x v Q I1 r1 q1)
theorem opI {f:Value→Value→Sem Value} {C:Int→Int→Prop} {g:Int→Int→Int}
   (rule:∀ (i j:Int) (t u:Tok) (s:Shared) (Q:Value→Shared→Prop) (E:Value→Shared→Prop),C i j→Q (.int (g i j) s.toks) { s with toks:=s.toks + 1 }→wpAny (model X.prog X.w) X.A (f (.int i t) (.int j u)) Q E s) :
   OpR X f (rI C fun i j=>.int (g i j)):=by
 intro pins s σ H x y v u Q I rx ry h
 obtain ⟨i,j,rfl,rfl,hc,q⟩:=h
 obtain ⟨t,rfl⟩:=rx
 obtain ⟨t',rfl⟩:=ry
 exact rule i j t t' s _ _ hc ⟨.int (g i j),H,I.tok _,⟨_,rfl⟩,q⟩
theorem IC {f:Value→Value→Sem Value} {g:Int→Int→Bool}
   (rule:∀ (i j:Int) (t u:Tok) (s:Shared) (Q:Value→Shared→Prop) (E:Value→Shared→Prop),Q (.bool (g i j)) s→wpAny (model X.prog X.w) X.A (f (.int i t) (.int j u)) Q E s) :
   OpR X f (rI0 fun i j=>.bl (g i j)):=by
 intro pins s σ H x y v u Q I rx ry h
 obtain ⟨i,j,rfl,rfl,q⟩:=h
 obtain ⟨t,rfl⟩:=rx
 obtain ⟨t',rfl⟩:=ry
 exact rule i j t t' s _ _ ⟨.bl (g i j),H,I,rfl,q⟩
noncomputable def PF (i j:Int):Prop:=0≤j∧j≤1000000∧i.natAbs < 2 ^ 64
theorem Hs:OpR X (binaryOp .Mod) (rI (fun _ j=>j ≠ 0) fun i j=>.int (i.fmod j)):=opI fun _ _ _ _ _ _ _ hc q=>mod_int' hc q
theorem Mt:OpR X (binaryOp .Pow) (rI PF fun i j=>.int (i ^ j.toNat)):=opI fun _ _ _ _ _ _ _ hc q=>pow_int_small hc.1 hc.2.1 hc.2.2 q
theorem unI {f:Value→Sem Value} {g:Int→Int}
   (rule:∀ (i:Int) (t:Tok) (s:Shared) (Q:Value→Shared→Prop) (E:Value→Shared→Prop),Q (.int (g i) s.toks) { s with toks:=s.toks + 1 }→wpAny (model X.prog X.w) X.A (f (.int i t)) Q E s) :
   UnR X f (rU fun i=>.int (g i)):=by
 intro pins s σ H x v Q I rx h
 obtain ⟨i,rfl,q⟩:=h
 obtain ⟨t,rfl⟩:=rx
 exact rule i t s _ _ ⟨.int (g i),H,I.tok _,⟨_,rfl⟩,q⟩
theorem JT:UnR X (unaryOp .USub) (rU fun i=>.int (-i)):=unI fun _ _ _ _ _ q=>neg_int q
end
section
variable {X:Cx} {a b c:Expr} {ta tb tc:TE} {pos:Pos}
theorem Gm {pins:List (Addr × Obj)} {σ:St} {H:Hp} {s:Shared} {Q:VK} {k k':Bool} (I:Inv X pins σ H s) (q:Q (.bl k) H) (e:k=k'):EP X pins σ Q (.bool k') s:=by
 subst e
 exact ⟨.bl k,H,I,rfl,q⟩
theorem Og:OpR X (compareOp .Lt) (rI0 fun i j=>.bl (decide (i < j))):=IC fun _ _ _ _ _ _ _ q=>lt_int q
theorem NR:OpR X (compareOp .LtE) (rI0 fun i j=>.bl (decide (i≤j))):=IC fun _ _ _ _ _ _ _ q=>le_int q
theorem OJ:OpR X (compareOp .Gt) (rI0 fun i j=>.bl (decide (j < i))):=IC fun _ _ _ _ _ _ _ q=>gt_int q
theorem Od:OpR X (compareOp .GtE) (rI0 fun i j=>.bl (decide (j≤i))):=IC fun _ _ _ _ _ _ _ q=>ge_int q
theorem MM:OpR X (compareOp .Is) (fun x y H Q=>y=.non∧Q (.bl (decide (x=.non))) H):=by
 intro pins s σ H x y v u Q I rx ry h
 obtain ⟨rfl,q⟩:=h
 cases ry
 refine is_none_gen (Gm I q ?_)
 cases x <;> first
   | (cases rx; rfl)
   | (obtain ⟨t,rfl⟩:=rx; rfl)
theorem GO:OpR X (compareOp .IsNot) (fun x y H Q=>y=.non∧Q (.bl (!decide (x=.non))) H):=by
 intro pins s σ H x y v u Q I rx ry h
 obtain ⟨rfl,q⟩:=h
 cases ry
 refine isnot_none_gen (Gm I q ?_)
 cases x <;> first
   | (cases rx; rfl)
   | (obtain ⟨t,rfl⟩:=rx; rfl)
theorem uU {op:CmpOp} {r:R2} (ho:OpR X (compareOp op) r) (ha:PE X a ta) (hb:PE X b tb) (hm:behindInMarks op b=false):PE X (.Compare a [op] [b] pos) (tOp r ta tb):=by
 intro pins s σ H Q I h
 exact wpAny_Compare1 (NJ ha hb I h fun v u s2 x y H2 I2 rx ry q=>ho pins s2 σ H2 x y v u Q I2 rx ry q) hm
noncomputable def JR (t:TE):TT:=fun σ H Q=>t σ H fun x H'=>∃ k,x=.bl k∧Q k H'
theorem vE {op:CmpOp} {r:R2} (ho:OpR X (compareOp op) r) (ha:PE X a ta) (hb:PE X b tb) (hm:behindInMarks op b=false):PT X (.Compare a [op] [b] pos) (JR (tOp r ta tb)):=by
 intro pins s σ H Q I h
 refine wpAny_isTrue_Compare1 (thn (ha pins s σ H _ I h) fun v s1 ⟨x,H1,I1,r1,q1⟩=>thn (hb pins s1 σ H1 _ I1 q1) fun u s2 ⟨y,H2,I2,r2,q2⟩=>
   thn (ho pins s2 σ H2 x y v u _ I2 r1 r2 q2) fun c s3 ⟨z,H3,I3,r3,k,e,q3⟩=>?_) hm
 subst e
 cases r3
 exact wpAny_truthy_bool ⟨H3,I3,q3⟩
noncomputable def zQ (r r':R2) (ta tb tc:TE):TE:=fun σ H Q=>ta σ H fun x H1=>tb σ H1 fun y H2=>r x y H2 fun z H3=>∃ k,z=.bl k ∧
 (if k=true then tc σ H3 fun w' H4=>r' y w' H4 Q else Q (.bl false) H3)
theorem E6 {op op':CmpOp} {r r':R2} (ho:OpR X (compareOp op) r) (ho':OpR X (compareOp op') r') (ha:PE X a ta) (hb:PE X b tb) (hc:PE X c tc)
   (hm:lastMarks [op,op'] [b,c]=false:=by with_unfolding_all rfl):PE X (.Compare a [op,op'] [b,c] pos) (zQ r r' ta tb tc):=by
 intro pins s σ H Q I h
 refine Compare_chain (thn (ha pins s σ H _ I h) fun v s1 ⟨x,H1,I1,r1,q1⟩=>chain_link (thn (hb pins s1 σ H1 _ I1 q1) fun u s2 ⟨y,H2,I2,r2,q2⟩=>
   thn (ho pins s2 σ H2 x y v u _ I2 r1 r2 q2) fun d s3 ⟨z,H3,I3,r3,k,e,q3⟩=>?_)) hm
 subst e
 cases r3
 refine wpAny_truthy_bool ?_
 cases k with
 | false=>exact ite_ff ⟨.bl false,H3,I3,rfl,q3⟩
 | true=>exact ite_tt (chain_last (thn (hc pins s3 σ H3 _ I3 q3) fun w' s4 ⟨z',H4,I4,r4,q4⟩=>ho' pins s4 σ H4 y z' u w' Q I4 r2 r4 q4))
theorem Eg {op op':CmpOp} {r r':R2} (ho:OpR X (compareOp op) r) (ho':OpR X (compareOp op') r') (ha:PE X a ta) (hb:PE X b tb) (hc:PE X c tc)
   (hm:lastMarks [op,op'] [b,c]=false:=by with_unfolding_all rfl):PT X (.Compare a [op,op'] [b,c] pos) (JR (zQ r r' ta tb tc)):=by
 intro pins s σ H Q I h
 refine isTrue_chain (thn (ha pins s σ H _ I h) fun v s1 ⟨x,H1,I1,r1,q1⟩=>test_link (thn (hb pins s1 σ H1 _ I1 q1) fun u s2 ⟨y,H2,I2,r2,q2⟩=>
   thn (ho pins s2 σ H2 x y v u _ I2 r1 r2 q2) fun d s3 ⟨z,H3,I3,r3,k,e,q3⟩=>?_)) hm
 subst e
 cases r3
 refine wpAny_truthy_bool ?_
 cases k with
 | false=>
   obtain ⟨k',e',q'⟩:=q3
   cases e'
   exact ite_ff ⟨H3,I3,q'⟩
 | true=>
   refine ite_tt (test_last (thn (hc pins s3 σ H3 _ I3 q3) fun w' s4 ⟨z',H4,I4,r4,q4⟩=>thn (ho' pins s4 σ H4 y z' u w' _ I4 r2 r4 q4) fun d' s5 ⟨z2,H5,I5,r5,k2,e2,q5⟩=>?_))
   subst e2
   cases r5
   exact wpAny_truthy_bool ⟨H5,I5,q5⟩
theorem u6:(sizeLine:Nat) < 2 ^ 63:=by rw [sizeLine_eq]; decide
theorem vals1 {x:V} {us:List Value} (r:Vals [x] us):∃ u,us=[u]∧RelV x u:=by
 cases r with
 | cons r1 r2=>cases r2; exact ⟨_,rfl,r1⟩
theorem vals2 {x y:V} {us:List Value} (r:Vals [x,y] us):∃ u w',us=[u,w']∧RelV x u∧RelV y w':=by
 cases r with
 | cons r1 r2=>
   cases r2 with
   | cons r3 r4=>cases r4; exact ⟨_,_,rfl,r1,r3⟩
theorem Dk:iP X (.builtin "abs") (fun xs H Q=>∃ i,xs=[.int i]∧Q (.int (if i < 0 then -i else i)) H):=by
 intro pins s σ H xs us Q I r h
 obtain ⟨i,rfl,q⟩:=h
 obtain ⟨u,rfl,t,rfl⟩:=vals1 r
 exact call_abs_int fun u tk=>⟨.int (if i < 0 then -i else i),H,I.tok _,⟨_,rfl⟩,q⟩
theorem CI (hc:X.calm=true):iP X (.builtin "max") (fun xs H Q=>∃ i j,xs=[.int i,.int j]∧Q (.int (if j > i then j else i)) H):=by
 intro pins s σ H xs us Q I r h
 obtain ⟨i,j,rfl,q⟩:=h
 obtain ⟨u,w',rfl,⟨t,rfl⟩,⟨t',rfl⟩⟩:=vals2 r
 refine max_two_ints (I.ok.hd hc) fun h' tk k=>⟨_,H,I.kept k,?_,q⟩
 by_cases hj:j > i
 · rw [if_pos hj,if_pos hj]; exact ⟨_,rfl⟩
 · rw [if_neg hj,if_neg hj]; exact ⟨_,rfl⟩
theorem Ce (hc:X.calm=true):iP X (.builtin "min") (fun xs H Q=>∃ i j,xs=[.int i,.int j]∧Q (.int (if j < i then j else i)) H):=by
 intro pins s σ H xs us Q I r h
 obtain ⟨i,j,rfl,q⟩:=h
 obtain ⟨u,w',rfl,⟨t,rfl⟩,⟨t',rfl⟩⟩:=vals2 r
 refine min_two_ints (I.ok.hd hc) fun h' tk k=>⟨_,H,I.kept k,?_,q⟩
 by_cases hj:j < i
 · rw [if_pos hj,if_pos hj]; exact ⟨_,rfl⟩
 · rw [if_neg hj,if_neg hj]; exact ⟨_,rfl⟩
end
end L2
namespace L2
open PySem PySem.Spec PyProof.Rows
section
variable {prog:Program} {w:World} {A:Around} {E:Value→Shared→Prop} {s:Shared} {K:PySem.W.Frag} {x dx C f:Addr} {mA:Str→Option Value} {name:Str} {v:Value}
end
section
variable {P:Program} {w:World} {H H':Hp} {h h':Heap} {a C dx:Addr} {fs fs':List (Str × V)}
end
section
variable {X:Cx} {pins:List (Addr × Obj)} {σ:St} {H:Hp} {s:Shared} {a C dx:Addr} {fs:List (Str × V)} {f:Str} {v:V} {A:Around} {E:Value→Shared→Prop}
end
section
variable {X:Cx} {o e value:Expr} {f:Str} {pos pos' tpos:Pos} {ta tv:TE}
end
section
variable {X:Cx} {pins:List (Addr × Obj)} {σ:St} {H:Hp} {s:Shared} {A:Around} {E:Value→Shared→Prop} {Q:Value→Shared→Prop} {c:Value} {b:Bool}
end
end L2
namespace L2
open PySem PySem.Spec PyProof.Rows
structure jY (k:Nat) (A:Around):Prop where
 hd:A.handled=none
 dp:A.depth + 3 * k + 5 < recursionLimit
 un:A.units + 16 * k + 200 < cLine
theorem jY.mono {j k:Nat} {A:Around} (r:jY k A) (h:j≤k):jY j A:=⟨r.hd,by have:=r.dp; omega,by have:=r.un; omega⟩
theorem jY.deeper {k:Nat} {A:Around} (r:jY (k + 1) A) (env:Env):jY k (A.deeper env):=
 ⟨r.hd,by have:=r.dp; show A.depth + 1 + 3 * k + 5 < _; omega,by have:=r.un; show A.units + 3 + 16 * k + 200 < _; omega⟩
theorem jY.depth {k:Nat} {A:Around} (r:jY k A):A.depth < recursionLimit:=by have:=r.dp; omega
theorem jY.units {k:Nat} {A:Around} (r:jY k A):A.units + 64 < cLine:=by have:=r.un; omega
noncomputable def PJ:TA:=fun _ H Q=>Q [] H
noncomputable def Oy (ta:TE) (tr:TA):TA:=fun σ H Q=>ta σ H fun x H1=>tr σ H1 fun xs H2=>Q (x :: xs) H2
section
variable {X:Cx} {e:Expr} {es:List Expr} {te:TE} {t:TA} {pos:Pos}
theorem ke:PA X [] PJ:=fun _ _ _ _ H Q I h=>Calls.spliced_nil ⟨[],H,I,.nil,h⟩
theorem eL (ha:PE X e te) (hr:PA X es t) (hs:starEach (e :: es) X.env=(false,eval e X.env) :: starEach es X.env:=by rfl):PA X (e :: es) (Oy te t):=by
 intro pos pins s σ H Q I h
 rw [hs]
 show wpAny _ _ (spliced ((false,eval e X.env) :: backTo pos (starEach es X.env))) _ _ s
 refine Calls.spliced_cons (thn (ha pins s σ H _ I h) fun u s1 ⟨x,H1,I1,r1,q1⟩=>?_)
 exact thn (hr pos pins s1 σ H1 _ I1 q1) fun us s2 ⟨xs,H2,I2,r2,q2⟩=>⟨x :: xs,H2,I2,.cons r1 r2,q2⟩
noncomputable def Pq (t:TA):TE:=fun σ H Q=>t σ H fun xs H1=>xs.length≤sizeLine∧∀ p,H1 p=none→Q (.ref p) (upd H1 p (.tup xs))
noncomputable def Pp (t:TA):TE:=fun σ H Q=>t σ H fun xs H1=>xs.length≤sizeLine∧∀ p,H1 p=none→Q (.ref p) (upd H1 p (.lst xs))
theorem NC {x1} (h:PA X es t):PE X (.Tuple es x1 pos) (Pq t):=by
 intro pins s σ H Q I hq
 refine wpAny_Tuple_spliced (thn (h pos pins s σ H _ I hq) fun us s1 ⟨xs,H1,I1,r,z,q⟩=>⟨by rw [← r.length]; exact z,?_⟩)
 have hf:H1 s1.heap.objs.size=none:=I1.hok.fresh (Nat.le_refl _)
 refine ⟨.ref s1.heap.objs.size,upd H1 s1.heap.objs.size (.tup xs),I1.laid (t':=s1.toks) (fun b u e=>Heap.get?_push_of_some _ e) (Nat.le_refl _) ?_,rfl,q _ hf⟩
 exact ⟨z,us,r,⟨_,Heap.get?_push_size _ rfl,rfl,_,rfl⟩⟩
theorem Li (h:PA X es t):PE X (.List es pos) (Pp t):=by
 intro pins s σ H Q I hq
 refine wpAny_List_spliced (thn (h pos pins s σ H _ I hq) fun us s1 ⟨xs,H1,I1,r,z,q⟩=>⟨by rw [← r.length]; exact z,?_⟩)
 have hf:H1 s1.heap.objs.size=none:=I1.hok.fresh (Nat.le_refl _)
 refine ⟨.ref s1.heap.objs.size,upd H1 s1.heap.objs.size (.lst xs),I1.laid (t':=s1.toks) (fun b u e=>Heap.get?_push_of_some _ e) (Nat.le_refl _) ?_,rfl,q _ hf⟩
 exact ⟨z,us,0,r,Heap.get?_push_size _ rfl⟩
end
noncomputable abbrev Sp:=List V→Hp→VK→XK→Prop
noncomputable abbrev CXT:=List Env→Hp→Shared→XK→Value→Shared→Prop
structure Je (P:Program) (w:World) (K:PySem.W.Frag) (mg:Str→Option Value) (base:Heap) (A:Around) (outer:List Env) (s:Shared) (H:Hp):Prop where
 frames:A.frames=some outer
 mod:Mod K mg base
 bs:∀ b o,base.get? b=some o→s.heap.get? b=some o∧H b=none
 bsz:base.objs.size≤s.heap.objs.size
 qm:s.heap.FunFrames base outer
 frf:∀ b ∈ frs outer,H b=none
 hok:HOk P w H s.heap
 bare:AllBare s.gens
noncomputable def CE (outer:List Env) (P:Program) (w:World) (H:Hp) (s:Shared) (Q:VK) (u:Value) (s':Shared):Prop:=
 ∃ v H',s'.os=s.os∧AllBare s'.gens∧Un (frs outer) [] H H' s.heap s'.heap∧HOk P w H' s'.heap∧RelV v u∧Q v H'
noncomputable def CR (CX:CXT) (outer:List Env) (P:Program) (w:World) (H:Hp) (s:Shared) (Q:VK) (E:XK) (r:Result) (s':Shared):Prop:=
 match r with
 | .ok (.ret u)=>CE outer P w H s Q u s'
 | .ok _=>False
 | .error e=>CX outer H s E e s'
structure bK (P:Program) (w:World) (K:PySem.W.Frag) (mg:Str→Option Value) (base:Heap) (CX:CXT) (k:Nat) (f:Addr) (fd:FuncData) (ps:List Str) (sp:Sp):Prop where
 len:∀ vs H Q E,sp vs H Q E→vs.length=ps.length
 run:∀ (A:Around) (outer:List Env) (s:Shared) (H:Hp) (args:Args) (us:List Value) (vs:List V) (Q:VK) (E:XK),jY k A→Je P w K mg base A outer s H→BindsTo s fd args (ps.zip us)→Vals vs us→sp vs H Q E →
   codeAny (model P w) A (.call (.ref f) args) (CR CX outer P w H s Q E) s
theorem bK.mono {P:Program} {w:World} {K:PySem.W.Frag} {mg:Str→Option Value} {base:Heap} {CX:CXT} {j k:Nat} {f:Addr} {fd:FuncData} {ps:List Str} {sp:Sp} (F:bK P w K mg base CX j f fd ps sp) (h:j≤k) :
   bK P w K mg base CX k f fd ps sp:=⟨F.len,fun A outer s H args us vs Q E hr=>F.run A outer s H args us vs Q E (hr.mono h)⟩
section
variable {X:Cx} {pins:List (Addr × Obj)} {σ:St} {H:Hp} {s s':Shared}
theorem Inv.O9 (I:Inv X pins σ H s):Je X.prog X.w X.K X.mg X.base X.A X.stack s H:=
 ⟨I.ok.frames,I.ok.mod,I.bs,Nat.le_trans I.ok.bsz I.sz,I.stack,I.AH,I.hok,I.bare⟩
theorem Inv.after {Q:VK} {u:Value} (I:Inv X pins σ H s) (h:CE X.stack X.prog X.w H s Q u s'):EP X pins σ Q u s':=by
 obtain ⟨v,H',os,bare,un,hok,r,q⟩:=h
 obtain ⟨hh,g,d,t,os'⟩:=s'
 obtain rfl:os'=s.os:=os
 exact ⟨v,H',I.call (h':=hh) (g':=g) (d':=d) (t':=t) (ch:=[]) un hok bare (fun b z=>absurd z (by simp)),r,q⟩
end
noncomputable def OK (sp:Sp) (dvs:List V) (E:XK) (t:TA):TE:=fun σ H Q=>t σ H fun vs H1=>sp (vs++dvs) H1 Q E
noncomputable def Binds (K:PySem.W.Frag) (fd:FuncData) (ps:List Str) (ds:List Value):Prop:=
 ∀ (s:Shared) (us:List Value),K.In s.heap→(us++ds).length=ps.length→BindsTo s fd ⟨us,[]⟩ (ps.zip (us++ds))
theorem Binds.all {K:PySem.W.Frag} {fd:FuncData} {ps:List Str} (h:∀ us:List Value,us.length=ps.length→bindArgs fd ⟨us,[]⟩=pure (ps.zip us)):Binds K fd ps []:=fun s us _ hl=>by
 rw [List.append_nil] at hl ⊢
 exact .of_eq (h us hl)
noncomputable def Passes (CX:CXT) (X:Cx) (E:XK):Prop:=∀ (pins:List (Addr × Obj)) (σ:St) (H:Hp) (s:Shared) (e:Value) (s':Shared),Inv X pins σ H s→CX X.stack H s E e s'→X.xe e s'
section
variable {X:Cx} {CX:CXT} {k:Nat} {f C:Addr} {fd:FuncData} {ps:List Str} {sp:Sp} {dvs:List V} {ds:List Value} {E:XK} {x m:Str} {p pos apos:Pos} {e o:Expr} {es:List Expr} {ta:TE} {t:TA}
theorem M5 {pins:List (Addr × Obj)} {σ:St} {H:Hp} {s:Shared} {Q:VK} {us:List Value} {vs:List V} (F:bK X.prog X.w X.K X.mg X.base CX k f fd ps sp) (hr:jY k X.A) (hb:Binds X.K fd ps ds) (hd:Vals dvs ds) (hx:Passes CX X E)
   (I:Inv X pins σ H s) (r:Vals vs us) (h:sp (vs++dvs) H Q E):wpAny (model X.prog X.w) X.A (call (.ref f) us) (EP X pins σ Q) X.xe s:=by
 have r2:Vals (vs++dvs) (us++ds):=r.append hd
 have hl:(us++ds).length=ps.length:=by rw [← r2.length]; exact F.len _ _ _ _ h
 refine wpAny_call (codeAny_mono (F.run X.A X.stack s H ⟨us,[]⟩ (us++ds) (vs++dvs) Q E hr I.O9 (hb s us I.kIn hl) r2 h) fun r s' hq=>?_)
 cases r with
 | error e=>exact hx pins σ H s e s' I hq
 | ok fl=>
   cases fl with
   | ret u=>exact I.after hq
   | next=>exact False.elim hq
   | brk=>exact False.elim hq
   | cont=>exact False.elim hq
theorem Ir (F:bK X.prog X.w X.K X.mg X.base CX k f fd ps sp) (hr:jY k X.A) (hg:Gl X x) (hm:X.mg x=some (.ref f)) (hk:PySem.W.keepIn X.K (.ref f)=true) (hb:Binds X.K fd ps ds) (hd:Vals dvs ds) (hx:Passes CX X E)
   (ha:PA X (e :: es) t) (hdb:(x == ("__debug__" : Str))=false:=by decide) (he:starEach (e :: es) X.env=(false,eval e X.env) :: starEach es X.env:=by rfl) (hpl:(backTo pos (starEach es X.env)).any (·.1)=false:=by rfl) :
   PE X (.Call (.Name x p) (e :: es) [] pos) (OK sp dvs E t):=by
 intro pins s σ H Q I h
 refine wpAny_Call_Name_kw (AR I hg hm ?_ hdb)
 refine PySem.W.callWith_K (h₀:=X.base) I.ok.mod.kin hk (thn (ha pos pins s σ H _ I h) fun us s1 ⟨vs,H1,I1,r,q⟩=>⟨I1.kIn,?_⟩) he hpl
 exact M5 F hr hb hd hx I1 r q
end
section
variable {X:Cx} {CX:CXT} {k:Nat} {f C:Addr} {fd:FuncData} {ps ks:List Str} {sp:Sp} {E:XK} {x m:Str} {p pos apos kpos:Pos} {e o:Expr} {es:List Expr} {kws:List Keyword} {te ta:TE} {t tk:TA} {nm:Option Str}
variable {g:List Value→List Value→List Value} {gV:List V→List V→List V}
end
structure aB (N P:List Str) (sc:Scope):Prop where
 kind:sc.kind=.function
 co:sc.isCoroutine=false
 gen:sc.isGenerator=false
 nd:N.Nodup
 pre:N.take P.length=P
 par:∀ x ∈ P,sc.names.lookup x=some .local∨sc.names.lookup x=some .cell
 nofree:∀ y ∈ sc.names,y.2 ≠ .free
theorem uk {kindOf:Str→Option NameKind} {x:Str}:∀ {binds:List (Str × Value)} {m:Str→Option Value},(∀ v,(x,v) ∉ binds)→bindL kindOf binds m x=m x
 | [],_,_=>rfl
 | (n,v) :: r,m,h=>by
   unfold bindL
   rw [uk fun w hw=>h w (List.mem_cons_of_mem _ hw)]
   split
   · have:x ≠ n:=by rintro rfl; exact h v List.mem_cons_self
     simp [this]
   · rfl
theorem uo {kindOf:Str→Option NameKind} {x:Str}:∀ {binds:List (Str × Value)} {m:Str→Option Value},(∀ v,(x,v) ∉ binds)→bindC kindOf binds m x=m x
 | [],_,_=>rfl
 | (n,v) :: r,m,h=>by
   unfold bindC
   rw [uo fun w hw=>h w (List.mem_cons_of_mem _ hw)]
   split
   · rfl
   · have:x ≠ n:=by rintro rfl; exact h v List.mem_cons_self
     simp [this]
theorem t4 {kindOf:Str→Option NameKind} {x:Str} {v:Value}:∀ {P:List Str} {vs:List Value} {i:Nat} {m:Str→Option Value},P.Nodup→P[i]?=some x→vs[i]?=some v→kindOf x=some .local →
   bindL kindOf (P.zip vs) m x=some v
 | [],_,_,_,_,h,_,_=>by simp at h
 | _ :: _,[],_,_,_,_,h,_=>by simp at h
 | p :: P,w :: vs,0,m,nd,h1,h2,hk=>by
   simp at h1 h2; subst h1; subst h2
   show bindL kindOf ((p,w) :: P.zip vs) m p=_
   unfold bindL
   rw [uk fun v hv=>(List.nodup_cons.mp nd).1 (List.of_mem_zip hv).1,if_pos hk]
   simp
 | p :: P,w :: vs,i + 1,m,nd,h1,h2,hk=>by
   show bindL kindOf ((p,w) :: P.zip vs) m x=_
   unfold bindL
   exact t4 (i:=i) (List.nodup_cons.mp nd).2 (by simpa using h1) (by simpa using h2) hk
theorem tJ {kindOf:Str→Option NameKind} {x:Str} {v:Value}:∀ {P:List Str} {vs:List Value} {i:Nat} {m:Str→Option Value},P.Nodup→P[i]?=some x→vs[i]?=some v→kindOf x ≠ some .local →
   bindC kindOf (P.zip vs) m x=some v
 | [],_,_,_,_,h,_,_=>by simp at h
 | _ :: _,[],_,_,_,_,h,_=>by simp at h
 | p :: P,w :: vs,0,m,nd,h1,h2,hk=>by
   simp at h1 h2; subst h1; subst h2
   show bindC kindOf ((p,w) :: P.zip vs) m p=_
   unfold bindC
   rw [uo fun v hv=>(List.nodup_cons.mp nd).1 (List.of_mem_zip hv).1,if_neg hk]
   simp
 | p :: P,w :: vs,i + 1,m,nd,h1,h2,hk=>by
   show bindC kindOf ((p,w) :: P.zip vs) m x=_
   unfold bindC
   exact tJ (i:=i) (List.nodup_cons.mp nd).2 (by simpa using h1) (by simpa using h2) hk
noncomputable def start (N:List Str) (vs:List V):St:=vs.map some++List.replicate (N.length - vs.length) none
noncomputable def Ad (CX:CXT) (P:Program) (w:World) (K:PySem.W.Frag) (mg:Str→Option Value) (base:Heap) (N:List Str) (qual:Str) (scope:Scope) (f:Addr) (cd:Value) (A:Around) (outer:List Env) (s:Shared) (H:Hp) (E:XK):Cx where
 prog:=P
 w:=w
 K:=K
 mg:=mg
 base:=base
 A:=A.deeper (envOfC qual scope s.heap.objs.size f cd)
 N:=N
 s₀:=s
 H₀:=H
 env:=envOfC qual scope s.heap.objs.size f cd
 outer:=outer
 stack:=envOfC qual scope s.heap.objs.size f cd :: outer
 ex:=[]
 calm:=true
 fn:=fun _=>true
 pn:=[]
 xe:=fun e s'=>wpAny (model P w) (A.deeper (envOfC qual scope s.heap.objs.size f cd)) (leaving (envOfC qual scope s.heap.objs.size f cd) e) (fun _ s''=>CX outer H s E e s'') (fun e' s''=>CX outer H s E e' s'') s'
theorem xu {sc:Scope} {n:Nat} {x:Str} (h:sc.names.lookup x=some .cell):∃ c,(cellsFrom n sc.names []).lookup x=some c:=by
 have q:=PySem.W.cellsFrom_some sc.names n [] (.inl h)
 exact Option.isSome_iff_exists.mp q
theorem BG {CX:CXT} {P:Program} {w:World} {K:PySem.W.Frag} {mg:Str→Option Value} {base:Heap} {N ps:List Str} {qual:Str} {scope:Scope} {f:Addr} {cd:Value} {A:Around} {outer:List Env} {s s1:Shared} {H:Hp} {E:XK} {us:List Value} {vs:List V}
   (S:aB N ps scope) (hd:A.handled=none) (e0:Je P w K mg base A outer s H) (hl:vs.length=ps.length) (r:Vals vs us)
   (x:InCallC s s.heap.objs.size (bindL (envOfC qual scope s.heap.objs.size f cd).kindOf (ps.zip us) fun _=>none) (cellsFrom (s.heap.objs.size + 1) scope.names []) (bindC (envOfC qual scope s.heap.objs.size f cd).kindOf (ps.zip us) fun _=>none) s1) :
   Inv (Ad CX P w K mg base N qual scope f cd A outer s H E) [] (start N vs) H s1:=by
 have hpl:ps.length≤N.length:=by have:=congrArg List.length S.pre; rw [List.length_take] at this; omega
 obtain ⟨h1,tk,rfl,hk⟩:=x.done
 have noA:∀ b:Addr,b ∉ (Ad CX P w K mg base N qual scope f cd A outer s H E).ex:=fun b z=>absurd (show b ∈ ([]:List Addr) from z) (by simp)
 refine ⟨⟨e0.mod,S.kind,rfl,rfl,Nat.le_refl _,fun y z c h1 h2=>?_,fun y hy=>?_,fun y c _ h=>?_,fun _=>hd,Around.frames_deeper e0.frames,.inr ⟨rfl,rfl⟩,fun b z=>absurd z (noA b),e0.bs,e0.bsz,fun b _ _=>noA b,fun b z=>absurd z (noA b),e0.qm,e0.frf⟩,
   rfl,e0.bare,Un.kept hk,⟨_,x.toInCall.ns,fun i y v h1 h2 h3=>?_⟩,fun y c h=>⟨_,x.cell y c h⟩,e0.hok.fresh (Nat.le_refl _),fun y c h=>?_,fun p hp=>absurd (show p ∈ ([]:List (Addr × Obj)) from hp) (by simp),e0.hok.kept hk,?_⟩
 · exact name_of_addr x.apart (PySem.mem_of_lookup h1) (PySem.mem_of_lookup h2)
 · have hy:scope.names.lookup y=some .cell∨scope.names.lookup y=some .free:=hy
   rcases hy with hy | hy
   · exact xu hy
   · exact absurd rfl (S.nofree _ (PySem.mem_of_lookup hy))
 · exact Nat.le_of_lt (x.above y c (PySem.mem_of_lookup h))
 · have hi:i < vs.length:=by
     unfold start at h2
     by_cases hi:i < vs.length
     · exact hi
     · rw [List.getElem?_append_right (by simpa using hi)] at h2
       rw [List.getElem?_replicate] at h2
       split at h2 <;> cases h2
   have ha:vs[i]?=some v:=by
     unfold start at h2
     rw [List.getElem?_append_left (by simpa using hi),List.getElem?_map] at h2
     cases e:vs[i]? with
     | none=>rw [e] at h2; cases h2
     | some a=>rw [e] at h2; cases h2; rfl
   obtain ⟨u,hu,rv⟩:=r.get ha
   have hp:ps[i]?=some y:=by
     rw [← S.pre,List.getElem?_take_of_lt (by omega)]; exact h1
   have ndP:ps.Nodup:=by rw [← S.pre]; exact S.nd.sublist (List.take_sublist _ _)
   refine ⟨u,rv,?_⟩
   rcases S.par y (List.mem_of_getElem? hp) with k | k
   · exact .inl ⟨k,t4 ndP hp hu k⟩
   · obtain ⟨c,e⟩:=xu (n:=s.heap.objs.size + 1) k
     refine .inr ⟨.inl k,c,e,?_⟩
     have q:=x.cell y c e
     rw [tJ ndP hp hu (by show scope.names.lookup y ≠ _; rw [k]; decide)] at q
     exact q
 · exact e0.hok.fresh (Nat.le_of_lt (x.above y c (PySem.mem_of_lookup h)))
 · unfold start
   show _=N.length
   rw [List.length_append,List.length_map,List.length_replicate]
   omega
theorem Oq {CX:CXT} {P:Program} {w:World} {K:PySem.W.Frag} {mg:Str→Option Value} {base:Heap} {k:Nat} {f:Addr} {name qual:Str} {params:Arguments} {body:List Stmt} {scope:Scope} {dV kV doc pm cdv ct oc:Value} {an od:Option Addr}
   {osl:Array (Option Value)} {N ps:List Str} {sp:Sp} (lk:K.lookup f=some ⟨oc,od,.func (PySem.W.fnOf name qual params body scope dV kV doc pm an cdv ct),osl⟩) (hcd:PySem.W.codeIn K cdv qual=true) (S:aB N ps scope)
   (len:∀ vs H Q E,sp vs H Q E→vs.length=ps.length)
   (hbody:∀ (A:Around) (outer:List Env) (s:Shared) (H:Hp) (vs:List V) (Q:VK) (E:XK),jY k (A.deeper (envOfC qual scope s.heap.objs.size f cdv))→sp vs H Q E →
     ∃ t,PSs (Ad CX P w K mg base N qual scope f cdv A outer s H E) body t∧t { nx:=fun _ H'=>Q .non H',rt:=Q } (start N vs) H) :
   bK P w K mg base CX (k + 1) f (PySem.W.fnOf name qual params body scope dV kV doc pm an cdv ct) ps sp:=by
 refine ⟨len,fun A outer s H args us vs Q E hr e0 hb r hsp=>?_⟩
 have hl:=len _ _ _ _ hsp
 have KX:K.In s.heap:=e0.mod.kin.keeps fun b o e=>(e0.bs b o e).1
 have lim:s.heap.NoLimit:=e0.mod.nolimit.keeps fun b o e=>(e0.bs b o e).1
 have hkind:∀ y ∈ ps.zip us,scope.names.lookup y.1=some .local∨(scope.names.lookup y.1=some .cell∧((cellsFrom (s.heap.objs.size + 1) scope.names []).lookup y.1).isSome=true):=fun ⟨n,v⟩ hy=>by
   rcases S.par n (List.of_mem_zip hy).1 with q | q
   · exact .inl q
   · exact .inr ⟨q,PySem.W.cellsFrom_some _ _ _ (.inl q)⟩
 refine codeAny_call_function hr.depth (KX _ _ lk) rfl S.co S.gen rfl (PySem.W.codeRec_of KX hcd) (hb _ _ _ _ ?_)
 refine wpAny_newFunctionEnv_cells S.kind hkind fun env he s1 x=>?_
 subst he
 refine ⟨lim.keeps x.toInCall.keep,codeAny_func ?_⟩
 obtain ⟨t,ht,hq⟩:=hbody A outer s H vs Q E (hr.deeper _) hsp
 have I:Inv (Ad CX P w K mg base N qual scope f cdv A outer s H E) [] (start N vs) H s1:=BG S hr.hd e0 hl r x
 refine wpAny_mono (ht [] s1 (start N vs) H _ I hq) (fun fl s' hs=>?_) fun e s' hs=>hs
 have fin:∀ {σ':St} {H':Hp} {v:V} {u:Value},Inv (Ad CX P w K mg base N qual scope f cdv A outer s H E) [] σ' H' s'→RelV v u→Q v H'→CE outer P w H s Q u s':=
   fun {σ' H' v u} J rv q=>⟨v,H',J.os,J.bare,J.base,J.hok,rv,q⟩
 cases fl with
 | ret u=>
   obtain ⟨v,σ',H',J,rv,q⟩:=hs
   exact fin J rv q
 | next=>
   obtain ⟨σ',H',J,q⟩:=hs
   exact fin (v:=V.non) (u:=Value.none) J rfl q
 | brk=>
   obtain ⟨_,_,_,q⟩:=hs
   exact False.elim q
 | cont=>
   obtain ⟨_,_,_,q⟩:=hs
   exact False.elim q
end L2
namespace L2
open PySem PySem.Spec PyProof.Rows
section
variable {X:Cx} {x:Str} {p pos:Pos} {e:Expr} {es:List Expr} {t:TA} {id T:String} {r:List V→Hp→VK→Prop}
noncomputable def tCB (r:List V→Hp→VK→Prop) (t:TA):TE:=fun σ H Q=>t σ H fun vs H1=>r vs H1 Q
theorem jf (hc:iP X (.builtin id) r) (hg:Gl X x) (hm:X.mg x=none) (hv:bootBuiltins x=some (.builtin id)) (ha:PA X (e :: es) t) (hn:x ≠ "__name__":=by decide) (hdb:(x == ("__debug__" : Str))=false:=by decide)
   (he:starEach (e :: es) X.env=(false,eval e X.env) :: starEach es X.env:=by rfl) (hpl:(backTo pos (starEach es X.env)).any (·.1)=false:=by rfl):PE X (.Call (.Name x p) (e :: es) [] pos) (tCB r t):=by
 intro pins s σ H Q I h
 refine wpAny_Call_Name_kw (jC I hg hm hv ?_ hn hdb)
 exact PyProof.Rows.callWith_builtin1 (thn (ha pos pins s σ H _ I h) fun us s1 ⟨vs,H1,I1,r1,q1⟩=>hc pins s1 σ H1 vs us Q I1 r1 q1) he hpl
theorem Cw (hc:iP X (.type T) r) (hg:Gl X x) (hm:X.mg x=none) (hv:bootBuiltins x=some (.type T)) (ha:PA X (e :: es) t) (hn:x ≠ "__name__":=by decide) (hdb:(x == ("__debug__" : Str))=false:=by decide)
   (he:starEach (e :: es) X.env=(false,eval e X.env) :: starEach es X.env:=by rfl) (hpl:(backTo pos (starEach es X.env)).any (·.1)=false:=by rfl):PE X (.Call (.Name x p) (e :: es) [] pos) (tCB r t):=by
 intro pins s σ H Q I h
 refine wpAny_Call_Name_kw (jC I hg hm hv ?_ hn hdb)
 exact PyProof.Rows.callWith_type1 (thn (ha pos pins s σ H _ I h) fun us s1 ⟨vs,H1,I1,r1,q1⟩=>hc pins s1 σ H1 vs us Q I1 r1 q1) he hpl
end
end L2
namespace HT
open PySem PyProof.Rows
section
open PySem.SeqAt
open PySem.AutoSeq1 (wpAny_loadPart')
open PySem.MeetsSeq PySem.MeetsSeq2 PySem.MeetsSeq3
end
section
variable {prog:Program} {w:World} {A:Around} {E:Value→Shared→Prop} {s:Shared}
noncomputable def sIx (n d:Nat):Option Int→Nat
 | none=>d
 | some v=>if v < 0 then (v + (n:Int)).toNat else min v.toNat n
theorem E1 (n d:Nat):sIx n d none=d:=rfl
end
end HT
namespace L2
open PySem PySem.Spec PyProof.Rows
noncomputable abbrev TO:=St→Hp→(Option Int→Hp→Prop)→Prop
noncomputable def PO (X:Cx) (e:Option Expr) (t:TO):Prop:=
 ∀ (pins:List (Addr × Obj)) (s:Shared) (σ:St) (H:Hp) (Q:Option Int→Hp→Prop),Inv X pins σ H s→t σ H Q →
   wpAny (model X.prog X.w) X.A (evalPart e X.env) (fun u s'=>∃ o H',Inv X pins σ H' s'∧IsPart u o∧Q o H') X.xe s
noncomputable def Ht:TO:=fun _ H Q=>Q none H
noncomputable def OL (t:TE):TO:=fun σ H Q=>t σ H fun x H1=>∃ i,x=.int i∧Q (some i) H1
section
variable {X:Cx} {e:Expr} {te:TE} {lo hi:Option Expr} {tl th:TO} {pos p2:Pos}
theorem IV:PO X none Ht:=by
 intro pins s σ H Q I h
 rw [evalPart_none]
 exact wpAny_pure ⟨none,H,I,.none,h⟩
theorem Jg (h:PE X e te):PO X (some e) (OL te):=by
 intro pins s σ H Q I hw
 rw [evalPart_some]
 refine thn (h pins s σ H _ I hw) fun u s1 ⟨x,H1,I1,r1,q1⟩=>?_
 obtain ⟨i,rfl,q⟩:=q1
 obtain ⟨t,rfl⟩:=r1
 exact ⟨some i,H1,I1,.int i t,q⟩
noncomputable def SlR (X:Cx) (r:V→Option Int→Option Int→Hp→VK→Prop):Prop:=
 ∀ (pins:List (Addr × Obj)) (s:Shared) (σ:St) (H:Hp) (x:V) (v vl vu:Value) (lo hi:Option Int) (sl:Addr) (Q:VK),Inv X pins σ H s→RelV x v→s.heap.IsSliceOf sl vl vu .none→IsPart vl lo→IsPart vu hi→r x lo hi H Q →
   ∃ T id,typeLookup (.type T) "__getitem__" = pure (some (.builtin id))∧s.TypeIs v T∧wpAny (model X.prog X.w) X.A (getItem v (.ref sl)) (EP X pins σ Q) X.xe s
noncomputable def tSl (r:V→Option Int→Option Int→Hp→VK→Prop) (te:TE) (tl th:TO):TE:=fun σ H Q=>te σ H fun x H1=>tl σ H1 fun l H2=>th σ H2 fun u H3=>r x l u H3 Q
theorem DL {r:V→Option Int→Option Int→Hp→VK→Prop} (hr:SlR X r) (he:PE X e te) (hl:PO X lo tl) (hu:PO X hi th):PE X (.Subscript e (.Slice lo hi none p2) pos) (tSl r te tl th):=by
 intro pins s σ H Q I h
 refine Subscript_ (thn (he pins s σ H _ I h) fun v s1 ⟨x,H1,I1,r1,q1⟩=>?_)
 refine wpAny_Slice (thn (hl pins s1 σ H1 _ I1 q1) fun vl s2 ⟨l,H2,I2,pl,q2⟩=>thn (hu pins s2 σ H2 _ I2 q2) fun vu s3 ⟨u,H3,I3,pu,q3⟩=>?_)
 rw [evalPart_none]
 refine wpAny_pure ?_
 have I4:Inv X pins σ H3 { s3 with heap:=s3.heap.push { cls:=.type "slice",data:=.fields #[vl,vu,.none] } }:=I3.kept (t':=s3.toks) fun b ob q=>Heap.get?_push_of_some _ q
 obtain ⟨T,id,hT,ht,hg⟩:=hr pins { s3 with heap:=s3.heap.push { cls:=.type "slice",data:=.fields #[vl,vu,.none] } } σ H3 x v vl vu l u s3.heap.objs.size Q I4 r1 (Heap.IsSliceOf.new ..) pl pu q3
 show wpAny (model X.prog X.w) X.A (subscriptTail e (.Slice lo hi none p2) v (.ref s3.heap.objs.size)) (EP X pins σ Q) X.xe { s3 with heap:=s3.heap.push { cls:=.type "slice",data:=.fields #[vl,vu,.none] } }
 exact tail_any (ops:=[.ref s3.heap.objs.size,v]) ht hT hg (by with_unfolding_all rfl)
noncomputable def B6 (xs:List V) (lo hi:Option Int):List V:=(xs.drop (HT.sIx xs.length 0 lo)).take (HT.sIx xs.length xs.length hi - HT.sIx xs.length 0 lo)
theorem wX (xs:List V) (lo hi:Option Int):(B6 xs lo hi).length≤xs.length:=by
 unfold B6
 rw [List.length_take,List.length_drop]
 omega
end
end L2
namespace L2
open PySem PySem.Spec PyProof.Rows
noncomputable def ixN (n:Nat) (i:Int):Option Nat:=if 0≤i then (if i < n then some i.toNat else none) else if -(n:Int)≤i then some (i + n).toNat else none
noncomputable def atI {α:Type} (xs:List α) (i:Int):Option α:=(ixN xs.length i).bind fun j=>xs[j]?
theorem Br {n:Nat} {i:Int} {j:Nat} (h:ixN n i=some j):seqIndex? i n=some j∧j < n∧-(n:Int)≤i∧i < n:=by
 unfold ixN at h
 by_cases h0:0≤i
 · rw [if_pos h0] at h
   by_cases h1:i < n
   · rw [if_pos h1] at h
     have e:i.toNat=j:=Option.some.inj h
     exact ⟨by rw [seqIndex_of h0 h1,e],by omega,by omega,h1⟩
   · rw [if_neg h1] at h; cases h
 · rw [if_neg h0] at h
   by_cases h1:-(n:Int)≤i
   · rw [if_pos h1] at h
     have e:(i + n).toNat=j:=Option.some.inj h
     exact ⟨by rw [seqIndex_neg (by omega) h1,e],by omega,h1,by omega⟩
   · rw [if_neg h1] at h; cases h
theorem Bt {α:Type} {xs:List α} {i:Int} {v:α} (h:atI xs i=some v):∃ j,seqIndex? i xs.length=some j∧xs[j]?=some v∧j < xs.length∧-(xs.length:Int)≤i∧i < xs.length:=by
 unfold atI at h
 cases e:ixN xs.length i with
 | none=>rw [e] at h; cases h
 | some j=>
   rw [e] at h
   obtain ⟨h1,h2,h3,h4⟩:=Br e
   exact ⟨j,h1,h,h2,h3,h4⟩
noncomputable def Bp (b:Expr):Prop:=∀ o i,subscripted b false o i=operate [o,i] (getItem o i)
noncomputable def IxR (X:Cx) (r:R2):Prop:=
 ∀ (value slice:Expr) (pins:List (Addr × Obj)) (s:Shared) (σ:St) (H:Hp) (x y:V) (v u:Value) (Q:VK),Inv X pins σ H s→RelV x v→RelV y u→r x y H Q →
   subscripted slice false v u=operate [v,u] (getItem v u)→wpAny (model X.prog X.w) X.A (subscriptTail value slice v u) (EP X pins σ Q) X.xe s
noncomputable def MtR (X:Cx) (id:String) (r:V→List V→Hp→VK→Prop):Prop:=
 ∀ (pins:List (Addr × Obj)) (s:Shared) (σ:St) (H:Hp) (x:V) (xs:List V) (v:Value) (us:List Value) (Q:VK),Inv X pins σ H s→RelV x v→Vals xs us→r x xs H Q →
   wpAny (model X.prog X.w) X.A (call (.builtin id) (v :: us)) (EP X pins σ Q) X.xe s
section
variable {X:Cx} {a b:Expr} {ta tb:TE} {pos:Pos}
theorem OM {r:R2} (hr:IxR X r) (ha:PE X a ta) (hb:PE X b tb) (hs:Bp b):PE X (.Subscript a b pos) (tOp r ta tb):=by
 intro pins s σ H Q I h
 exact Subscript_ (NJ ha hb I h fun v u s2 x y H2 I2 rx ry q=>hr a b pins s2 σ H2 x y v u Q I2 rx ry q (hs _ _))
noncomputable def Pc (K:PySem.W.Frag):R2:=fun x y H Q=>∃ p xs i v,x=.ref p∧y=.int i∧SqL K H p xs∧atI xs i=some v∧Q v H
noncomputable def Pj (K:PySem.W.Frag):R2:=fun x y H Q=>∃ p xs i v,x=.ref p∧y=.int i∧SqT K H p xs∧atI xs i=some v∧Q v H
theorem Jd:IxR X (Pc X.K):=by
 intro value slice pins s σ H x y v u Q I rx ry h hs
 obtain ⟨p,xs,i,z,rfl,rfl,hq,he,q⟩:=h
 cases rx
 obtain ⟨t,rfl⟩:=ry
 obtain ⟨its,r,pl,hz⟩:=I.list hq
 obtain ⟨j,h1,h2,h3,h4,h5⟩:=Bt he
 obtain ⟨w,ew,rw'⟩:=r.get h2
 have hl:=r.length
 have hn:=u6
 have fin:EP X pins σ Q w s:=⟨z,H,I,rw',q⟩
 by_cases h0:0≤i
 · have hj:i.toNat=j:=by
     rw [seqIndex_of h0 h5] at h1
     exact Option.some.inj h1
   exact item_listR pl.isList h0 (by omega) (by rw [hj]; simpa using ew) fin hs
 · have hj:(i + (its.toArray.size:Int)).toNat=j:=by
     rw [seqIndex_neg (by omega) h4] at h1
     rw [List.size_toArray,← hl]
     exact Option.some.inj h1
   exact subscriptTail_builtinR (x:=w) pl.isList.typeIs slot_list_getitem.lookup
     (wpAny_getItem_list_neg (Q:=fun r s'=>r=w∧EP X pins σ Q r s') pl.isList (by omega) (by rw [List.size_toArray] <;> omega) (by omega) (by rw [hj]; simpa using ew) ⟨rfl,fin⟩) hs
theorem KH:IxR X (Pj X.K):=by
 intro value slice pins s σ H x y v u Q I rx ry h hs
 obtain ⟨p,xs,i,z,rfl,rfl,hq,he,q⟩:=h
 cases rx
 obtain ⟨t,rfl⟩:=ry
 obtain ⟨its,r,pl,hz⟩:=I.tuple hq
 obtain ⟨j,h1,h2,h3,h4,h5⟩:=Bt he
 obtain ⟨w,ew,rw'⟩:=r.get h2
 have hl:=r.length
 have hn:=u6
 have fin:EP X pins σ Q w s:=⟨z,H,I,rw',q⟩
 exact subscriptTail_builtinR (x:=w) pl.typeIs slot_tuple_getitem.lookup
   (getItem_tuple (j:=j) (Q:=fun r s'=>r=w∧EP X pins σ Q r s') pl (by omega) (by omega) (by rw [List.size_toArray,← hl]; exact h1) (by simpa using ew) ⟨rfl,fin⟩) hs
theorem Aa (its:List Value) (n j:Nat) (u:Value):Obj.mapSeq (·.setIfInBounds j u) { cls:=.type "list",data:=.seq its.toArray n }={ cls:=.type "list",data:=.seq (its.set j u).toArray n }:=by
 simp [Obj.mapSeq]
theorem Inv.lst {pins:List (Addr × Obj)} {σ:St} {H:Hp} {s:Shared} {p:Addr} {xs:List V} (I:Inv X pins σ H s) (h:H p=some (.lst xs)) :
   ∃ (its:List Value) (n:Nat),Vals xs its∧s.heap.get? p=some { cls:=.type "list",data:=.seq its.toArray n }∧xs.length≤sizeLine:=by
 obtain ⟨z,its,n,r,e⟩:=I.hok p _ h
 exact ⟨its,n,r,e,z⟩
theorem Inv.Ng {pins:List (Addr × Obj)} {σ:St} {H:Hp} {s:Shared} {p:Addr} {xs ys:List V} {its its':List Value} {n n':Nat} {f:Obj→Obj} (I:Inv X pins σ H s) (h:H p=some (.lst xs))
   (ho:s.heap.get? p=some { cls:=.type "list",data:=.seq its.toArray n }) (hf:f { cls:=.type "list",data:=.seq its.toArray n }={ cls:=.type "list",data:=.seq its'.toArray n' }) (r:Vals ys its') (hz:ys.length≤sizeLine) (t:Nat) :
   Inv X pins σ (upd H p (.lst ys)) { s with heap:=s.heap.update p f,toks:=t }:=by
 have e:(s.heap.update p f).get? p=some { cls:=.type "list",data:=.seq its'.toArray n' }:=by
   rw [Heap.get?_update_self f ho (by rw [hf] <;> rfl),hf]
 refine I.write (x:=p) (e:=p) (by rw [h]; trivial) (.inl rfl) (fun b u hb q=>(Heap.get?_update_other _ _ (Ne.symm hb)).trans q) ⟨_,e⟩ ?_
 exact ⟨hz,its',n',r,e⟩
noncomputable def Of:V→V→V→Hp→(Hp→Prop)→Prop:=fun o i v H Q=>∃ p xs k j,o=.ref p∧i=.int k∧H p=some (.lst xs)∧ixN xs.length k=some j∧Q (upd H p (.lst (xs.set j v)))
theorem set_list:LC X Of:=by
 intro pins s σ H o i v ov iv u Q I ro ri rv h
 obtain ⟨p,xs,k,j,rfl,rfl,hp,hj,q⟩:=h
 cases ro
 obtain ⟨t,rfl⟩:=ri
 obtain ⟨its,n,r,ho,hz⟩:=I.lst hp
 obtain ⟨h1,h2,h3,h4⟩:=Br hj
 have hl:=r.length
 have hn:=u6
 have I':Inv X pins σ (upd H p (.lst (xs.set j v))) { s with heap:=s.heap.update p (Obj.mapSeq (·.setIfInBounds j u)) }:=
   I.Ng hp ho (Aa its n j u) (r.set rv j) (by rw [List.length_set]; exact hz) s.toks
 by_cases h0:0≤k
 · have hk:k.toNat=j:=by
     rw [seqIndex_of h0 h4] at h1
     exact Option.some.inj h1
   exact PySem.W.ki_setAt ho h0 (by omega) (by rw [List.size_toArray,← hl]; exact h4) (by rw [hk]; exact ⟨_,I',q⟩)
 · have hk:(k + (its.toArray.size:Int)).toNat=j:=by
     rw [seqIndex_neg (by omega) h3] at h1
     rw [List.size_toArray,← hl]
     exact Option.some.inj h1
   exact PySem.W.ki_setBack ho (by omega) (by rw [List.size_toArray,← hl]; exact h3) (by omega) (by rw [hk]; exact ⟨_,I',q⟩)
theorem vF (lo hi:Option Int) (n:Nat):(sliceBounds lo hi none n).1=((HT.sIx n 0 lo:Nat):Int)∧(sliceBounds lo hi none n).2.1=((HT.sIx n n hi:Nat):Int)∧(sliceBounds lo hi none n).2.2=1:=by
 refine ⟨?_,?_,rfl⟩
 · cases lo with
   | none=>simp [sliceBounds,HT.sIx]
   | some i=>
     simp only [sliceBounds,HT.sIx,Option.getD_none,show (1:Int) > 0 by decide,if_true]
     by_cases h:i < 0
     · simp only [h,if_true] <;> omega
     · simp only [h,if_false] <;> omega
 · cases hi with
   | none=>simp [sliceBounds,HT.sIx]
   | some i=>
     simp only [sliceBounds,HT.sIx,Option.getD_none,show (1:Int) > 0 by decide,if_true]
     by_cases h:i < 0
     · simp only [h,if_true] <;> omega
     · simp only [h,if_false] <;> omega
theorem sV (its:List Value) (lo hi:Option Int):slicePick its.toArray lo hi none=((its.drop (HT.sIx its.length 0 lo)).take (HT.sIx its.length its.length hi - HT.sIx its.length 0 lo)).toArray:=by
 obtain ⟨h1,h2,h3⟩:=vF lo hi its.toArray.size
 unfold slicePick
 rw [h1,h2,h3]
 simp only [sliceRange_one,pick_run,List.size_toArray] <;> rfl
noncomputable def O6 (K:PySem.W.Frag):V→Option Int→Option Int→Hp→VK→Prop:=fun x lo hi H Q=>∃ a xs,x=.ref a∧SqL K H a xs∧∀ p,H p=none→Q (.ref p) (upd H p (.lst (B6 xs lo hi)))
theorem Ie:SlR X (O6 X.K):=by
 intro pins s σ H x v vl vu lo hi sl Q I rx hs pl pu h
 obtain ⟨a,xs,rfl,hx,q⟩:=h
 cases rx
 obtain ⟨its,r,ht,hz⟩:=I.list hx
 have hlen:=r.length
 refine ⟨"list",_,slot_list_getitem.lookup,ht.isList.typeIs,?_⟩
 refine wpAny_getItem_list_slice ht.isList hs pl pu .none (by simp) ?_ (by rw [List.size_toArray] <;> omega)
 rw [sV,← hlen]
 refine ⟨.ref s.heap.objs.size,_,I.laid (t':=s.toks) (o:=.lst (B6 xs lo hi)) (fun b ob q=>Heap.get?_push_of_some _ q) (Nat.le_refl _) ?_,rfl,q _ (I.hok.fresh (Nat.le_refl _))⟩
 exact ⟨Nat.le_trans (wX xs lo hi) hz,_,0,(r.drop (HT.sIx xs.length 0 lo)).take (HT.sIx xs.length xs.length hi - HT.sIx xs.length 0 lo),Heap.get?_push_size _ rfl⟩
theorem vc:iP X (.builtin "len") (fun xs H Q=>∃ p ys,xs=[.ref p]∧(SqL X.K H p ys∨SqT X.K H p ys)∧Q (.int ys.length) H):=by
 intro pins s σ H xs us Q I r h
 obtain ⟨p,ys,rfl,hq,q⟩:=h
 obtain ⟨u,rfl,rx⟩:=vals1 r
 cases rx
 have hn:=u6
 rcases hq with hq | hq
 · obtain ⟨its,r',pl,hz⟩:=I.list hq
   have hlen:=r'.length
   exact Calls.call_len_list pl.isList (by simp only [List.size_toArray] <;> omega) ⟨.int ys.length,H,I.tok _,⟨s.toks + 1,by rw [List.size_toArray,hlen]⟩,q⟩
 · obtain ⟨its,r',pl,hz⟩:=I.tuple hq
   have hlen:=r'.length
   exact len_tuple pl (by simp only [List.size_toArray] <;> omega) ⟨.int ys.length,H,I.tok _,⟨s.toks + 1,by rw [List.size_toArray,hlen]⟩,q⟩
theorem uK:iP X (.type "list") (fun xs H Q=>∃ p ys,xs=[.ref p]∧(SqL X.K H p ys∨SqT X.K H p ys)∧∀ l,H l=none→Q (.ref l) (upd H l (.lst ys))):=by
 intro pins s σ H xs us Q I r h
 obtain ⟨p,ys,rfl,hq,q⟩:=h
 obtain ⟨u,rfl,rx⟩:=vals1 r
 cases rx
 have fin:∀ (its:List Value),Vals ys its→ys.length≤sizeLine→∀ (h':Heap) (c':Nat),(∀ b o',s.heap.get? b=some o'→h'.get? b=some o') →
     h'.get? s.heap.objs.size=some { cls:=.type "list",dict:=none,data:=.seq its.toArray c',slots:=#[] }→EP X pins σ Q (.ref s.heap.objs.size) { s with heap:=h' }:=fun its r' hz h' c' kp e=>
   ⟨.ref s.heap.objs.size,_,I.laid (t':=s.toks) kp (Nat.le_refl _) (show iN X.prog X.w _ h' _ (.lst ys) from ⟨hz,its,c',r',e⟩),rfl,q _ (I.hok.fresh (Nat.le_refl _))⟩
 rcases hq with hq | hq
 · obtain ⟨its,r',pl,hz⟩:=I.list hq
   have hlen:=r'.length
   obtain ⟨o,ho,hc,n,hd⟩:=pl.isList
   exact call_list_seq p (.inl rfl) ho hc hd (fun h' c' kp e=>fin its r' hz h' c' kp e) (by simp only [List.size_toArray] <;> omega)
 · obtain ⟨its,r',pl,hz⟩:=I.tuple hq
   have hlen:=r'.length
   obtain ⟨o,ho,hc,n,hd⟩:=pl
   exact call_list_seq p (.inr rfl) ho hc hd (fun h' c' kp e=>fin its r' hz h' c' kp e) (by simp only [List.size_toArray] <;> omega)
noncomputable def tyV (K:PySem.W.Frag) (T:String) (x:V) (H:Hp):Prop:=match x with
 | .str _=>T = "str"
 | .int _=>T = "int"
 | .ref p=>(T = "list" ∧ ∃ xs,SqL K H p xs)∨(T = "tuple" ∧ ∃ o,K.lookup p=some o∧o.cls=.type "tuple" ∧ o.dict=none) ∨
     (T = "dict" ∧ ((∃ kvs,H p=some (.dK kvs))∨∃ kvs,H p=some (.dT kvs)))∨(T = "set" ∧ ∃ S n,H p=some (.set S n))
 | _=>False
theorem Kh {pins:List (Addr × Obj)} {σ:St} {H:Hp} {s:Shared} {T:String} {x:V} {v:Value} (I:Inv X pins σ H s) (r:RelV x v) (ty:tyV X.K T x H) :
   s.TypeIs v T∧∀ a,v=.ref a→∃ ob,s.heap.get? a=some ob∧ob.dict=none:=by
 cases x with
 | str z=>
   obtain ⟨t,rfl⟩:=r
   cases (show T = "str" from ty)
   exact ⟨typeIs_str s z t,fun _ e=>nomatch e⟩
 | int i=>
   obtain ⟨t,rfl⟩:=r
   cases (show T = "int" from ty)
   exact ⟨typeIs_int s i t,fun _ e=>nomatch e⟩
 | ref p=>
   cases r
   rcases ty with ⟨rfl,xs,hq⟩ | ⟨rfl,o,hk,hc,hd⟩ | ⟨rfl,hk⟩ | ⟨rfl,S,n,hk⟩
   · obtain ⟨its,_,pl,_⟩:=I.list hq
     refine ⟨pl.isList.typeIs,fun a e=>?_⟩
     cases e
     obtain ⟨o,n,e,c,hd,_⟩:=pl
     exact ⟨o,e,hd⟩
   · refine ⟨⟨o,I.kIn p o hk,hc⟩,fun a e=>?_⟩
     cases e
     exact ⟨o,I.kIn _ o hk,hd⟩
   · have z:∃ o,s.heap.get? p=some o∧o.ExactDict:=by
       rcases hk with ⟨kvs,hk⟩ | ⟨kvs,hk⟩
       · obtain ⟨_,_,_,_,o,_,_,e,ex,_⟩:=I.hok p _ hk
         exact ⟨o,e,ex⟩
       · obtain ⟨_,_,_,_,o,_,_,e,ex,_⟩:=I.hok p _ hk
         exact ⟨o,e,ex⟩
     obtain ⟨o,e,ex⟩:=z
     refine ⟨⟨o,e,ex.1⟩,fun a e2=>?_⟩
     cases e2
     exact ⟨o,e,ex.2.1⟩
   · obtain ⟨o,_,_,_,e,ex,_⟩:=I.hok p _ hk
     refine ⟨⟨o,e,ex.1⟩,fun a e2=>?_⟩
     cases e2
     exact ⟨o,e,ex.2.1⟩
 | _=>exact False.elim ty
noncomputable def tBM (K:PySem.W.Frag) (T:String) (r:V→List V→Hp→VK→Prop) (to:TE) (t:TA):TE:=fun σ H Q=>to σ H fun x H1=>tyV K T x H1∧t σ H1 fun xs H2=>r x xs H2 Q
variable {o e:Expr} {es:List Expr} {to:TE} {t:TA} {name:Str} {apos cpos:Pos} {T id:String} {r:V→List V→Hp→VK→Prop}
theorem AL (pa:PlainAttrs T) (slot:Slot T name id) (hty:typeOf (.builtin id)=pure (.type "method_descriptor")) (hm:MtR X id r) (ho:PE X o to) (ha:PA X (e :: es) t)
   (hbase:attributeBase o name X.env (eval o X.env)=eval o X.env:=by rfl)
   (hfew:((backTo cpos (starEach (e :: es) X.env)).all (fun x=>!x.1) && (backToKw cpos (keywordEach [] X.env)).all (fun x=>x.1.isSome)
     && decide ((e :: es).length + ([]:List Keyword).length + (if ([]:List Keyword).isEmpty then 0 else 1) < 30))=true:=by rfl)
   (hline:(apos.endLine == cpos.line)=true:=by rfl) (hs:starEach (e :: es) X.env=(false,eval e X.env) :: starEach es X.env:=by rfl) (hplain:(backTo cpos (starEach es X.env)).any (·.1)=false:=by rfl) :
   PE X (.Call (.Attribute o name apos) (e :: es) [] cpos) (tBM X.K T r to t):=by
 intro pins s σ H Q I h
 refine wpAny_Call_method_late hbase hfew hline rfl (thn (ho pins s σ H _ I h) fun v s1 ⟨x,H1,I1,r1,ty,q1⟩=>?_)
 obtain ⟨h1,h2⟩:=Kh I1 r1 ty
 refine ⟨T,id,pa,slot,hty,h1,h2,?_⟩
 have hA:=ha cpos pins s1 σ H1 _ I1 q1
 rw [hs] at hA ⊢
 refine Calls.callWith_builtin (by show (false || (backTo cpos (starEach es X.env)).any (·.1))=false; rw [hplain] <;> rfl) (Calls.evalArgs_plain ?_)
 exact thn hA fun us s2 ⟨vs,H2,I2,r2,q2⟩=>hm pins s2 σ H2 x vs v us Q I2 r1 r2 q2
end
end L2
namespace L2
open PySem PySem.Spec PyProof.Rows
noncomputable def MtM (X:Cx) (id:String) (r:V→List V→Hp→VK→Prop):Prop:=
 ∀ (pins:List (Addr × Obj)) (s:Shared) (σ:St) (H:Hp) (x:V) (xs:List V) (v:Value) (us:List Value) (Q:VK),Inv X pins σ H s→RelV x v→Vals xs us→r x xs H Q →
   wpAny (model X.prog X.w) X.A (call (.builtin id) (v :: us)) (EP X pins σ Q) X.xe s
theorem Vals.one {x:V} {us:List Value} (r:Vals [x] us):∃ u,us=[u]∧RelV x u:=vals1 r
theorem Vals.two {x y:V} {us:List Value} (r:Vals [x,y] us):∃ u v,us=[u,v]∧RelV x u∧RelV y v:=vals2 r
theorem Vals.zero:∀ {us:List Value},Vals [] us→us=[]
 | _,.nil=>rfl
theorem Vals.eraseIdx:∀ {xs:List V} {us:List Value} (i:Nat),Vals xs us→Vals (xs.eraseIdx i) (us.eraseIdx i)
 | _,_,_,.nil=>.nil
 | _,_,0,.cons _ t=>t
 | _,_,i + 1,.cons r t=>.cons r (Vals.eraseIdx i t)
theorem tZ {α:Type}:∀ (l:List α) (i:Nat),(l.eraseIdx i).length≤l.length
 | [],_=>Nat.le_refl _
 | _ :: _,0=>Nat.le_succ _
 | _ :: r,i + 1=>Nat.succ_le_succ (tZ r i)
section
variable {X:Cx} {pins:List (Addr × Obj)} {σ:St} {H:Hp} {s:Shared} {l b:Addr} {xs ys zs:List V}
theorem Inv.Jn {its its':List Value} {n:Nat} {f:Array Value→Array Value} {t':Nat} (I:Inv X pins σ H s) (hH:H l=some (.lst xs))
   (e:s.heap.get? l=some { cls:=.type "list",data:=.seq its.toArray n }) (hf:f its.toArray=its'.toArray) (hv:Vals ys its') (hz:ys.length≤sizeLine) :
   Inv X pins σ (upd H l (.lst ys)) { s with heap:=s.heap.update l (Obj.mapSeq f),toks:=t' }:=by
 have q:=PySem.IsL.update e f
 rw [hf] at q
 refine I.write (x:=l) (e:=l) (by rw [hH]; exact trivial) (.inl rfl) (fun b' u hb hu=>(Heap.get?_update_other s.heap (Obj.mapSeq f) (Ne.symm hb)).trans hu) ⟨_,q⟩ ?_
 exact ⟨hz,its',_,hv,q⟩
theorem Inv.Py {its:List Value} {t':Nat} (I:Inv X pins σ H s) (hv:Vals ys its) (hz:ys.length≤sizeLine) :
   Inv X pins σ (upd H s.heap.objs.size (.lst ys)) { s with heap:=s.heap.push { cls:=.type "list",data:=.seq its.toArray },toks:=t' }:=
 I.laid (fun _ _ q=>Heap.get?_push_of_some _ q) (Nat.le_refl _) ⟨hz,its,0,hv,Heap.get?_push_size _ rfl⟩
theorem Inv.fresh (I:Inv X pins σ H s):H s.heap.objs.size=none:=I.hok.fresh (Nat.le_refl _)
theorem Inv.Eo (I:Inv X pins σ H s) (hH:H l=some (.lst xs)):xs.length≤sizeLine∧∃ (its:List Value) (n:Nat),Vals xs its∧xs.length=its.length∧s.heap.get? l=some { cls:=.type "list",data:=.seq its.toArray n }:=by
 obtain ⟨z,its,n,r,e⟩:=I.hok l _ hH
 exact ⟨z,its,n,r,r.length,e⟩
theorem EZ {n:Nat} (h:n≤sizeLine):Builtin.List.listTooLong n=false:=by
 unfold Builtin.List.listTooLong
 exact decide_eq_false (by omega)
end
section
variable {X:Cx}
noncomputable def Ip:V→List V→Hp→VK→Prop:=fun x vs H Q=>∃ l xs y,x=.ref l∧vs=[y]∧H l=some (.lst xs)∧xs.length < sizeLine∧Q .non (upd H l (.lst (xs++[y])))
theorem oH:MtM X "list.append" Ip:=by
 intro pins s σ H x vs v us Q I rx rv h
 obtain ⟨l,xs,y,rfl,rfl,hH,hz,q⟩:=h
 cases rx
 obtain ⟨u,rfl,ru⟩:=rv.one
 obtain ⟨z,its,n,r,hl,e⟩:=I.Eo hH
 refine call_meets F.slot_list_append ⟨_,e,rfl⟩ F.entry_list_append (F.args_list_append_2 _ _) (PySem.list_append l its.toArray n u (by rw [List.size_toArray]; omega)) ⟨e,?_⟩
 refine ⟨.non,_,I.Jn (its':=its++[u]) hH e (by simp) (r.append (.cons ru .nil)) ?_,rfl,q⟩
 rw [List.length_append,List.length_singleton]
 omega
noncomputable def Jk:V→List V→Hp→VK→Prop:=fun x vs H Q=>∃ l b xs zs,x=.ref l∧vs=[.ref b]∧H l=some (.lst xs)∧H b=some (.lst zs)∧xs.length + zs.length≤sizeLine∧Q .non (upd H l (.lst (xs++zs)))
theorem CC:MtM X "list.extend" Jk:=by
 intro pins s σ H x vs v us Q I rx rv h
 obtain ⟨l,b,xs,zs,rfl,rfl,hH,hB,hz,q⟩:=h
 cases rx
 obtain ⟨u,rfl,ru⟩:=rv.one
 cases ru
 obtain ⟨z,its,n,r,hl,e⟩:=I.Eo hH
 obtain ⟨z2,its2,n2,r2,hl2,e2⟩:=I.Eo hB
 have hsz:its.toArray.size + its2.toArray.size≤sizeLine:=by rw [List.size_toArray,List.size_toArray]; omega
 have hlong:¬ (!its.toArray.isEmpty && Builtin.List.listTooLong (its.toArray.size + its2.toArray.size))=true:=by
   rw [EZ hsz,Bool.and_false]
   exact Bool.false_ne_true
 refine call_meets F.slot_list_extend ⟨_,e,rfl⟩ F.entry_list_extend (F.args_list_extend_2 _ _)
   (AutoSeq1.list_extend_list_list_0 l its.toArray n b its2.toArray n2 hlong (by rw [List.size_toArray]; omega) (by omega)) ⟨e,e2,?_⟩
 refine ⟨.non,_,I.Jn (its':=its++its2) hH e (by simp) (r.append r2) ?_,rfl,q⟩
 rw [List.length_append]
 omega
noncomputable def J0:V→List V→Hp→VK→Prop:=fun x vs H Q=>∃ l xs i k y,x=.ref l∧vs=[.int i]∧H l=some (.lst xs)∧-(2 ^ 63)≤i∧i < 2 ^ 63∧seqIndex? i xs.length=some k∧xs[k]?=some y∧Q y (upd H l (.lst (xs.eraseIdx k)))
theorem DG:MtM X "list.pop" J0:=by
 intro pins s σ H x vs v us Q I rx rv h
 obtain ⟨l,xs,i,k,y,rfl,rfl,hH,h1,h2,hk,hy,q⟩:=h
 cases rx
 obtain ⟨u,rfl,ru⟩:=rv.one
 obtain ⟨t,rfl⟩:=ru
 obtain ⟨z,its,n,r,hl,e⟩:=I.Eo hH
 obtain ⟨w,hw,rw'⟩:=r.get hy
 refine call_meets F.slot_list_pop ⟨_,e,rfl⟩ F.entry_list_pop (F.args_list_pop_2 _ _)
   (MeetsSeq.list_pop_at l its.toArray n i t k w (fitsIndex_both h1 h2) (by rw [List.size_toArray,← hl]; exact hk) (by rw [← Array.getElem?_toList]; exact hw) (by rw [List.size_toArray]; omega)) ⟨e,?_⟩
 refine ⟨y,_,I.Jn (its':=its.eraseIdx k) hH e ?_ (r.eraseIdx k) ?_,rw',q⟩
 · show its.toArray.eraseIdxIfInBounds k=(its.eraseIdx k).toArray
   rw [List.eraseIdxIfInBounds_toArray]
 · have:=tZ xs k
   omega
end
section
variable {prog:Program} {w:World} {A:Around} {E:Value→Shared→Prop} {s:Shared}
end
section
variable {X:Cx}
end
end L2
namespace Att
open PySem PySem.W PySem.Calls PyProof.Rows
theorem pL {P:Params} {h:Heap}:∀ (ns:List Int) (vs:List Value),WellAll P h vs (ns.map WData.int)→IntsAre vs ns:=by
 intro ns
 induction ns with
 | nil=>
   intro vs w
   rw [List.map_nil] at w
   cases w
   exact .nil
 | cons n ns ih=>
   intro vs w
   rw [List.map_cons] at w
   cases w with
   | cons a b=>
     cases a
     exact .cons _ _ (ih _ b)
theorem BI {l:OpenLaw} {n:Nat} (hn:l.most=some n) {P:Params} {h:Heap} {args:List WData} {vals:List Value}
   (hpre:l.row.toRowW.claim.pre args=true) (hwl:WellAll P h vals args) :
   ∃ a vs ns,vals=[Value.ref a]∧args=[WData.list (ns.map WData.int)]∧h.get? a=some { cls:=.type "list",data:=.seq vs.toArray }∧IntsAre vs ns∧ns.length≤n:=by
 have hsh:WShape.hasAll [] args [.list .int]=true:=(pre_splitW hpre).1
 have hc:l.pre.holds [] { args:=args }=true:=(pre_splitW hpre).2
 obtain ⟨d,r,rfl,h1,h2⟩:=hasAllW_cons hsh
 obtain rfl:=hasAllW_nil h2
 obtain ⟨xs,rfl,h3⟩:=hasW_list h1
 obtain ⟨ns,rfl⟩:=items_int h3
 have hlen:ns.length≤n:=by
   unfold OpenLaw.pre at hc
   have h4:(WTm.not (.lt (.lit (.int (n:Int))) (.len (.arg 0)))).holds [] { args:=[.list (ns.map .int)] }=true:=by
     have h4:=(holds_andW hc).1
     rw [hn] at h4
     exact h4
   have h5:=condW_of h4 (w_not (w_lt w_lit (w_len_list (w_arg rfl))))
   rw [List.length_map] at h5
   refine Nat.le_of_not_lt fun q=>?_
   have q':(n:Int) < ((ns.length:Nat):Int):=by omega
   first
     | (rw [decide_eq_true q'] at h5; exact absurd h5 (by decide))
     | (simp at h5; omega)
 cases hwl with
 | cons w1 w2=>
   cases w2
   cases w1 with
   | list ho hall=>exact ⟨_,_,ns,rfl,rfl,ho,pL ns _ hall,hlen⟩
theorem BO (l:OpenLaw) (args:List WData):l.row.toRowW.claim.post args (.bool true) args=true:=
 postW_of (r:=l.row.toRowW) (X:=(true == true))
   (show WShape.has [] (.bool true) .bool=true by first | rfl | decide | simp [WShape.has,WShape.arms,WShape.armsAll])
   (show (WTm.eq .res (.lit (.bool true))).value [] { args:=args,res:=some (.bool true),after:=args }=some (.bool (true == true)) from w_eq_bool (w_res rfl) w_lit) rfl
theorem wU {l:OpenLaw} {n:Nat} {q:Program} {loose:List Str} {XP:(Str→Option Value)→Heap→Prop} {YP:World→Heap→Prop} {d:DefRec}
   (hn:l.most=some n) (hdf:d.params.defaults=[])
   (call:∀ (w:World) (s₀ s₁:Shared) (mg mb:Str→Option Value) (fa:Addr) (o:Obj) (pm cd doc:Value) (a:Addr) (vs:List Value) (ns:List Int),
     Ground q loose [] XP w s₀ mg mb s₁.heap→YP w s₁.heap →
     s₁.heap.get? fa=some o→o.data=.func (docDef d.name d.params d.body d.scope pm cd doc)→s₁.heap.CodeRec cd d.name→mg d.name=some (.ref fa) →
     s₁.heap.get? a=some { cls:=.type "list",data:=.seq vs.toArray }→IntsAre vs ns→ns.length≤n→s₁.gens=#[] →
     codeAny (model l.prog w) callerA (.call (.ref fa) ⟨[.ref a],[]⟩) (fun r s'=>r=.ok (.ret (.bool true))∧OldK s₁.heap s'.heap∧s'.os=s₁.os∧AllBare s'.gens) s₁) :
   WalkO q loose XP YP l.row.toRowW d [] (fun f vs=>PySem.call f vs):=by
 intro w s₀ s₁ mg mb G Y fa o pm cd doc dV kV ho hd hcd hD hmg hg args vals as hpre hlay hrd hwl hlo
 obtain rfl:dV=.none:=Dflts.none hD hdf
 obtain rfl:kV=.none:=Dflts.noKw hD
 obtain ⟨a,vs,ns,rfl,rfl,hobj,hints,hlen⟩:=BI hn hpre hwl
 refine enter_call (codeAny_mono (call w s₀ s₁ mg mb fa o pm cd doc a vs ns G Y ho (fd_plain hd) hcd hmg hobj hints hlen hg) fun r s' hq=>?_)
 obtain ⟨rfl,h2,h3,h4⟩:=hq
 exact ⟨.inl ⟨.bool true,.bool true,[],rfl,fun _=>rfl,.bool true,BO l _,fun _=>⟨List.Pairwise.nil,fun _ hm=>(nomatch hm)⟩⟩,h2,h3,h4⟩
section
variable {prog:Program} {w:World} {A:Around} {E:Value→Shared→Prop} {s:Shared} {K:Frag}
end
end Att
namespace L2
open PySem PySem.Spec PyProof.Rows
theorem uc:∀ {vs:List Value} {ns:List Int},IntsAre vs ns→Vals (ns.map V.int) vs
 | _,_,.nil=>.nil
 | _,_,.cons n t h=>.cons ⟨t,rfl⟩ (uc h)
noncomputable def GH (H:Hp):Prop:=∀ b,H b=none∨∃ o xs,H b=some (.frz o (.lst xs))
theorem FT {P:Program} {w:World} {K:PySem.W.Frag} {mg mb:Str→Option Value} {CX:CXT} {k:Nat} {fa a:Addr} {fd:FuncData} {x:Str} {sp:Sp} {s₁:Shared} {vs:List Value} {ns:List Int}
   (KX:K.In s₁.heap) (hns:s₁.heap.Ns mainGlobals mg) (hb:s₁.heap.Ns builtinsNs mb) (hbb:∀ x:Str,x ≠ "__name__" → mb x=bootBuiltins x) (hlim:s₁.heap.NoLimit) (hg:s₁.gens=#[])
   (ha:s₁.heap.get? a=some { cls:=.type "list",data:=.seq vs.toArray }) (hi:IntsAre vs ns) (hl:ns.length≤sizeLine) (hr:jY k callerA)
   (F:∀ base:Heap,K.In base→base.Ns mainGlobals mg→bK P w K mg base CX k fa fd [x] sp) (hbind:∀ (s:Shared) (u:Value),BindsTo s fd ⟨[u],[]⟩ [(x,u)])
   (hsp:∀ H:Hp,GH H→SqL K H a (ns.map V.int)→sp [.ref a] H (fun v _=>v=.bl true) fun _ _ _=>False)
   (hCX:∀ H e s',CX [] H s₁ (fun _ _ _=>False) e s'→False) :
   codeAny (model P w) callerA (.call (.ref fa) ⟨[.ref a],[]⟩) (fun r s'=>r=.ok (.ret (.bool true))∧OldK s₁.heap s'.heap∧s'.os=s₁.os∧AllBare s'.gens) s₁:=by
 have rv:=uc hi
 have lenV:=hi.length
 have core:∀ H:Hp,GH H→SqL K H a (ns.map V.int)→HOk P w H s₁.heap→(∀ b,H b ≠ none→b=a)→(H a ≠ none→K.lookup a=none) →
     codeAny (model P w) callerA (.call (.ref fa) ⟨[.ref a],[]⟩) (fun r s'=>r=.ok (.ret (.bool true))∧OldK s₁.heap s'.heap∧s'.os=s₁.os∧AllBare s'.gens) s₁:=by
   intro H hO hS hok hA hK
   have kK:∀ {b:Addr} {o:Obj},s₁.heap.get? b=some o→H b=none→(vo s₁.heap H).get? b=some o:=fun e n=>Gb e n
   have noA:∀ {b:Addr} {o:Obj} {es:Array DictEntry} {ep:Nat},s₁.heap.get? b=some o→o.data=.dict es ep→H b=none:=fun {b o es ep} e d=>by
     cases q:H b with
     | none=>rfl
     | some u=>
       have e':b=a:=hA b (by rw [q]; simp)
       subst e'
       rw [ha] at e; cases e
       have d':Data.seq vs.toArray _=Data.dict es ep:=d
       cases d'
   have nsK:∀ {b:Addr} {m:Str→Option Value},s₁.heap.Ns b m→(vo s₁.heap H).Ns b m:=fun {b m} ⟨o,es,ep,e,d,r⟩=>⟨o,es,ep,kK e (noA e d),d,r⟩
   have hKb:K.In (vo s₁.heap H):=fun b o e=>kK (KX b o e) (by
     cases q:H b with
     | none=>rfl
     | some u=>
       have e':b=a:=hA b (by rw [q]; simp)
       subst e'
       rw [hK (by rw [q]; simp)] at e; cases e)
   have hM:Mod K mg (vo s₁.heap H):=⟨hKb,nsK hns,⟨mb,nsK hb,hbb⟩,let ⟨mc,h1,h2⟩:=hlim; ⟨mc,nsK h1,h2⟩⟩
   have e0:Je P w K mg (vo s₁.heap H) callerA [] s₁ H:=⟨rfl,hM,fun b o e=>HK e,Nat.le_of_eq (B3 _ _),trivial,fun b hb=>absurd (show b ∈ ([]:List Addr) from hb) (by simp),hok,.of_eq hg⟩
   refine codeAny_mono ((F _ hKb (nsK hns)).run callerA [] s₁ H ⟨[.ref a],[]⟩ [.ref a] [.ref a] _ _ hr e0 (hbind s₁ (.ref a)) (.cons rfl .nil) (hsp H hO hS)) fun r s' h=>?_
   cases r with
   | error e=>exact (hCX H e s' h).elim
   | ok fl=>
     cases fl with
     | next=>exact False.elim h
     | brk=>exact False.elim h
     | cont=>exact False.elim h
     | ret u=>
       obtain ⟨v,H',os,bare,un,hok',r',q⟩:=h
       have q':v=.bl true:=q
       subst q'
       obtain rfl:u=Value.bool true:=r'
       refine ⟨rfl,OldK.of_keep fun b o e=>?_,os,bare⟩
       cases q:H b with
       | none=>exact un.keep b o e q (by intro z; exact absurd (show b ∈ ([]:List Addr) from z) (by simp)) (by simp)
       | some u=>
         rcases hO b with z | ⟨ob,xs,z⟩
         · rw [q] at z; cases z
         · have z2:=un.frzs b ob _ z
           obtain ⟨e1,_⟩:=hok b _ z
           obtain ⟨e2,_⟩:=hok' b _ z2
           rw [e] at e1; cases e1
           exact e2
 cases hk:K.lookup a with
 | some o=>
   have e:=KX a o hk
   rw [ha] at e
   cases e
   refine core (fun _=>none) (fun _=>.inl rfl) (.inr ⟨_,vs.toArray,_,hk,rfl,rfl,rfl,by rw [List.size_toArray,lenV]; exact hl,by simpa using rv⟩) (fun b u z=>by have z':(none:Option HO)=some u:=z; cases z') (fun b z=>absurd rfl z) fun z=>absurd rfl z
 | none=>
   refine core (fun b=>if b=a then some (.frz { cls:=.type "list",data:=.seq vs.toArray } (.lst (ns.map V.int))) else none) (fun b=>?_) (.inl (.inr ⟨{ cls:=.type "list",data:=.seq vs.toArray },if_pos rfl⟩)) (fun b u z=>?_) (fun b z=>?_) fun _=>hk
   · by_cases hb:b=a
     · exact .inr ⟨_,_,if_pos hb⟩
     · exact .inl (if_neg hb)
   · by_cases hb:b=a
     · have z':=(if_pos hb).symm.trans z
       cases z'
       subst hb
       exact ⟨ha,by rw [List.length_map]; exact hl,vs,_,rv,ha⟩
     · have z':=(if_neg hb).symm.trans z
       cases z'
   · by_cases hb:b=a
     · exact hb
     · exact absurd (if_neg hb) z
end L2
namespace L2
open PySem PySem.Spec PyProof.Rows
theorem Iq {l:PySem.W.OpenLaw} {n k:Nat} {q:Program} {loose:List Str} {XP:(Str→Option Value)→Heap→Prop} {YP:World→Heap→Prop} {d:DefRec} {K:Params→PySem.W.Frag} {CX:World→CXT} {sp:World→Sp} {x:Str}
   (hn:l.most=some n) (hn2:n≤sizeLine) (hdf:d.params.defaults=[]) (hr:jY k callerA)
   (hY:∀ (w:World) (h:Heap),YP w h→(K w.params).In h)
   (F:∀ (w:World) (mg:Str→Option Value) (fa:Addr) (h:Heap),(K w.params).In h→h.Ns mainGlobals mg→mg d.name=some (.ref fa) →
     ∃ fd:FuncData,(∀ (s:Shared) (u:Value),BindsTo s fd ⟨[u],[]⟩ [(x,u)]) ∧
       ∀ base:Heap,(K w.params).In base→base.Ns mainGlobals mg→bK l.prog w (K w.params) mg base (CX w) k fa fd [x] (sp w))
   (hsp:∀ (w:World) (H:Hp) (a:Addr) (ns:List Int),ns.length≤n→GH H→SqL (K w.params) H a (ns.map V.int)→sp w [.ref a] H (fun v _=>v=.bl true) fun _ _ _=>False)
   (hCX:∀ (w:World) (H:Hp) (s:Shared) (e:Value) (s':Shared),CX w [] H s (fun _ _ _=>False) e s'→False) :
   PySem.W.WalkO q loose XP YP l.row.toRowW d [] (fun f vs=>PySem.call f vs):=by
 refine Att.wU hn hdf fun w s₀ s₁ mg mb fa o pm cd doc a vs ns G Y ho hd hcd hmg hobj hints hlen hg=>?_
 have KX:=hY w _ Y
 obtain ⟨fd,hb,hF⟩:=F w mg fa _ KX G.T.g hmg
 exact FT KX G.T.g G.T.b G.T.builtins G.T.nolimit hg hobj hints (Nat.le_trans hlen hn2) hr hF hb (fun H hO hS=>hsp w H a ns hlen hO hS) fun H e s'=>hCX w H s₁ e s'
end L2
namespace L2
open PySem PySem.Spec PyProof.Rows
noncomputable def aA (s:Stmt):Arguments:=match s with
 | .FunctionDef _ a _ _ _ _ _ _ _ _=>a
 | _=>{ posonlyargs:=[],args:=[],vararg:=none,kwonlyargs:=[],kw_defaults:=[],kwarg:=none,defaults:=[] }
noncomputable def af (s:Stmt):List Stmt:=match s with
 | .FunctionDef _ _ b _ _ _ _ _ _ _=>b
 | _=>[]
noncomputable def ae (s:Stmt):Scope:=match s with
 | .FunctionDef _ _ _ _ _ _ sc _ _ _=>sc
 | _=>{ kind:=.function,names:=[],isGenerator:=false,isCoroutine:=false }
noncomputable abbrev CX0:CXT:=fun _ _ _ _ _ _=>False
structure Fun (K:PySem.W.Frag) (x qual:Str) (st:Stmt) (f:Addr) (fd:FuncData):Prop where
 ex:∃ (oc:Value) (od:Option Addr) (dV kV doc pm:Value) (an:Option Addr) (cdv ct:Value) (osl:Array (Option Value)),
   fd=PySem.W.fnOf x qual (aA st) (af st) (ae st) dV kV doc pm an cdv ct∧K.lookup f=some ⟨oc,od,.func fd,osl⟩∧PySem.W.codeIn K cdv qual=true
 kp:PySem.W.keepIn K (.ref f)=true
section
variable {P:Program} {w:World} {K:PySem.W.Frag} {mg:Str→Option Value} {base:Heap}
theorem Fun.ok {x qual:Str} {st:Stmt} {f:Addr} {fd:FuncData} {N ps:List Str} {k:Nat} {sp:Sp} (F:Fun K x qual st f fd) (S:aB N ps (ae st)) (len:∀ vs H Q E,sp vs H Q E→vs.length=ps.length)
   (hbody:∀ (cdv:Value) (A:Around) (outer:List Env) (s:Shared) (H:Hp) (vs:List V) (Q:VK) (E:XK),jY k (A.deeper (envOfC qual (ae st) s.heap.objs.size f cdv))→sp vs H Q E →
     ∃ t,PSs (Ad CX0 P w K mg base N qual (ae st) f cdv A outer s H E).nox (af st) t∧t { nx:=fun _ H'=>Q .non H',rt:=Q } (start N vs) H):bK P w K mg base CX0 (k + 1) f fd ps sp:=by
 obtain ⟨oc,od,dV,kV,doc,pm,an,cdv,ct,osl,rfl,lk,hcd⟩:=F.ex
 refine Oq lk hcd S len fun A outer s H vs Q E hr hsp=>?_
 obtain ⟨t,h,q⟩:=hbody cdv A outer s H vs Q E hr hsp
 exact ⟨t,h.nox,q⟩
theorem Fun.binds {x qual:Str} {st:Stmt} {f:Addr} {fd:FuncData} {ps:List Str} (_:Fun K x qual st f fd) (h:∀ us:List Value,us.length=ps.length→bindArgs fd ⟨us,[]⟩=pure (ps.zip us)):Binds K fd ps []:=.all h
theorem aQ {x qual:Str} {st:Stmt} {f:Addr} {oc:Value} {od an:Option Addr} {osl:Array (Option Value)} {dV kV doc pm cdv ct:Value} (l:K.lookup f=some ⟨oc,od,.func (PySem.W.fnOf x qual (aA st) (af st) (ae st) dV kV doc pm an cdv ct),osl⟩)
   (c:PySem.W.codeIn K cdv qual=true) (k:PySem.W.keepIn K (.ref f)=true):Fun K x qual st f (PySem.W.fnOf x qual (aA st) (af st) (ae st) dV kV doc pm an cdv ct):=⟨⟨oc,od,dV,kV,doc,pm,an,cdv,ct,osl,rfl,l,c⟩,k⟩
end
section
variable {X:Cx}
end
theorem tD {A B:Prop} (h:B):if false=true then A else B:=by
 rw [if_neg Bool.false_ne_true]
 exact h
theorem sC {A B:Prop} (h:A):if true=true then A else B:=by
 rw [if_pos rfl]
 exact h
noncomputable def oM (H H':Hp):Prop:=∀ b o,H b=some o→H' b=some o
theorem oM.refl (H:Hp):oM H H:=fun _ _ h=>h
theorem oM.seq {K:PySem.W.Frag} {H H':Hp} {a:Addr} {xs:List V} (e:oM H H') (h:SqL K H a xs):SqL K H' a xs:=by
 rcases h with (h | ⟨o,h⟩) | h
 · exact .inl (.inl (e _ _ h))
 · exact .inl (.inr ⟨o,e _ _ h⟩)
 · exact .inr h
end L2
set_option linter.all false
set_option maxRecDepth 100000
namespace Ev
open PySem PySem.Spec PyProof.Rows L2
inductive D where
 | non | bl (b:Bool) | int (i:Int) | str (x:Str) | tup (xs:List D) | lst (xs:List D)
 deriving Inhabited
mutual
inductive Den (K:PySem.W.Frag) (H:Hp):V→D→Prop where
 | non:Den K H .non .non
 | bl {b:Bool}:Den K H (.bl b) (.bl b)
 | int {i:Int}:Den K H (.int i) (.int i)
 | str {x:Str}:Den K H (.str x) (.str x)
 | tup {a:Addr} {vs:List V} {ds:List D} (h:SqT K H a vs) (r:yW K H vs ds):Den K H (.ref a) (.tup ds)
 | lst {a:Addr} {vs:List V} {ds:List D} (h:SqL K H a vs) (r:yW K H vs ds):Den K H (.ref a) (.lst ds)
inductive yW (K:PySem.W.Frag) (H:Hp):List V→List D→Prop where
 | nil:yW K H [] []
 | cons {v:V} {d:D} {vs:List V} {ds:List D} (h:Den K H v d) (r:yW K H vs ds):yW K H (v :: vs) (d :: ds)
end
section
variable {K:PySem.W.Frag} {H H':Hp}
theorem j7 (e:oM H H') {a:Addr} {xs:List V} (h:SqT K H a xs):SqT K H' a xs:=by
 rcases h with (h | ⟨o,h⟩) | h
 · exact .inl (.inl (e _ _ h))
 · exact .inl (.inr ⟨o,e _ _ h⟩)
 · exact .inr h
theorem kG (e:oM H H') {a:Addr} {xs:List V} (h:SqL K H a xs):SqL K H' a xs:=e.seq h
end
noncomputable def aL (i j:Int):Prop:=i.natAbs.log2 < 64∨j.natAbs.log2 < 64∨(i.natAbs.log2 < 1000000∧j.natAbs.log2 < 1000000)
noncomputable instance (i j:Int):Decidable (aL i j):=inferInstanceAs (Decidable (_∨_∨(_∧_)))
noncomputable def aT (j:Int):Prop:=j ≠ 0∧j.natAbs.log2 < 9000
noncomputable instance (j:Int):Decidable (aT j):=inferInstanceAs (Decidable (_∧_))
noncomputable def ag:Nat:=1000000
mutual
noncomputable def eqD:D→D→Bool
 | .non,.non=>true
 | .bl a,.bl b=>a == b
 | .bl a,.int j=>(if a then 1 else 0) == j
 | .int i,.bl b=>i == (if b then 1 else 0)
 | .int a,.int b=>a == b
 | .str a,.str b=>a == b
 | .tup xs,.tup ys=>ou xs ys
 | .lst xs,.lst ys=>ou xs ys
 | .non,.bl _ | .non,.int _ | .non,.str _ | .non,.tup _ | .non,.lst _=>false
 | .bl _,.non | .bl _,.str _ | .bl _,.tup _ | .bl _,.lst _=>false
 | .int _,.non | .int _,.str _ | .int _,.tup _ | .int _,.lst _=>false
 | .str _,.non | .str _,.bl _ | .str _,.int _ | .str _,.tup _ | .str _,.lst _=>false
 | .tup _,.non | .tup _,.bl _ | .tup _,.int _ | .tup _,.str _ | .tup _,.lst _=>false
 | .lst _,.non | .lst _,.bl _ | .lst _,.int _ | .lst _,.str _ | .lst _,.tup _=>false
noncomputable def ou:List D→List D→Bool
 | [],[]=>true
 | x :: xs,y :: ys=>eqD x y && ou xs ys
 | [],_ :: _=>false
 | _ :: _,[]=>false
end
mutual
noncomputable def toP:D→PyData
 | .non=>.none
 | .bl b=>.bool b
 | .int i=>.int i
 | .str x=>.str x
 | .tup xs=>.tuple (lA xs)
 | .lst xs=>.list (lA xs)
noncomputable def lA:List D→List PyData
 | []=>[]
 | x :: xs=>toP x :: lA xs
end
mutual
noncomputable def cln:D→Bool
 | .str x=>PyData.strOk x
 | .tup xs=>wW xs
 | .lst xs=>wW xs
 | .non | .bl _ | .int _=>true
noncomputable def wW:List D→Bool
 | []=>true
 | x :: xs=>cln x && wW xs
end
mutual
noncomputable def dep:D→Nat
 | .tup xs=>xK xs + 1
 | .lst xs=>xK xs + 1
 | .non | .bl _ | .int _ | .str _=>0
noncomputable def xK:List D→Nat
 | []=>0
 | x :: xs=>max (dep x) (xK xs)
end
noncomputable def zH (x:D):Prop:=cln x=true∧dep x≤64
noncomputable instance (x:D):Decidable (zH x):=inferInstanceAs (Decidable (_∧_))
end Ev
namespace Ev
open PySem PySem.Spec PyProof.Rows L2
mutual
theorem uA:∀ x y:D,PyData.eqv (toP x) (toP y)=eqD x y
 | .non,y=>by cases y <;> simp [toP,PyData.eqv,eqD]
 | .bl a,y=>by cases y <;> simp [toP,PyData.eqv,eqD]
 | .int a,y=>by cases y <;> simp [toP,PyData.eqv,eqD]
 | .str a,y=>by cases y <;> simp [toP,PyData.eqv,eqD]
 | .tup xs,.tup ys=>by simp only [toP,PyData.eqv,eqD]; exact qR xs ys
 | .lst xs,.lst ys=>by simp only [toP,PyData.eqv,eqD]; exact qR xs ys
 | .tup xs,.non=>by simp [toP,PyData.eqv,eqD]
 | .tup xs,.bl _=>by simp [toP,PyData.eqv,eqD]
 | .tup xs,.int _=>by simp [toP,PyData.eqv,eqD]
 | .tup xs,.str _=>by simp [toP,PyData.eqv,eqD]
 | .tup xs,.lst _=>by simp [toP,PyData.eqv,eqD]
 | .lst xs,.non=>by simp [toP,PyData.eqv,eqD]
 | .lst xs,.bl _=>by simp [toP,PyData.eqv,eqD]
 | .lst xs,.int _=>by simp [toP,PyData.eqv,eqD]
 | .lst xs,.str _=>by simp [toP,PyData.eqv,eqD]
 | .lst xs,.tup _=>by simp [toP,PyData.eqv,eqD]
theorem qR:∀ xs ys:List D,PyData.eqvAll (lA xs) (lA ys)=ou xs ys
 | [],[]=>by simp [lA,PyData.eqvAll,ou]
 | [],_ :: _=>by simp [lA,PyData.eqvAll,ou]
 | _ :: _,[]=>by simp [lA,PyData.eqvAll,ou]
 | x :: xs,y :: ys=>by simp only [lA,PyData.eqvAll,ou]; rw [uA x y,qR xs ys]
end
mutual
theorem Az:∀ x:D,(toP x).canLay0=cln x
 | .non=>by simp [toP,PyData.canLay0,cln]
 | .bl _=>by simp [toP,PyData.canLay0,cln]
 | .int _=>by simp [toP,PyData.canLay0,cln]
 | .str _=>by simp [toP,PyData.canLay0,cln]
 | .tup xs=>by simp only [toP,PyData.canLay0,cln]; exact qT xs
 | .lst xs=>by simp only [toP,PyData.canLay0,cln]; exact qT xs
theorem qT:∀ xs:List D,PyData.canLayAll0 (lA xs)=wW xs
 | []=>by simp [lA,PyData.canLayAll0,wW]
 | x :: xs=>by simp only [lA,PyData.canLayAll0,wW]; rw [Az x,qT xs]
end
mutual
theorem A4:∀ x:D,(toP x).depth=dep x
 | .non=>by simp [toP,PyData.depth,dep]
 | .bl _=>by simp [toP,PyData.depth,dep]
 | .int _=>by simp [toP,PyData.depth,dep]
 | .str _=>by simp [toP,PyData.depth,dep]
 | .tup xs=>by simp only [toP,PyData.depth,dep]; rw [rl xs]
 | .lst xs=>by simp only [toP,PyData.depth,dep]; rw [rl xs]
theorem rl:∀ xs:List D,PyData.depthAll (lA xs)=xK xs
 | []=>by simp [lA,PyData.depthAll,xK]
 | x :: xs=>by simp only [lA,PyData.depthAll,xK]; rw [A4 x,rl xs]
end
theorem jI {x:D} (h:zH x):SeqAt.shaped (toP x)=true:=by
 unfold SeqAt.shaped
 rw [Az,A4,h.1,Bool.true_and]
 exact decide_eq_true h.2
section
variable {X:Cx} {pins:List (Addr × Obj)} {σ:L2.St} {H G:Hp} {s:Shared}
mutual
theorem kj (I:Inv X pins σ H s) (e:oM G H):∀ {v:V} {d:D} {u:Value},Den X.K G v d→RelV v u→∃ as,Reads s.heap u (toP d) as
 | _,_,_,.non,r=>by cases r; exact ⟨_,.none⟩
 | _,_,_,.bl,r=>by cases r; exact ⟨_,.bool _⟩
 | _,_,_,.int,r=>by obtain ⟨t,rfl⟩:=r; exact ⟨_,.int _ _⟩
 | _,_,_,.str,r=>by obtain ⟨t,rfl⟩:=r; exact ⟨_,.str _ _⟩
 | _,_,_,.tup h q,r=>by
   cases r
   obtain ⟨its,rv,⟨o,h1,h2,n,h3⟩,_⟩:=I.tuple (j7 e h)
   obtain ⟨as,z⟩:=oQ I e q rv
   exact ⟨_,.tuple h1 h2 h3 (by simpa using z)⟩
 | _,_,_,.lst h q,r=>by
   cases r
   obtain ⟨its,rv,⟨o,n,h1,h2,_,h3⟩,_⟩:=I.list (kG e h)
   obtain ⟨as,z⟩:=oQ I e q rv
   exact ⟨_,.list h1 h2 h3 (by simpa using z)⟩
theorem oQ (I:Inv X pins σ H s) (e:oM G H):∀ {vs:List V} {ds:List D} {us:List Value},yW X.K G vs ds→Vals vs us→∃ as,ReadsAll s.heap us (lA ds) as
 | _,_,_,.nil,.nil=>⟨_,.nil⟩
 | _,_,_,.cons h q,.cons r rs=>by
   obtain ⟨as,z⟩:=kj I e h r
   obtain ⟨bs,z'⟩:=oQ I e q rs
   exact ⟨_,.cons z z'⟩
end
end
section
variable {K:PySem.W.Frag} {H₀ H H':Hp} {W:Hp→Hp} {acc:List Nat} {A:List (Option Addr)} {σ:L2.St} {ρ:Env}
theorem eH {H:Hp} {p:Addr} (h:H p=none) (o:HO):oM H (upd H p o):=fun b u q=>by rw [aF (aG q h)]; exact q
end
end Ev
namespace Ev
open PySem PySem.Spec PyProof.Rows L2
noncomputable def Ite (K:PySem.W.Frag) (a:Addr):L2.It:=
 ⟨fun i H=>∃ xs x,SqL K H a xs∧xs[i]?=some x,fun i H v H'=>∃ p x,H p=none∧v=.ref p∧H'=upd H p (.tup [.int (i:Nat),x])∧∀ xs,SqL K H a xs→xs[i]?=some x,fun i H=>∃ xs,SqL K H a xs∧xs.length≤i⟩
theorem CG {P:Program} {w:World} {K:PySem.W.Frag} {ts:List Expr} {q:Nat} {tp:Pos} (a e it:Addr) (hne:e ≠ it) :
   Turn P w K (.Tuple ts q tp) (Ite K a) [e,it] e (fun i h=>(∃ old,IsEnum h e it (i:Nat) old)∧h.IsListIter it a i) where
 mem:=by simp
 obj:=fun i h st b hb=>by
   obtain ⟨⟨old,h1⟩,o,h2,h3,h4⟩:=st
   rcases List.mem_cons.mp hb with rfl | hb
   · exact ⟨_,h1,fun v z=>nomatch z⟩
   · have z:b=it:=by simpa using hb
     subst z
     exact ⟨o,h2,fun v z=>by rw [h4] at z; cases z⟩
 keep:=fun i h h' st k=>by
   obtain ⟨⟨old,h1⟩,o,h2,h3,h4⟩:=st
   exact ⟨⟨old,k e (by simp) _ h1⟩,o,k it (by simp) o h2,h3,h4⟩
 item:=by
   intro X hP hw hK hc i pins s σ H E I hf st hg
   subst hP hw hK
   obtain ⟨xs,x,hq,hx⟩:=hg
   obtain ⟨its,rv,p,hz⟩:=I.list hq
   obtain ⟨u,hu,ru⟩:=rv.get hx
   obtain ⟨⟨old,h1⟩,h2⟩:=st
   have fe:=hf e (by simp)
   have fi:=hf it (by simp)
   refine wpAny_pyNext_enum_item h1 h2 p.isList (x:=u) (by simpa using hu) hne fun h' g1 g2 g3 g4 g5=>⟨_,rfl,?_⟩
   refine wpAny_letOwnedTupleGo_enum (s:={ s with heap:=h',toks:=s.toks + 1 }) g1 fun h2' k1 k2=>?_
   have hn:H s.heap.objs.size=none:=I.hok.fresh (Nat.le_refl _)
   have le1:e < s.heap.objs.size:=Heap.lt_size h1
   have le2:it < s.heap.objs.size:=by obtain ⟨o,z,_⟩:=h2; exact Heap.lt_size z
   have kp:∀ b o,b ≠ e→b ≠ it→s.heap.get? b=some o→h2'.get? b=some o:=fun b o b1 b2 z=>(k2.2 b b1).trans (g5 b o b1 b2 z)
   have nt:h2'.get? s.heap.objs.size=some { cls:=.type "tuple",data:=.seq #[.int (i:Nat) s.toks,u] }:=(k2.2 _ (Nat.ne_of_gt le1)).trans g3
   have ne1:∀ b v,H b=some v→b ≠ e:=fun b v z q=>by rw [q,fe.1] at z; cases z
   have ne2:∀ b v,H b=some v→b ≠ it:=fun b v z q=>by rw [q,fi.1] at z; cases z
   have hok0:HOk X.prog X.w H h2':=fun b v z=>(I.hok b v z).nH (fun c v' hc' q=>kp c v' (by
       rcases hc' with hc' | hc'
       · rw [hc']; exact ne1 b v z
       · exact ne1 c _ hc') (by
       rcases hc' with hc' | hc'
       · rw [hc']; exact ne2 b v z
       · exact ne2 c _ hc') q) (fun _ q=>q) fun _ _ q=>q
   have hok1:HOk X.prog X.w (upd H s.heap.objs.size (.tup [.int (i:Nat),x])) h2':=fun b v z=>by
     by_cases hb:b=s.heap.objs.size
     · subst hb
       rw [cV] at z; cases z
       exact ⟨(by show 2≤sizeLine; decide),[.int (i:Nat) s.toks,u],.cons ⟨_,rfl⟩ (.cons ru .nil),_,nt,rfl,_,rfl⟩
     · rw [aF hb] at z
       exact (hok0 b v z).nH (fun c v' _ q=>q) (fun c q=>by rw [aF (aG q hn)]; exact q) fun c ys q=>by rw [aF (aG q hn)]; exact q
   have I1:Inv X pins σ (upd H s.heap.objs.size (.tup [.int (i:Nat),x])) { s with heap:=h2',toks:=s.toks + 1 }:=by
     refine I.step (g':=s.gens) (d':=s.drawn) (ch:=[e,it]) (fun b hb=>?_) (fun b o _ _ hc' z _=>kp b o (fun q=>hc' (by simp [q])) (fun q=>hc' (by simp [q])) z)
       (fun b o _ _ hc' z _=>⟨o.slots,kp b o (fun q=>hc' (by simp [q])) (fun q=>hc' (by simp [q])) z⟩)
       (fun b o hc' z n=>by rw [aF (Nat.ne_of_lt (Heap.lt_size z))]; exact n) (fun b o hc' z=>⟨o,kp b o (fun q=>hc' (by simp [q])) (fun q=>hc' (by simp [q])) z⟩)
       (fun b ys z=>by rw [aF (aG z hn)]; exact z) (fun b o u z=>by rw [aF (aG z hn)]; exact z) (fun b ps z=>⟨#[],by rw [aF (aG z hn),z]; simp⟩) (fun m hm=>?_) hok1 I.bare
     · rcases List.mem_cons.mp hb with rfl | hb
       · exact ⟨fe.2.2.2.1,fe.2.1,fe.2.2.2.2.1,fe.2.2.2.2.2⟩
       · have z:b=it:=by simpa using hb
         subst z
         exact ⟨fi.2.2.2.1,fi.2.1,fi.2.2.2.2.1,fi.2.2.2.2.2⟩
     · obtain ⟨o,es,ep,ho,r⟩:=hm
       exact ⟨o,es,ep,kp _ o (Ne.symm fe.2.1) (Ne.symm fi.2.1) ho,r⟩
   refine ⟨.ref s.heap.objs.size,_,I1,rfl,⟨s.heap.objs.size,x,hn,rfl,rfl,fun ys hy=>by rw [I.mY hy hq]; exact hx⟩,⟨⟨_,k1⟩,?_⟩,fun b hb=>?_⟩
   · obtain ⟨o,z1,z2,z3⟩:=g2
     exact ⟨o,(k2.2 it (Ne.symm hne)).trans z1,z2,z3⟩
   · rcases List.mem_cons.mp hb with rfl | hb
     · rw [aF (Nat.ne_of_lt le1)]; exact fe.1
     · have z:b=it:=by simpa using hb
       subst z
       rw [aF (Nat.ne_of_lt le2)]; exact fi.1
 done:=by
   intro X hP hw hK hc i pins s σ H E I hf st hg
   subst hP hw hK
   obtain ⟨xs,hq,hx⟩:=hg
   obtain ⟨its,rv,p,hz⟩:=I.list hq
   obtain ⟨⟨old,h1⟩,h2⟩:=st
   obtain ⟨f0,f1,f2,f3,f4,f5⟩:=hf it (by simp)
   have hl:=rv.length
   exact wpAny_pyNext_enum_end (I.ok.hd hc) h1 h2 p.isList (by simp; omega) fun h' eb=>⟨rfl,I.turned (t':=s.toks) (fun b o hb z=>eb b o hb z) f0 f1 f3 f4 f5⟩
 self:=fun _ _ _ _ _ st h=>by
   obtain ⟨⟨old,h1⟩,_⟩:=st
   exact wpAny_pyIter_enum h1 h
section
variable {X:Cx}
noncomputable def De (K:PySem.W.Frag) (ta:TA):TI:=fun σ H R=>ta σ H fun vs H1=>∃ a,vs=[.ref a]∧(∃ xs,SqL K H1 a xs)∧R (Ite K a) H1
theorem Cv:bootBuiltins "enumerate" = some (.type "enumerate"):=by decide +kernel
theorem vC {ts:List Expr} {q:Nat} {tp:Pos} {a:Expr} {ta:TA} {p pos:Pos} (hg:Gl X "enumerate") (hm:X.mg "enumerate" = none) (ha:PA X [a] ta) (hs:starEach [a] X.env=[(false,eval a X.env)]) :
   PI X (.Tuple ts q tp) (.Call (.Name "enumerate" p) [a] [] pos) (De X.K ta):=by
 intro pins s σ H R I h
 refine Call_ (jC I hg hm Cv (PyProof.Rows.callWith_type1 (thn (ha pos pins s σ H _ I h) fun us s1 ⟨vs,H1,I1,r1,q1⟩=>?_) hs rfl))
 obtain ⟨l,e,⟨xs,hq⟩,q⟩:=q1
 subst e
 obtain ⟨u,rfl,ru⟩:=vals1 r1
 cases ru
 obtain ⟨its,rv,pl,hz⟩:=I1.list hq
 refine call_enumerate_list pl.isList fun h' g1 g2 g3 g4=>?_
 refine wpAny_pyIter_enum (s:={ s1 with heap:=h' }) g1 ?_
 have I2:Inv X pins σ H1 { s1 with heap:=h' }:=I1.kept (t':=s1.toks) g4
 have n1:H1 (s1.heap.objs.size + 1)=none:=I1.hok.fresh (by omega)
 have n2:H1 s1.heap.objs.size=none:=I1.hok.fresh (Nat.le_refl _)
 refine ⟨s1.heap.objs.size + 1,[s1.heap.objs.size + 1,s1.heap.objs.size],_,_,H1,rfl,I2,CG l (s1.heap.objs.size + 1) s1.heap.objs.size (Nat.succ_ne_self _),⟨⟨_,g1⟩,g2⟩,fun b hb=>?_,q⟩
 rcases List.mem_cons.mp hb with rfl | hb
 · exact I1.zO (by omega) n1
 · have z:b=s1.heap.objs.size:=by simpa using hb
   subst z
   exact I1.zO (Nat.le_refl _) n2
end
end Ev
namespace Ev
open PySem PySem.Spec PyProof.Rows L2
noncomputable def Itz (K:PySem.W.Frag) (a b:Addr):L2.It:=
 ⟨fun i H=>∃ xs ys x y,SqL K H a xs∧SqL K H b ys∧xs[i]?=some x∧ys[i]?=some y,
  fun i H v H'=>∃ p x y,H p=none∧v=.ref p∧H'=upd H p (.tup [x,y])∧(∀ xs,SqL K H a xs→xs[i]?=some x)∧∀ ys,SqL K H b ys→ys[i]?=some y,
  fun i H=>∃ xs ys,SqL K H a xs∧SqL K H b ys∧(xs.length≤i∨ys.length≤i)⟩
noncomputable def zSt (a b z TI TO i1 i2:Addr) (i:Nat) (h:Heap):Prop:=
 IsZip h z TI TO .none∧IsPair h TI (.ref i1) (.ref i2)∧(∃ u v,IsPair h TO u v)∧h.IsListIter i1 a i∧h.IsListIter i2 b i
theorem tW {h:Heap} {a b z TI TO i1 i2:Addr} {i:Nat} {xs ys:Array Value} (n:TI ≠ TO) (m:i1 ≠ i2) (s:zSt a b z TI TO i1 i2 i h) (l1:h.IsList a xs) (l2:h.IsList b ys):ZipApart z TI TO i1 i2 a b:=by
 obtain ⟨h1,h2,⟨u,v,h3⟩,⟨o4,h4,c4,d4⟩,⟨o5,h5,c5,d5⟩⟩:=s
 obtain ⟨o6,h6,c6,n6,d6⟩:=l1
 obtain ⟨o7,h7,c7,n7,d7⟩:=l2
 have kk:∀ {x y:Addr} {o p:Obj},h.get? x=some o→h.get? y=some p→o.cls ≠ p.cls→x ≠ y:=fun e1 e2 c q=>by subst q; rw [e1] at e2; cases e2; exact c rfl
 have cz:∀ {s t:String},s ≠ t→Value.type s ≠ Value.type t:=fun n q=>n (by cases q; rfl)
 refine ⟨kk h2 h1 (cz (by decide)),kk h3 h1 (cz (by decide)),kk h4 h1 ?_,kk h5 h1 ?_,n,kk h2 h4 ?_,kk h2 h5 ?_,kk h3 h4 ?_,kk h3 h5 ?_,m,kk h6 h1 ?_,kk h6 h3 ?_,kk h6 h4 ?_,kk h6 h5 ?_,kk h7 h1 ?_,kk h7 h3 ?_,kk h7 h4 ?_,kk h7 h5 ?_⟩
 all_goals first | (rw [c4]; exact cz (by decide)) | (rw [c5]; exact cz (by decide)) | (rw [c6]; exact cz (by decide)) | (rw [c7]; exact cz (by decide)) | (rw [c6,c4]; exact cz (by decide)) | (rw [c6,c5]; exact cz (by decide)) | (rw [c7,c4]; exact cz (by decide)) | (rw [c7,c5]; exact cz (by decide))
theorem Dl {P:Program} {w:World} {K:PySem.W.Frag} {ts:List Expr} {q:Nat} {tp:Pos} (a b z TI TO i1 i2:Addr) (nT:TI ≠ TO) (nI:i1 ≠ i2) :
   Turn P w K (.Tuple ts q tp) (Itz K a b) [z,TI,TO,i1,i2] z (zSt a b z TI TO i1 i2) where
 mem:=by simp
 obj:=fun i h st c hb=>by
   obtain ⟨h1,h2,⟨u,v,h3⟩,⟨o4,h4,c4,d4⟩,⟨o5,h5,c5,d5⟩⟩:=st
   simp only [List.mem_cons,List.not_mem_nil,or_false] at hb
   rcases hb with rfl | rfl | rfl | rfl | rfl
   · exact ⟨_,h1,fun v z=>nomatch z⟩
   · exact ⟨_,h2,fun v z=>nomatch z⟩
   · exact ⟨_,h3,fun v z=>nomatch z⟩
   · exact ⟨_,h4,fun v z=>by rw [d4] at z; cases z⟩
   · exact ⟨_,h5,fun v z=>by rw [d5] at z; cases z⟩
 keep:=fun i h h' st k=>by
   obtain ⟨h1,h2,⟨u,v,h3⟩,⟨o4,h4,c4,d4⟩,⟨o5,h5,c5,d5⟩⟩:=st
   exact ⟨k z (by simp) _ h1,k TI (by simp) _ h2,⟨u,v,k TO (by simp) _ h3⟩,⟨o4,k i1 (by simp) _ h4,c4,d4⟩,⟨o5,k i2 (by simp) _ h5,c5,d5⟩⟩
 item:=by
   intro X hP hw hK hc i pins s σ H E I hf st hg
   subst hP hw hK
   obtain ⟨xs,ys,x,y,hq1,hq2,hx,hy⟩:=hg
   obtain ⟨its1,rv1,p1,hz1⟩:=I.list hq1
   obtain ⟨its2,rv2,p2,hz2⟩:=I.list hq2
   obtain ⟨u1,hu1,ru1⟩:=rv1.get hx
   obtain ⟨u2,hu2,ru2⟩:=rv2.get hy
   have D:=tW nT nI st p1.isList p2.isList
   obtain ⟨h1,h2,⟨u,v,h3⟩,h4,h5⟩:=st
   refine wpAny_pyNext_zip_item D h1 h2 h3 h4 h5 p1.isList p2.isList (x:=u1) (y:=u2) (by simpa using hu1) (by simpa using hu2) fun h' g1 g2 g3 g4 g5 g6 g7=>⟨_,rfl,?_⟩
   refine wpAny_letOwnedTupleGo_zip (s:={ s with heap:=h' }) g1 fun h2' k1 k2=>?_
   have hn:H s.heap.objs.size=none:=I.hok.fresh (Nat.le_refl _)
   have le1:z < s.heap.objs.size:=Heap.lt_size h1
   have lt2:TI < s.heap.objs.size:=Heap.lt_size h2
   have lt3:TO < s.heap.objs.size:=Heap.lt_size h3
   have lt4:i1 < s.heap.objs.size:=by obtain ⟨o,z,_⟩:=h4; exact Heap.lt_size z
   have lt5:i2 < s.heap.objs.size:=by obtain ⟨o,z,_⟩:=h5; exact Heap.lt_size z
   have kp:∀ c o,c ≠ z→c ≠ TO→c ≠ i1→c ≠ i2→s.heap.get? c=some o→h2'.get? c=some o:=fun c o b1 b2 b3 b4 e=>(k2.2 c b1).trans (g7 c o b1 b2 b3 b4 e)
   have nt:IsPair h2' s.heap.objs.size u1 u2:=(k2.2 _ (Nat.ne_of_gt le1)).trans g5
   have ne:∀ c,c ∈ [z,TI,TO,i1,i2]→∀ d v,H d=some v→d ≠ c:=fun c hc d v e q=>by
     have:=(hf c hc).1
     rw [q,this] at e; cases e
   have hok0:HOk X.prog X.w H h2':=fun d v e=>(I.hok d v e).nH (fun c v' hc' q=>kp c v'
       (by rcases hc' with hc' | hc'
           · rw [hc']; exact ne z (by simp) d v e
           · exact ne z (by simp) c _ hc')
       (by rcases hc' with hc' | hc'
           · rw [hc']; exact ne TO (by simp) d v e
           · exact ne TO (by simp) c _ hc')
       (by rcases hc' with hc' | hc'
           · rw [hc']; exact ne i1 (by simp) d v e
           · exact ne i1 (by simp) c _ hc')
       (by rcases hc' with hc' | hc'
           · rw [hc']; exact ne i2 (by simp) d v e
           · exact ne i2 (by simp) c _ hc') q) (fun _ q=>q) fun _ _ q=>q
   have hok1:HOk X.prog X.w (upd H s.heap.objs.size (.tup [x,y])) h2':=fun d v e=>by
     by_cases hb:d=s.heap.objs.size
     · subst hb
       rw [cV] at e; cases e
       exact ⟨(by show 2≤sizeLine; decide),[u1,u2],.cons ru1 (.cons ru2 .nil),_,nt,rfl,_,rfl⟩
     · rw [aF hb] at e
       exact (hok0 d v e).nH (fun c v' _ q=>q) (fun c q=>by rw [aF (aG q hn)]; exact q) fun c ys q=>by rw [aF (aG q hn)]; exact q
   have I1:Inv X pins σ (upd H s.heap.objs.size (.tup [x,y])) { s with heap:=h2' }:=by
     refine I.step (t':=s.toks) (g':=s.gens) (d':=s.drawn) (ch:=[z,TO,i1,i2]) (fun c hb=>?_) (fun c o _ _ hc' e _=>kp c o (fun q=>hc' (by simp [q])) (fun q=>hc' (by simp [q])) (fun q=>hc' (by simp [q])) (fun q=>hc' (by simp [q])) e)
       (fun c o _ _ hc' e _=>⟨o.slots,kp c o (fun q=>hc' (by simp [q])) (fun q=>hc' (by simp [q])) (fun q=>hc' (by simp [q])) (fun q=>hc' (by simp [q])) e⟩)
       (fun c o hc' e n=>by rw [aF (Nat.ne_of_lt (Heap.lt_size e))]; exact n) (fun c o hc' e=>⟨o,kp c o (fun q=>hc' (by simp [q])) (fun q=>hc' (by simp [q])) (fun q=>hc' (by simp [q])) (fun q=>hc' (by simp [q])) e⟩)
       (fun c ys e=>by rw [aF (aG e hn)]; exact e) (fun c o u e=>by rw [aF (aG e hn)]; exact e) (fun c ps e=>⟨#[],by rw [aF (aG e hn),e]; simp⟩) (fun m hm=>?_) hok1 I.bare
     · have hb':c ∈ [z,TI,TO,i1,i2]:=by
         simp only [List.mem_cons,List.not_mem_nil,or_false] at hb ⊢
         rcases hb with h | h | h | h <;> simp [h]
       have fe:=hf c hb'
       exact ⟨fe.2.2.2.1,fe.2.1,fe.2.2.2.2.1,fe.2.2.2.2.2⟩
     · obtain ⟨o,es,ep,ho,r⟩:=hm
       exact ⟨o,es,ep,kp _ o (Ne.symm (hf z (by simp)).2.1) (Ne.symm (hf TO (by simp)).2.1) (Ne.symm (hf i1 (by simp)).2.1) (Ne.symm (hf i2 (by simp)).2.1) ho,r⟩
   refine ⟨.ref s.heap.objs.size,_,I1,rfl,⟨s.heap.objs.size,x,y,hn,rfl,rfl,fun zs hy'=>by rw [I.mY hy' hq1]; exact hx,fun zs hy'=>by rw [I.mY hy' hq2]; exact hy⟩,⟨k1,?_,⟨u1,u2,(k2.2 TO D.TOz).trans g2⟩,?_,?_⟩,fun c hb=>?_⟩
   · exact kp TI _ D.TIz D.TITO D.TIi1 D.TIi2 h2
   · obtain ⟨o,z1,z2,z3⟩:=g3
     exact ⟨o,(k2.2 i1 D.i1z).trans z1,z2,z3⟩
   · obtain ⟨o,z1,z2,z3⟩:=g4
     exact ⟨o,(k2.2 i2 D.i2z).trans z1,z2,z3⟩
   · have fc:=(hf c hb).1
     have lt:c < s.heap.objs.size:=by
       simp only [List.mem_cons,List.not_mem_nil,or_false] at hb
       rcases hb with rfl | rfl | rfl | rfl | rfl <;> assumption
     rw [aF (Nat.ne_of_lt lt)]
     exact fc
 done:=by
   intro X hP hw hK hc i pins s σ H E I hf st hg
   subst hP hw hK
   obtain ⟨xs,ys,hq1,hq2,hx⟩:=hg
   obtain ⟨its1,rv1,p1,hz1⟩:=I.list hq1
   obtain ⟨its2,rv2,p2,hz2⟩:=I.list hq2
   have D:=tW nT nI st p1.isList p2.isList
   obtain ⟨h1,h2,⟨u,v,h3⟩,h4,h5⟩:=st
   have hl1:=rv1.length
   have hl2:=rv2.length
   refine wpAny_pyNext_zip_end (I.ok.hd hc) D h1 h2 h3 h4 h5 p1.isList p2.isList (by
     rcases hx with hx | hx
     · left; simp; omega
     · right; simp; omega) fun h' eb=>⟨rfl,?_⟩
   have ne:∀ c,c ∈ [z,TI,TO,i1,i2]→∀ d v,H d=some v→d ≠ c:=fun c hc d v e q=>by
     have:=(hf c hc).1
     rw [q,this] at e; cases e
   have hok0:HOk X.prog X.w H h':=fun d v e=>(I.hok d v e).nH (fun c v' hc' q=>eb c v'
       (by rcases hc' with hc' | hc'
           · rw [hc']; exact ne z (by simp) d v e
           · exact ne z (by simp) c _ hc')
       (by rcases hc' with hc' | hc'
           · rw [hc']; exact ne TO (by simp) d v e
           · exact ne TO (by simp) c _ hc')
       (by rcases hc' with hc' | hc'
           · rw [hc']; exact ne i1 (by simp) d v e
           · exact ne i1 (by simp) c _ hc')
       (by rcases hc' with hc' | hc'
           · rw [hc']; exact ne i2 (by simp) d v e
           · exact ne i2 (by simp) c _ hc') q) (fun _ q=>q) fun _ _ q=>q
   refine I.step (t':=s.toks) (g':=s.gens) (d':=s.drawn) (ch:=[z,TO,i1,i2]) (fun c hb=>?_) (fun c o _ _ hc' e _=>eb c o (fun q=>hc' (by simp [q])) (fun q=>hc' (by simp [q])) (fun q=>hc' (by simp [q])) (fun q=>hc' (by simp [q])) e)
       (fun c o _ _ hc' e _=>⟨o.slots,eb c o (fun q=>hc' (by simp [q])) (fun q=>hc' (by simp [q])) (fun q=>hc' (by simp [q])) (fun q=>hc' (by simp [q])) e⟩)
       (fun c o hc' e n=>n) (fun c o hc' e=>⟨o,eb c o (fun q=>hc' (by simp [q])) (fun q=>hc' (by simp [q])) (fun q=>hc' (by simp [q])) (fun q=>hc' (by simp [q])) e⟩)
       (fun c ys e=>e) (fun c o u e=>e) (fun c ps e=>⟨#[],by rw [e]; simp⟩) (fun m hm=>?_) hok0 I.bare
   · have hb':c ∈ [z,TI,TO,i1,i2]:=by
       simp only [List.mem_cons,List.not_mem_nil,or_false] at hb ⊢
       rcases hb with h | h | h | h <;> simp [h]
     have fe:=hf c hb'
     exact ⟨fe.2.2.2.1,fe.2.1,fe.2.2.2.2.1,fe.2.2.2.2.2⟩
   · obtain ⟨o,es,ep,ho,r⟩:=hm
     exact ⟨o,es,ep,eb _ o (Ne.symm (hf z (by simp)).2.1) (Ne.symm (hf TO (by simp)).2.1) (Ne.symm (hf i1 (by simp)).2.1) (Ne.symm (hf i2 (by simp)).2.1) ho,r⟩
 self:=fun _ _ _ _ _ st h=>wpAny_pyIter_zip st.1 h
section
variable {X:Cx}
noncomputable def O8 (K:PySem.W.Frag) (ta:TA):TI:=fun σ H R=>ta σ H fun vs H1=>∃ a b,vs=[.ref a,.ref b]∧(∃ xs,SqL K H1 a xs)∧(∃ ys,SqL K H1 b ys)∧R (Itz K a b) H1
theorem MG {ts:List Expr} {q:Nat} {tp:Pos} {a b:Expr} {ta:TA} {p pos:Pos} (hg:Gl X "zip") (hm:X.mg "zip" = none) (ha:PA X [a,b] ta) (hs:starEach [a,b] X.env=(false,eval a X.env) :: starEach [b] X.env) (hs2:starEach [b] X.env=[(false,eval b X.env)]) :
   PI X (.Tuple ts q tp) (.Call (.Name "zip" p) [a,b] [] pos) (O8 X.K ta):=by
 intro pins s σ H R I h
 refine Call_ (jC I hg hm boot_zip (PyProof.Rows.callWith_type1 (thn (ha pos pins s σ H _ I h) fun us s1 ⟨vs,H1,I1,r1,q1⟩=>?_) hs (by rw [hs2]; rfl)))
 obtain ⟨l,l',e,⟨xs,hq1⟩,⟨ys,hq2⟩,q⟩:=q1
 subst e
 obtain ⟨u,u',rfl,ru,ru'⟩:=vals2 r1
 cases ru
 cases ru'
 obtain ⟨its1,rv1,pl1,hz1⟩:=I1.list hq1
 obtain ⟨its2,rv2,pl2,hz2⟩:=I1.list hq2
 refine call_zip_2 pl1.isList pl2.isList fun h' g1 g2 g3 g4 g5 g6 g7=>?_
 refine wpAny_pyIter_zip (s:={ s1 with heap:=h' }) g1 ?_
 have I2:Inv X pins σ H1 { s1 with heap:=h' }:=I1.kept (t':=s1.toks) g7
 have nn:∀ j,H1 (s1.heap.objs.size + j)=none:=fun j=>I1.hok.fresh (by omega)
 refine ⟨s1.heap.objs.size + 4,[s1.heap.objs.size + 4,s1.heap.objs.size + 2,s1.heap.objs.size + 3,s1.heap.objs.size,s1.heap.objs.size + 1],_,_,H1,rfl,I2,Dl l l' (s1.heap.objs.size + 4) (s1.heap.objs.size + 2) (s1.heap.objs.size + 3) s1.heap.objs.size (s1.heap.objs.size + 1) (by simp) (Ne.symm (Nat.succ_ne_self _)),⟨g1,g2,⟨_,_,g3⟩,g4,g5⟩,fun c hb=>?_,q⟩
 have hb':∃ j,c=s1.heap.objs.size + j:=by
   simp only [List.mem_cons,List.not_mem_nil,or_false] at hb
   rcases hb with h | h | h | h | h
   · exact ⟨_,h⟩
   · exact ⟨_,h⟩
   · exact ⟨_,h⟩
   · exact ⟨0,h⟩
   · exact ⟨_,h⟩
 obtain ⟨j,rfl⟩:=hb'
 exact I1.zO (Nat.le_add_right _ _) (nn j)
end
end Ev
namespace Ev
open PySem PySem.Spec PyProof.Rows L2
section
variable {X:Cx} {tg:Expr}
end
end Ev
namespace Ev
open PySem PySem.Spec PyProof.Rows L2
theorem DK:∀ (names:List (Str × NameKind)) (n:Nat) (acc:List (Str × Addr)) (x:Str) (c:Addr),(cellsFrom n names acc).lookup x=some c→n≤c∨acc.lookup x=some c
 | [],_,_,_,_,h=>.inr h
 | (y,k) :: r,n,acc,x,c,h=>by
   unfold cellsFrom at h
   split at h
   · rcases DK r (n + 1) _ x c h with q | q
     · exact .inl (by omega)
     · rw [List.lookup_cons] at q
       split at q
       · cases q; exact .inl (Nat.le_refl _)
       · exact .inr q
   · exact DK r n acc x c h
theorem qD:∀ (names:List (Str × NameKind)) (n:Nat) (acc:List (Str × Addr)) (x:Str),(x,NameKind.cell) ∉ names→(cellsFrom n names acc).lookup x=acc.lookup x
 | [],_,_,_,_=>rfl
 | (y,k) :: r,n,acc,x,h=>by
   have h1:(x,NameKind.cell) ∉ r:=fun z=>h (List.mem_cons_of_mem _ z)
   unfold cellsFrom
   split
   · rename_i hk
     rw [qD r _ _ x h1,List.lookup_cons]
     have:(x == y)=false:=by
       rw [beq_eq_false_iff_ne]
       rintro rfl
       exact h (by rw [eq_of_beq hk]; exact List.mem_cons_self)
     rw [this]
   · exact qD r n acc x h1
theorem uS:∀ (names:List (Str × NameKind)) (n:Nat) (acc:List (Str × Addr)) (x:Str),(x,NameKind.cell) ∈ names→∃ c,(cellsFrom n names acc).lookup x=some c∧n≤c
 | (y,k) :: r,n,acc,x,h=>by
   unfold cellsFrom
   by_cases hr:(x,NameKind.cell) ∈ r
   · split
     · obtain ⟨c,e,l⟩:=uS r (n + 1) ((y,n) :: acc) x hr
       exact ⟨c,e,by omega⟩
     · exact uS r n acc x hr
   · rcases List.mem_cons.mp h with q | q
     · cases q
       rw [if_pos (by rfl),qD r _ _ _ hr]
       exact ⟨n,by simp [List.lookup_cons],Nat.le_refl _⟩
     · exact absurd q hr
theorem zp:∀ (names:List (Str × NameKind)) (n:Nat) (acc:List (Str × Addr)),(∀ x c,acc.lookup x=some c→c < n)→(∀ x y c,acc.lookup x=some c→acc.lookup y=some c→x=y) →
   ∀ x y c,(cellsFrom n names acc).lookup x=some c→(cellsFrom n names acc).lookup y=some c→x=y
 | [],_,_,_,h=>h
 | (z,k) :: r,n,acc,hl,h=>by
   unfold cellsFrom
   split
   · refine zp r (n + 1) _ (fun x c e=>?_) (fun x y c e1 e2=>?_)
     · rw [List.lookup_cons] at e
       split at e
       · cases e; exact Nat.lt_succ_self _
       · exact Nat.lt_succ_of_lt (hl x c e)
     · rw [List.lookup_cons] at e1 e2
       split at e1
       · rename_i q1
         cases e1
         split at e2
         · rename_i q2
           exact (eq_of_beq q1).trans (eq_of_beq q2).symm
         · exact absurd (hl y _ e2) (Nat.lt_irrefl _)
       · split at e2
         · cases e2
           exact absurd (hl x _ e1) (Nat.lt_irrefl _)
         · exact h x y c e1 e2
   · exact zp r n acc hl h
theorem uH:∀ (names:List (Str × NameKind)) (h:Heap) (acc:List (Str × Addr)),(∀ x c,acc.lookup x=some c→∃ v,h.IsCell c v)→∀ x c,(cellsFrom h.objs.size names acc).lookup x=some c→∃ v,(pushCells h names).IsCell c v
 | [],_,_,ha,x,c,e=>ha x c e
 | (z,k) :: r,h,acc,ha,x,c,e=>by
   unfold cellsFrom at e
   unfold pushCells
   split at e
   · rename_i hk
     rw [if_pos hk]
     refine uH r _ ((z,h.objs.size) :: acc) (fun y d q=>?_) x c (by rw [Heap.size_push]; exact e)
     rw [List.lookup_cons] at q
     split at q
     · cases q
       exact ⟨none,_,Heap.get?_push_size _ rfl,rfl⟩
     · obtain ⟨v,o,ho,hd⟩:=ha y d q
       exact ⟨v,o,Heap.get?_push_of_some _ ho,hd⟩
   · rename_i hk
     rw [if_neg hk]
     exact uH r h acc ha x c e
noncomputable def gy (env:PySem.Env):List (Str × NameKind)→List (Str × Addr)→List (Str × Addr)
 | [],acc=>acc
 | (n,k) :: r,acc=>if k == .free then (match env.cells.lookup n with | some c=>gy env r ((n,c) :: acc) | none=>gy env r acc) else gy env r acc
theorem qK (env:PySem.Env):∀ (names:List (Str × NameKind)) (acc:List (Str × Addr)),(∀ x ∈ names,x.2=.free→∃ c,env.cells.lookup x.1=some c) →
   (forIn (m:=Sem) names acc fun x cs=>do
     let (name,kind):=x
     if kind == .free then do
       let c ← cellOf env name
       pure (ForInStep.yield ((name,c) :: cs))
     else pure (ForInStep.yield cs))=pure (gy env names acc)
 | [],acc,_=>rfl
 | (n,k) :: r,acc,h=>by
   rw [List.forIn_cons]
   unfold gy
   by_cases hk:(k == .free)=true
   · obtain ⟨c,hc⟩:=h (n,k) List.mem_cons_self (eq_of_beq hk)
     simp only [hk,if_true,cellOf,hc,pure_bind]
     exact qK env r _ fun x hx=>h x (List.mem_cons_of_mem _ hx)
   · simp only [hk,Bool.false_eq_true,if_false,pure_bind]
     exact qK env r _ fun x hx=>h x (List.mem_cons_of_mem _ hx)
theorem AG {env:PySem.Env} {scope:Scope} (h:∀ x ∈ scope.names,x.2=.free→∃ c,env.cells.lookup x.1=some c):closureFor scope env=pure (gy env scope.names []):=by
 unfold closureFor
 have:=qK env scope.names [] h
 simp only [bind_pure]
 exact this
theorem jr (env:PySem.Env):∀ (names:List (Str × NameKind)) (acc:List (Str × Addr)) (x:Str) (c:Addr),(∀ y d,acc.lookup y=some d→env.cells.lookup y=some d)→(gy env names acc).lookup x=some c→env.cells.lookup x=some c
 | [],_,x,c,ha,h=>ha x c h
 | (n,k) :: r,acc,x,c,ha,h=>by
   unfold gy at h
   split at h
   · split at h
     · rename_i c' hc
       refine jr env r _ x c (fun y d q=>?_) h
       rw [List.lookup_cons] at q
       split at q
       · rename_i qq
         cases q
         rw [eq_of_beq qq]; exact hc
       · exact ha y d q
     · exact jr env r acc x c ha h
   · exact jr env r acc x c ha h
theorem iz (env:PySem.Env):∀ (names:List (Str × NameKind)) (acc:List (Str × Addr)) (x:Str) (c:Addr),(∀ y d,acc.lookup y=some d→env.cells.lookup y=some d)→env.cells.lookup x=some c→((x,NameKind.free) ∈ names∨acc.lookup x=some c)→(gy env names acc).lookup x=some c
 | [],_,x,c,_,_,h=>h.elim (fun z=>absurd z (by simp)) id
 | (n,k) :: r,acc,x,c,ha,hc,h=>by
   unfold gy
   split
   · split
     · rename_i c' hc'
       refine iz env r _ x c (fun y d q=>?_) hc ?_
       · rw [List.lookup_cons] at q
         split at q
         · rename_i qq
           cases q
           rw [eq_of_beq qq]; exact hc'
         · exact ha y d q
       · by_cases q:x=n
         · subst q
           rw [hc] at hc'; cases hc'
           exact .inr (by simp [List.lookup_cons])
         · rcases h with h | h
           · rcases List.mem_cons.mp h with z | z
             · cases z; exact absurd rfl q
             · exact .inl z
           · refine .inr ?_
             rw [List.lookup_cons,beq_eq_false_iff_ne.mpr q]
             exact h
     · rename_i hc'
       refine iz env r acc x c ha hc ?_
       rcases h with h | h
       · rcases List.mem_cons.mp h with z | z
         · cases z; rw [hc] at hc'; cases hc'
         · exact .inl z
       · exact .inr h
   · rename_i hk
     refine iz env r acc x c ha hc ?_
     rcases h with h | h
     · rcases List.mem_cons.mp h with z | z
       · cases z; exact absurd rfl hk
       · exact .inl z
     · exact .inr h
theorem tO {M:Model} {A:Around} {E:Value→Shared→Prop} {s:Shared} {scope:Scope} {cl:List (Str × Addr)} {env:PySem.Env} {Q:PySem.Env→Shared→Prop}
   (h:Q (newEnv scope s.heap.objs.size env.globals (cellsFrom (s.heap.objs.size + 1) scope.names cl) env.qual none .none (some env) builtinsNs) { s with heap:=pushCells (s.heap.push { cls:=.type "dict",data:=.dict #[] }) scope.names }) :
   wpAny M A (newFunctionEnv scope env.globals cl [] env.qual none .none (some env)) Q E s:=by
 simp only [newFunctionEnv,Option.isSome_some,if_true]
 refine wpAny_bind (wpAny_alloc ?_)
 refine wpAny_bind (wpAny_layCells _ (fun name kind cells=>by cases hkc:kind == NameKind.cell <;> simp [hkc]) _ _ _ _ ?_)
 rw [show ({ s with heap:=s.heap.push { cls:=.type "dict",data:=.dict #[] } }:Shared).heap.objs.size=s.heap.objs.size + 1 from Heap.size_push ..]
 exact wpAny_bind (wpAny_pure (wpAny_pure h))
end Ev
namespace Ev
open PySem PySem.Spec PyProof.Rows L2
noncomputable def aS (X:Cx) (s:Shared) (H:Hp) (scope:Scope) (N:List Str) (fp:List Addr):Cx:=
 { prog:=X.prog,w:=X.w,K:=X.K,mg:=X.mg,base:=X.base,A:=X.A,N:=N,s₀:=s,H₀:=H
   env:=compEnvC scope (cellsFrom (s.heap.objs.size + 1 + 1) scope.names (gy X.env scope.names [])) (s.heap.objs.size + 1) X.env
   outer:=X.stack,stack:=X.stack,ex:=fp,fn:=fun x=>decide ((x,NameKind.cell) ∈ scope.names),calm:=X.calm,pn:=[],xe:=fun _ _=>False }
noncomputable def oS (σ:L2.St) (caps:List (Option Nat)):L2.St:=caps.map fun o=>o.bind fun i=>(σ[i]?).join
structure ny (X:Cx) (scope:Scope) (N:List Str) (caps:List (Option Nat)):Prop where
 kind:scope.kind=.function
 loc:∀ x ∈ scope.names,x.2=.local→scope.names.lookup x.1=some .local
 fre:∀ x ∈ scope.names,x.2=.free→X.env.kindOf x.1=some .cell
 one:∀ x,(x,NameKind.free) ∈ scope.names→(x,NameKind.cell) ∉ scope.names
 noboth:∀ x,(x,NameKind.free) ∈ scope.names→(x,NameKind.local) ∉ scope.names
 len:N.length=caps.length + 1
 cap:∀ (j i:Nat),caps[j]?=some (some i)→∃ x,N[j]?=some x∧X.N[i]?=some x∧(x,NameKind.free) ∈ scope.names
 acc:∃ z,N[caps.length]?=some z∧¬ Vis (relabel scope X.env) z
section
variable {X:Cx} {pins:List (Addr × Obj)} {σ:L2.St} {H:Hp} {s:Shared} {scope:Scope} {N:List Str} {caps:List (Option Nat)} {fp:List Addr}
theorem de {env:PySem.Env} {x:Str} {names:List (Str × NameKind)} (h:∀ y,(y,NameKind.free) ∈ names→env.kindOf y=some .cell) (hk:env.scope.kind=.function) {k:NameKind}
   (e:(names.map fun (n,k)=>if (k == NameKind.free && env.scope.kind == .function && env.kindOf n == some .cell) then (n,NameKind.cell) else (n,k)).lookup x=some k) :
   (x,k) ∈ names∨((x,NameKind.free) ∈ names∧k=.cell):=by
 induction names with
 | nil=>cases e
 | cons p r ih=>
   obtain ⟨n,q⟩:=p
   rw [List.map_cons] at e
   have hr:∀ y,(y,NameKind.free) ∈ r→env.kindOf y=some .cell:=fun y hy=>h y (List.mem_cons_of_mem _ hy)
   have sub:((x,k) ∈ r∨((x,NameKind.free) ∈ r∧k=.cell))→(x,k) ∈ (n,q) :: r∨((x,NameKind.free) ∈ (n,q) :: r∧k=.cell):=fun z=>
     z.elim (fun y=>.inl (List.mem_cons_of_mem _ y)) fun y=>.inr ⟨List.mem_cons_of_mem _ y.1,y.2⟩
   dsimp only at e
   split at e
   · rename_i c
     rw [List.lookup_cons] at e
     split at e
     · rename_i qq
       cases e
       rw [Bool.and_eq_true,Bool.and_eq_true] at c
       rw [eq_of_beq qq,eq_of_beq c.1.1]
       exact .inr ⟨List.mem_cons_self,rfl⟩
     · exact sub (ih hr e)
   · rename_i c
     rw [List.lookup_cons] at e
     split at e
     · rename_i qq
       cases e
       rw [eq_of_beq qq]
       exact .inl List.mem_cons_self
     · exact sub (ih hr e)
theorem mj (I:Inv X pins σ H s) (c:ny X scope N caps):∀ x ∈ scope.names,x.2=.free→∃ d,X.env.cells.lookup x.1=some d:=fun x hx hf=>I.ok.has x.1 (.inl (c.fre x hx hf))
theorem x6 (I:Inv X pins σ H s) (hf:∀ b ∈ fp,sT X pins H b) (ho:∀ b ∈ fp,∃ o,s.heap.get? b=some o) (c:ny X scope N caps) :
   Inv (aS X s H scope N fp) [] (oS σ caps++[some (.ref s.heap.objs.size)]) (upd H s.heap.objs.size (.lst []))
     { s with heap:=pushCells ((s.heap.push { cls:=.type "list",data:=.seq ([]:List Value).toArray }).push { cls:=.type "dict",data:=.dict #[] }) scope.names }:=by
 have hcl:∀ x d,(gy X.env scope.names []).lookup x=some d→X.env.cells.lookup x=some d:=fun x d=>jr X.env scope.names [] x d (fun y d z=>by simp at z)
 have kp:∀ b o,s.heap.get? b=some o→(pushCells ((s.heap.push { cls:=.type "list",data:=.seq ([]:List Value).toArray }).push { cls:=.type "dict",data:=.dict #[] }) scope.names).get? b=some o:=fun b o e=>
   pushCells_keeps _ _ b o (Heap.get?_push_of_some _ (Heap.get?_push_of_some _ e))
 have sz2:((s.heap.push { cls:=.type "list",data:=.seq ([]:List Value).toArray }).push { cls:=.type "dict",data:=.dict #[] }).objs.size=s.heap.objs.size + 1 + 1:=by rw [Heap.size_push,Heap.size_push]
 have oldc:∀ x d,X.env.cells.lookup x=some d→d < s.heap.objs.size:=fun x d e=>by
   obtain ⟨v,o,q,_⟩:=I.cell x d e
   exact Heap.lt_size q
 have cel:∀ x d,(aS X s H scope N fp).env.cells.lookup x=some d→s.heap.objs.size + 1 + 1≤d∨X.env.cells.lookup x=some d:=fun x d e=>by
   rcases DK _ _ _ x d e with q | q
   · exact .inl q
   · exact .inr (hcl x d q)
 have ok:(aS X s H scope N fp).Ok:=by
   refine ⟨I.ok.mod,c.kind,I.ok.glob,I.ok.blt,Nat.le_succ _,?_,?_,?_,I.ok.hd,I.ok.frames,.inl rfl,?_,I.bs,Nat.le_trans I.ok.bsz I.sz,?_,?_,I.stack,I.AH⟩
   · exact zp _ _ _ (fun x d e=>Nat.lt_of_lt_of_le (oldc x d (hcl x d e)) (by omega)) fun x y d e1 e2=>I.ok.inj x y d (hcl x d e1) (hcl y d e2)
   · intro x hx
     have hfk:∀ y,(y,NameKind.free) ∈ scope.names→X.env.kindOf y=some .cell:=fun y hy=>c.fre _ hy rfl
     have fre:(x,NameKind.free) ∈ scope.names→∃ d,(aS X s H scope N fp).env.cells.lookup x=some d:=fun hm=>by
       obtain ⟨d,hd⟩:=mj I c _ hm rfl
       exact ⟨d,by
         show (cellsFrom _ scope.names _).lookup x=_
         rw [qD _ _ _ x (c.one x hm)]
         exact iz X.env scope.names [] x d (fun y e z=>by simp at z) hd (.inl hm)⟩
     have own:(x,NameKind.cell) ∈ scope.names→∃ d,(aS X s H scope N fp).env.cells.lookup x=some d:=fun hm=>by
       obtain ⟨d,e,_⟩:=uS scope.names (s.heap.objs.size + 1 + 1) (gy X.env scope.names []) x hm
       exact ⟨d,e⟩
     rcases hx with hx | hx
     · rcases de hfk I.ok.kind (show (scope.names.map _).lookup x=some .cell from hx) with q | q
       · exact own q
       · exact fre q.1
     · rcases de hfk I.ok.kind (show (scope.names.map _).lookup x=some .free from hx) with q | q
       · exact fre q
       · exact fre q.1
   · intro x d hfn e
     have hm:(x,NameKind.cell) ∈ scope.names:=of_decide_eq_true hfn
     obtain ⟨d',e',l⟩:=uS scope.names (s.heap.objs.size + 1 + 1) (gy X.env scope.names []) x hm
     have e2:(cellsFrom (s.heap.objs.size + 1 + 1) scope.names (gy X.env scope.names [])).lookup x=some d:=e
     rw [e'] at e2; cases e2
     exact Nat.le_trans (Nat.le_trans (Nat.le_succ _) (Nat.le_succ _)) l
   · intro b hb
     obtain ⟨o,q⟩:=ho b hb
     have bl:=Heap.lt_size q
     refine ⟨fun z=>?_,fun x d e z=>?_⟩
     · have z':b=s.heap.objs.size + 1:=z
       rw [z'] at bl
       exact absurd bl (Nat.not_lt.mpr (Nat.le_succ _))
     · subst z
       rcases cel x d e with q | q
       · exact absurd (Nat.lt_of_lt_of_le bl (Nat.le_trans (Nat.le_trans (Nat.le_succ _) (Nat.le_succ _)) q)) (Nat.lt_irrefl _)
       · exact (hf d hb).2.2.2.2.1 x d q rfl
   · intro b o e hb
     rcases (hf b hb).2.2.2.1 with q | q
     · exact I.ok.noex b o e q
     · have:=Nat.lt_of_lt_of_le (Heap.lt_size e) I.ok.bsz
       exact absurd (Nat.lt_of_lt_of_le this q) (Nat.lt_irrefl _)
   · intro b hb hm
     rcases List.mem_cons.mp (I.y7 b hm) with q | q
     · exact (hf b hb).2.1 q
     · exact (hf b hb).2.2.1 q
 have hD:(pushCells ((s.heap.push { cls:=.type "list",data:=.seq ([]:List Value).toArray }).push { cls:=.type "dict",data:=.dict #[] }) scope.names).get? s.heap.objs.size=some { cls:=.type "list",data:=.seq ([]:List Value).toArray }:=
   pushCells_keeps _ _ _ _ (Heap.get?_push_of_some _ (Heap.get?_push_size _ rfl))
 have fr:∀ a,s.heap.objs.size≤a→a ≠ s.heap.objs.size→(upd H s.heap.objs.size (.lst [])) a=none:=fun a h1 h2=>by rw [aF h2]; exact I.hok.fresh h1
 refine ⟨ok,rfl,I.bare,Un.laid kp (Nat.le_refl _) (I.hok.fresh (Nat.le_refl _)),⟨fun _=>none,?_,fun i x v e1 e2 e3=>?_⟩,fun x d e=>?_,?_,fun x d e=>?_,fun p hp=>absurd (show p ∈ ([]:List (Addr × Obj)) from hp) (by simp),?_,?_⟩
 · have:=Heap.Ns.new (s.heap.push { cls:=.type "list",data:=.seq ([]:List Value).toArray }) (.type "dict")
   rw [Heap.size_push] at this
   exact this.keeps (pushCells_keeps _ _)
 · by_cases hi:i < caps.length
   · rw [List.getElem?_append_left (by unfold oS; rw [List.length_map]; exact hi)] at e2
     unfold oS at e2
     rw [List.getElem?_map] at e2
     cases hc:caps[i]? with
     | none=>rw [hc] at e2; cases e2
     | some o=>
       rw [hc] at e2
       cases o with
       | none=>cases e2
       | some j=>
         have e2':(σ[j]?).join=some v:=Option.some.inj e2
         have e4:σ[j]?=some (some v):=by
           cases q:σ[j]? with
           | none=>rw [q] at e2'; cases e2'
           | some y=>rw [q] at e2'; exact congrArg some e2'
         obtain ⟨x',g1,g2,g3⟩:=c.cap i j hc
         rw [show (aS X s H scope N fp).N=N from rfl,g1] at e1
         cases e1
         have hkc:=c.fre _ g3 rfl
         obtain ⟨m,_,hl⟩:=I.loc
         obtain ⟨u,ru,look⟩:=hl j x v g2 e4 (.inr (.inl hkc))
         refine ⟨u,ru,?_⟩
         rcases look with ⟨k,_⟩ | ⟨k,d,hd,hcell⟩
         · rw [hkc] at k; cases k
         · have e5:(aS X s H scope N fp).env.cells.lookup x=some d:=by
             show (cellsFrom _ scope.names _).lookup x=_
             rw [qD _ _ _ x (c.one x g3)]
             exact iz X.env scope.names [] x d (fun y e z=>by simp at z) hd (.inl g3)
           have hcell':Heap.IsCell (pushCells ((s.heap.push { cls:=.type "list",data:=.seq ([]:List Value).toArray }).push { cls:=.type "dict",data:=.dict #[] }) scope.names) d (some u):=by
             obtain ⟨o,q1,q2⟩:=hcell
             exact ⟨o,kp _ _ q1,q2⟩
           refine .inr ⟨?_,d,e5,hcell'⟩
           rcases e3 with e3 | e3 | e3
           · exfalso
             rcases de (fun y hy=>c.fre _ hy rfl) I.ok.kind (show (scope.names.map _).lookup x=some .local from e3) with q | q
             · have q1:=c.loc _ q rfl
               exact c.noboth x g3 q
             · cases q.2
           · exact .inl e3
           · exact .inr e3
   · exfalso
     obtain ⟨z,z1,z2⟩:=c.acc
     have hl:i < N.length:=(List.getElem?_eq_some_iff.mp e1).1
     have:i=caps.length:=by have:=c.len; omega
     subst this
     rw [show (aS X s H scope N fp).N=N from rfl,z1] at e1
     cases e1
     exact z2 e3
 · rw [show (aS X s H scope N fp).env.cells=cellsFrom (s.heap.objs.size + 1 + 1) scope.names (gy X.env scope.names []) from rfl,← sz2] at e
   refine uH scope.names _ _ (fun y d' q=>?_) x d e
   obtain ⟨v,o,q1,q2⟩:=I.cell y d' (hcl y d' q)
   exact ⟨v,o,Heap.get?_push_of_some _ (Heap.get?_push_of_some _ q1),q2⟩
 · exact fr _ (Nat.le_succ _) (Nat.succ_ne_self _)
 · rcases cel x d e with q | q
   · exact fr d (by omega) (by intro z; omega)
   · rw [aF (Nat.ne_of_lt (oldc x d q))]; exact I.freeC x d q
 · exact I.hok.laid kp (Nat.le_refl _) ⟨Nat.zero_le _,[],0,.nil,hD⟩
 · rw [List.length_append]
   unfold oS
   rw [List.length_map,show (aS X s H scope N fp).N=N from rfl,c.len]
   rfl
end
end Ev
namespace Ev
open PySem PySem.Spec PyProof.Rows L2
noncomputable def PTs (X:Cx) (ifs:List Expr) (t:TT):Prop:=
 ∀ (pins:List (Addr × Obj)) (s:Shared) (σ:L2.St) (H:Hp) (Q:Bool→Hp→Prop),Inv X pins σ H s→t σ H Q →
   wpAny (model X.prog X.w) X.A (forIn ifs true fun c r=>if r=true then do let ok ← isTrue c X.env (eval c X.env); pure (ForInStep.yield ok) else pure (ForInStep.yield r)) (TP X pins σ Q) X.xe s
section
variable {prog:Program} {w:World} {A:Around} {R:Result→Shared→Prop} {s:Shared}
theorem qP {elt target iter:Expr} {ifs:List Expr} {scope:Scope} {pos:Pos} {it acc:Value} {env:PySem.Env} (Iv:Nat→Shared→Prop)
   (step:∀ n s,Iv n s→wpAny (model prog w) A (pyNext it) (fun r s₁=>match r with
     | none=>R (.ok .next) s₁
     | some v=>wpAny (model prog w) A (letOwnedTupleGo target it v) (fun _ s₀=>wpAny (model prog w) A (assign target env v) (fun _ s₂=>
         wpAny (model prog w) A (forIn ifs true fun c r=>if r=true then do let ok ← isTrue c env (eval c env); pure (ForInStep.yield ok) else pure (ForInStep.yield r)) (fun ok s₃=>
           if ok=true then wpAny (model prog w) A (eval elt env) (fun x s₄=>
             wpAny (model prog w) A (call (.builtin "list.append") [acc,x]) (fun _ s₅=>∃ m,m < n∧Iv m s₅) (fun _ _=>False) s₄) (fun _ _=>False) s₃
           else ∃ m,m < n∧Iv m s₃) (fun _ _=>False) s₂) (fun _ _=>False) s₀) (fun _ _=>False) s₁) (fun _ _=>False) s)
   (n:Nat) (h:Iv n s):codeAny (model prog w) A (.compLoop (.ListComp elt [⟨target,iter,ifs,0⟩] scope pos) 0 it acc env) R s:=by
 have no:∀ {α:Type} {t:Sem α} {Q:α→Shared→Prop} {s:Shared} {E:Value→Shared→Prop},wpAny (model prog w) A t Q (fun _ _=>False) s→wpAny (model prog w) A t Q E s:=fun h=>wpAny_mono h (fun _ _ q=>q) fun _ _ q=>q.elim
 refine codeAny_loop rfl Iv (fun n s hI=>?_) n h
 show wpAny _ A (Sem.onRaise (compTurn (.ListComp elt [⟨target,iter,ifs,0⟩] scope pos) 0 it acc env) (fun x=>do noteFrame x env; theTreesLotGoes x)) _ _ s
 refine wpAny_noted ?_
 rw [compTurn_list]
 refine wpAny_bind (wpAny_standAt (wpAny_bind (thn (no (step n s hI)) fun r s₁ h₁=>?_)))
 cases r with
 | none=>exact wpAny_pure h₁
 | some v=>
   refine wpAny_bind (thn (no h₁) fun _ s₀ h₀=>wpAny_bind (thn (no h₀) fun _ s₂ h₂=>wpAny_bind (thn (no h₂) fun ok s₃ h₃=>?_)))
   cases ok with
   | false=>exact wpAny_pure ⟨rfl,h₃⟩
   | true=>exact wpAny_bind (wpAny_bind (thn (no h₃) fun x s₄ h₄=>wpAny_bind (thn (no h₄) fun _ s₅ h₅=>wpAny_pure (wpAny_pure ⟨rfl,h₅⟩))))
end
noncomputable def oZ (In:TG→TT→TE→Prop) (caps:List (Option Nat)) (wi:TI):TE:=fun σ H Q=>wi σ H fun J H1=>∃ g tt te,In g tt te∧∀ D,H1 D=none →
 ∃ Z:Nat→Nat→L2.St→Hp→Prop,(∃ m,Z 0 m (oS σ caps++[some (.ref D)]) (upd H1 D (.lst [])))∧∀ i m σ' H',Z i m σ' H' →
   (J.stop i H'∧Q (.ref D) H')∨(J.go i H'∧∀ x H2,J.yld i H' x H2→g x σ' H2 fun σ2 H3=>tt σ2 H3 fun b H4=>
     if b=true then te σ2 H4 fun v H5=>∃ vs m',H5 D=some (.lst vs)∧vs.length < sizeLine∧m' < m∧Z (i + 1) m' σ2 (upd H5 D (.lst (vs++[v]))) else ∃ m',m' < m∧Z (i + 1) m' σ2 H4)
theorem nQ {X:Cx} {elt tg iter:Expr} {ifs:List Expr} {scope:Scope} {N:List Str} {caps:List (Option Nat)} {pos:Pos} {wi:TI} {In:TG→TT→TE→Prop} (hc:X.calm=true) (c:ny X scope N caps) (hi:PI X tg iter wi)
   (hs:∀ x,foldedSetIterable iter X.env x=pure x)
   (hin:∀ g tt te,In g tt te→∀ s H fp,PG (aS X s H scope N fp) tg g∧PTs (aS X s H scope N fp) ifs tt∧PE (aS X s H scope N fp) elt te) :
   PE X (.ListComp elt [⟨tg,iter,ifs,0⟩] scope pos) (oZ In caps wi):=by
 intro pins s σ H Q I h
 rw [eval_ListComp]
 have hcl:=AG (mj I c)
 refine wpAny_comprehension_free (use:=none) (g:=⟨tg,iter,ifs,0⟩) (gs:=[]) rfl hs hcl c.kind c.loc ?_
 show wpAny _ _ (eval iter X.env) _ _ s
 refine thn (hi pins s σ H _ I h) fun v s1 h1=>thn h1 fun itv s2 h2=>?_
 obtain ⟨it,fp,tn,J,H2,e,I2,T,st2,f2,g,tt,te,hI,q⟩:=h2
 subst e
 obtain ⟨Z,⟨m0,z0⟩,turn⟩:=q s2.heap.objs.size (I2.hok.fresh (Nat.le_refl _))
 have ho:∀ b ∈ fp,∃ o,s2.heap.get? b=some o:=fun b hb=>let ⟨o,e,_⟩:=T.obj _ _ st2 b hb; ⟨o,e⟩
 have I4:=x6 (scope:=scope) (N:=N) (caps:=caps) I2 f2 ho c
 obtain ⟨hg,ht,he⟩:=hin g tt te hI s2 H2 fp
 refine wpAny_newObj_type (tO ?_) (by show 0≤sizeLine; decide)
 have hC:(s2.heap.push { cls:=.type "list",dict:=none,data:=.seq ([]:List Value).toArray }).objs.size=s2.heap.objs.size + 1:=Heap.size_push ..
 dsimp only
 rw [hC]
 have kp:∀ b o,s2.heap.get? b=some o→(pushCells ((s2.heap.push { cls:=.type "list",data:=.seq ([]:List Value).toArray }).push { cls:=.type "dict",data:=.dict #[] }) scope.names).get? b=some o:=fun b o e=>
   pushCells_keeps _ _ b o (Heap.get?_push_of_some _ (Heap.get?_push_of_some _ e))
 have st4:tn 0 (pushCells ((s2.heap.push { cls:=.type "list",data:=.seq ([]:List Value).toArray }).push { cls:=.type "dict",data:=.dict #[] }) scope.names):=T.keep _ _ _ st2 fun b _ o e=>kp b o e
 have stat:∀ {H':Hp},(∀ b ∈ fp,H' b=none)→∀ b ∈ fp,sT (aS X s2 H2 scope N fp) [] H' b:=fun hn b hb=>
   ⟨hn b hb,(I4.ok.exf b hb).1,I4.ok.exfs b hb,.inl hb,(I4.ok.exf b hb).2,fun p hp=>absurd (show p ∈ ([]:List (Addr × Obj)) from hp) (by simp)⟩
 have fr4:∀ b ∈ fp,(upd H2 s2.heap.objs.size (.lst [])) b=none:=fun b hb=>by
   obtain ⟨o,e⟩:=ho b hb
   rw [aF (Nat.ne_of_lt (Heap.lt_size e))]; exact (f2 b hb).1
 have loop:codeAny (model X.prog X.w) X.A (.compLoop (.ListComp elt [⟨tg,iter,ifs,0⟩] scope pos) 0 (.ref it) (.ref s2.heap.objs.size) (aS X s2 H2 scope N fp).env)
     (compPost (model X.prog X.w) X.A X.xe none (EP X pins σ Q) (.ref s2.heap.objs.size) (s2.heap.objs.size + 1))
     { s2 with heap:=pushCells ((s2.heap.push { cls:=.type "list",data:=.seq ([]:List Value).toArray }).push { cls:=.type "dict",data:=.dict #[] }) scope.names }:=by
   refine qP (fun n s'=>∃ i σ' H',Inv (aS X s2 H2 scope N fp) [] σ' H' s'∧tn i s'.heap∧(∀ b ∈ fp,H' b=none)∧Z i n σ' H') ?_ m0 ⟨0,_,_,I4,st4,fr4,z0⟩
   rintro n s3 ⟨i,σ3,H3,I3,st3,fr3,w3⟩
   rcases turn i n σ3 H3 w3 with ⟨stop,qn⟩ | ⟨go,step⟩
   · refine thn (T.done (aS X s2 H2 scope N fp) rfl rfl rfl hc i [] s3 σ3 H3 _ I3 (stat fr3) st3 stop) fun r s5 ⟨hr,I5⟩=>?_
     subst hr
     obtain ⟨m,hn,_⟩:=id I5.loc
     refine ⟨m,hn,fun h' sb=>⟨.ref s2.heap.objs.size,H3,?_,rfl,qn⟩⟩
     have lt:∀ b o,s2.heap.get? b=some o→b ≠ s2.heap.objs.size + 1:=fun b o e=>Nat.ne_of_lt (Nat.lt_succ_of_lt (Heap.lt_size e))
     have u:=I5.base
     have u':Un (frs X.stack) fp H2 H3 s2.heap h':=⟨fun b o e n1 n2 n3=>(sb.2 b (lt b o e)).trans (u.keep b o e n1 n2 n3),fun b o e n1 n2 n3=>let ⟨sl,z⟩:=u.slot b o e n1 n2 n3; ⟨sl,(sb.2 b (lt b o e)).trans z⟩,
       u.free,fun b o e n1=>let ⟨o',z⟩:=u.there b o e n1; ⟨o',(sb.2 b (lt b o e)).trans z⟩,u.tups,u.frzs,u.tbls⟩
     have fC:H3 (s2.heap.objs.size + 1)=none:=I5.free
     refine I2.JA (s':={ s5 with heap:=h' }) I5.os u' (fun b o e=>(I5.hok b o e).nH (fun d v hd z=>(sb.2 d ?_).trans z) (fun _ z=>z) fun _ _ z=>z) I5.bare fun b hb=>⟨(f2 b hb).2.2.2.1,(f2 b hb).2.1,(f2 b hb).2.2.2.2.1,(f2 b hb).2.2.2.2.2⟩
     rcases hd with hd | hd
     · rw [hd]; exact aG e fC
     · exact aG hd fC
   · refine thn (T.item (aS X s2 H2 scope N fp) rfl rfl rfl hc i [] s3 σ3 H3 _ I3 (stat fr3) st3 go) fun r s4 ⟨u,hr,h4⟩=>?_
     subst hr
     refine thn h4 fun _ s5 ⟨x,H5,I5,r5,y5,st5,fr5⟩=>?_
     have I5':=I5.pinned (stat fr5) (T.obj _ _ st5)
     refine thn (hg _ s5 σ3 H5 x u _ I5' r5 (step x H5 y5)) fun _ s6 ⟨σ6,H6,I6,q6⟩=>?_
     have again:∀ {s7:Shared} {σ7:L2.St} {H7:Hp} {m':Nat},Inv (aS X s2 H2 scope N fp) ([]++my fp s5.heap) σ7 H7 s7→m' < n→Z (i + 1) m' σ7 H7 →
         ∃ m,m < n∧∃ i σ' H',Inv (aS X s2 H2 scope N fp) [] σ' H' s7∧tn i s7.heap∧(∀ b ∈ fp,H' b=none)∧Z i m σ' H':=fun {s7 σ7 H7 m'} I7 hm z7=>by
       refine ⟨m',hm,i + 1,σ7,H7,I7.ja,T.keep _ _ _ st5 fun b hb o e=>(I7.pin (b,o) (List.mem_append_right _ (List.mem_append_right _ (eV hb e)))).1,fun b hb=>?_,z7⟩
       obtain ⟨o,e,d⟩:=T.obj _ _ st5 b hb
       exact (I7.pin (b,o) (List.mem_append_right _ (List.mem_append_right _ (eV hb e)))).2.1
     refine thn (ht _ s6 σ6 H6 _ I6 q6) fun ok s7 ⟨H7,I7,q7⟩=>?_
     cases ok with
     | false=>
       rw [if_neg (by decide)] at q7
       obtain ⟨m',hm,z7⟩:=q7
       exact again I7 hm z7
     | true=>
       rw [if_pos rfl] at q7
       refine thn (he _ s7 σ6 H7 _ I7 q7) fun v' s8 ⟨v,H8,I8,r8,vs,m',q8,l8,hm,z8⟩=>?_
       refine thn (oH (X:=aS X s2 H2 scope N fp) _ s8 σ6 H8 (.ref s2.heap.objs.size) [v] (.ref s2.heap.objs.size) [v'] (fun _ H9=>H9=upd H8 s2.heap.objs.size (.lst (vs++[v]))) I8 rfl (.cons r8 .nil) ⟨_,vs,v,rfl,rfl,q8,l8,rfl⟩) fun _ s9 ⟨_,H9,I9,_,e9⟩=>?_
       subst e9
       exact again I9 hm z8
 exact codeAny_compStart_list loop (T.self _ 0 _ _ _ st4 loop)
end Ev
namespace Ev
open PySem PySem.Spec PyProof.Rows L2
noncomputable def slot:List Str→Str→Option Nat
 | [],_=>none
 | y :: r,x=>if y=x then some 0 else (slot r x).map (· + 1)
theorem slot_get:∀ {N:List Str} {x:Str} {i:Nat},slot N x=some i→N[i]?=some x
 | [],_,_,h=>by cases h
 | y :: r,x,i,h=>by
   unfold slot at h
   split at h
   · rename_i e; cases h; rw [e]; rfl
   · cases q:slot r x with
     | none=>rw [q] at h; cases h
     | some j=>
       rw [q] at h; cases h
       show (y :: r)[j + 1]?=some x
       rw [List.getElem?_cons_succ]; exact slot_get q
noncomputable def je (sc:Scope) (x:Str):Bool:=match sc.names.lookup x with
 | some .local=>true
 | some .cell=>true
 | _=>false
noncomputable def jX (sc:Scope) (x:Str):Bool:=match sc.names.lookup x with
 | some .globalImplicit=>true
 | _=>false
theorem kH {sc:Scope} {x:Str} (h:je sc x=true):sc.names.lookup x=some .local∨sc.names.lookup x=some .cell:=by
 unfold je at h
 split at h
 · exact .inl (by assumption)
 · exact .inr (by assumption)
 · cases h
theorem nh {sc:Scope} {x:Str} (h:jX sc x=true):sc.names.lookup x=some .globalImplicit:=by
 unfold jX at h
 split at h
 · assumption
 · cases h
noncomputable def jq (scope sc:Scope):Scope:={ scope with names:=scope.names.map fun (n,k)=>if (k == .free && sc.kind == .function && sc.names.lookup n == some .cell) then (n,.cell) else (n,k) }
theorem fy {scope sc:Scope} {env:PySem.Env} (h:env.scope=sc):relabel scope env=jq scope sc:=by
 subst h; rfl
noncomputable def kb (scope:Scope):List Str:=(scope.names.filter fun p=>(p.2 == .local || p.2 == .cell || p.2 == .free) && p.1 != (".0" : Str)).map (·.1)
section
variable {X:Cx} {k:Nat} {H₀:Hp}
theorem oE {sc:Scope} {x:Str} (h:sc.names.lookup x=some .local∨sc.names.lookup x=some .cell):Vis sc x:=h.elim .inl fun z=>.inr (.inl z)
theorem aL.ok {i j:Int} (h:aL i j):IntMulOk i j:=by
 have b:∀ {k:Int} {n:Nat},k.natAbs.log2 < n→Builtin.Int.intBits k≤n:=fun {k n} q=>by
   unfold Builtin.Int.intBits
   split
   · exact Nat.zero_le _
   · exact q
 rcases h with h | h | ⟨h1,h2⟩
 · exact .of_left (b h)
 · exact .of_right (b h)
 · exact .of_bits (Nat.le_trans (b h1) (by decide)) (Nat.le_trans (b h2) (by decide))
theorem Fm:OpR X (binaryOp .FloorDiv) (rI (fun _ j=>aT j) fun i j=>.int (i.fdiv j)):=opI fun _ _ _ _ _ _ _ hc q=>floordiv_int hc.1 q (.inl (PyProof.noPylong_of_log2 hc.2))
theorem Hi:OpR X (binaryOp .Mult) (rI aL fun i j=>.int (i * j)):=opI fun _ _ _ _ _ _ _ hc q=>mul_int q hc.ok
theorem Jo:OpR X (binaryOp .Add) (rI (fun _ _=>True) fun i j=>.int (i + j)):=opI fun _ _ _ _ _ _ _ _ q=>add_int q
theorem IE:OpR X (binaryOp .Sub) (rI (fun _ _=>True) fun i j=>.int (i - j)):=opI fun _ _ _ _ _ _ _ _ q=>sub_int q
theorem p9:OpR X (binaryOp .Add) (fun x y H Q=>∃ l b xs zs,x=.ref l∧y=.ref b∧SqL X.K H l xs∧SqL X.K H b zs∧xs.length + zs.length≤sizeLine∧∀ p,H p=none→Q (.ref p) (upd H p (.lst (xs++zs)))):=by
 intro pins s σ H x y v u Q I rx ry h
 obtain ⟨l,b,xs,zs,rfl,rfl,hH,hB,hz,q⟩:=h
 cases rx
 cases ry
 obtain ⟨its,r,pl,_⟩:=I.list hH
 obtain ⟨its2,r2,pl2,_⟩:=I.list hB
 have hl:=r.length
 have hl2:=r2.length
 obtain ⟨⟨cls,dd,data,sl⟩,ho,hc,n,hd⟩:=pl.isList
 obtain ⟨⟨cls2,dd2,data2,sl2⟩,ho2,hc2,n2,hd2⟩:=pl2.isList
 simp only at hc hd hc2 hd2
 subst hc hd hc2 hd2
 have e:its.toArray++its2.toArray=(its++its2).toArray:=by simp
 refine concat_meets ⟨_,ho,rfl⟩ ⟨_,ho2,rfl⟩ noFill_list_add seq_list_add PySem.F.slot_list_add PySem.F.entry_list_add (PySem.F.args_list_add_2 _ _) (list_addW l b its.toArray its2.toArray n n2 dd dd2 sl sl2 (by rw [List.size_toArray,List.size_toArray]; omega)) ⟨ho,ho2,?_⟩
 rw [e]
 exact ⟨.ref _,_,I.Py (t':=s.toks) (r.append r2) (by rw [List.length_append]; omega),rfl,q _ I.fresh⟩
theorem dB:ag < sizeLine:=by decide
end
end Ev
namespace Ev
open PySem PySem.Spec PyProof.Rows L2
section
variable {X:Cx} {k:Nat} {H₀:Hp}
end
end Ev
namespace Ev
open PySem PySem.Spec PyProof.Rows L2
section
variable {X:Cx} {k:Nat} {H₀:Hp}
end
end Ev
namespace Sv
open PySem PySem.Spec PyProof.Rows L2
open Ev (D aL aT ag)
inductive U where
 | non | bl (b:Bool) | int (i:Int) | str (x:Str) | tup (xs:List U) | loc (l:Nat) | exo (c:Nat) | kl (xs:List U)
 deriving Inhabited
noncomputable abbrev Sto:=List (Bool × List U)
noncomputable abbrev Env:=List (Option U)
inductive Rs (α:Type) where
 | ok (a:α) (st:Sto) | exc (c:Nat) (st:Sto) | bad
noncomputable def Rs.bind {α β:Type}:Rs α→(α→Sto→Rs β)→Rs β
 | .ok a st,f=>f a st
 | .exc c st,_=>.exc c st
 | .bad,_=>.bad
noncomputable def Rs.noX {α:Type}:Rs α→Rs α
 | .exc _ _=>.bad
 | x=>x
theorem Rs.aa {α β:Type} (a:α) (st:Sto) (f:α→Sto→Rs β):(Rs.ok a st).bind f=f a st:=rfl
theorem bM {α:Type} {x:α} {p:Prop} (h:(none:Option α)=some x):p:=by cases h
noncomputable def vN {α β:Type} (f:α→Option β):List α→Option (List β)
 | []=>some []
 | x :: xs=>(f x).bind fun y=>(vN f xs).map (y :: ·)
noncomputable def rsv (st:Sto):Nat→U→Option D
 | _,.non=>some .non
 | _,.bl b=>some (.bl b)
 | _,.int i=>some (.int i)
 | _,.str x=>some (.str x)
 | n + 1,.tup xs=>(vN (rsv st n) xs).map .tup
 | n + 1,.kl xs=>(vN (rsv st n) xs).map .lst
 | n + 1,.loc l=>match st[l]? with | some (_,xs)=>(vN (rsv st n) xs).map .lst | none=>none
 | _,_=>none
inductive Op2 where
 | add | sub | mul | fdiv | mod | pow
inductive Cm where
 | eq | ne | lt | le | gt | ge | nin
inductive Ty where
 | int | bool | tuple | list | str
inductive Bi where
 | len | abs | max | min | list | all | lrg
inductive Tg where
 | nm (i:Nat) | tp (is:List Nat)
mutual
inductive E where
 | var (i:Nat)
 | cN | cB (b:Bool) | cI (i:Int) | cS (x:Str)
 | op (o:Op2) (a b:E)
 | neg (a:E) | not (a:E)
 | cmp (o:Cm) (a b:E)
 | chain (o o':Cm) (a b c:E)
 | and (a b:E) | or (a b:E)
 | ite (c a b:E)
 | tup (es:List E) | lst (es:List E)
 | ix (a i:E)
 | sl (a lo hi:E)
 | call (f:Nat) (es:List E)
 | bi (b:Bi) (es:List E)
 | isi (a:E) (t:Ty)
 | isB (neg:Bool) (a:E) (b:Bool)
 | isN (neg:Bool) (a:E)
 | comp (caps:List (Option Nat)) (t:Tg) (it:It) (ifs:List E) (elt:E)
inductive It where
 | seq (e:E) | rng (e:E) | rng2 (a b:E) | enu (e:E) | zip (a b:E)
end
instance:Inhabited E:=⟨.cN⟩
noncomputable def new (st:Sto) (xs:List U):Rs U:=.ok (.loc st.length) (st++[(false,xs)])
noncomputable def pT (st:Sto):U→Option (List U)
 | .loc l=>(st[l]?).map (·.2)
 | .kl xs=>some xs
 | _=>none
noncomputable def seq? (st:Sto):U→Option (List U)
 | .loc l=>(st[l]?).map (·.2)
 | .kl xs=>some xs
 | .tup xs=>some xs
 | _=>none
noncomputable def ev2:Op2→U→U→Sto→Rs U
 | .add,.int i,.int j,st=>.ok (.int (i + j)) st
 | .add,.loc a,.loc b,st=>match st[a]?,st[b]? with
   | some (_,xs),some (_,ys)=>if xs.length + ys.length < ag then new st (xs++ys) else .bad
   | _,_=>.bad
 | .add,.kl xs,.loc b,st=>match st[b]? with
   | some (_,ys)=>if xs.length + ys.length < ag then new st (xs++ys) else .bad
   | _=>.bad
 | .add,.loc a,.kl ys,st=>match st[a]? with
   | some (_,xs)=>if xs.length + ys.length < ag then new st (xs++ys) else .bad
   | _=>.bad
 | .add,.kl xs,.kl ys,st=>if xs.length + ys.length < ag then new st (xs++ys) else .bad
 | .sub,.int i,.int j,st=>.ok (.int (i - j)) st
 | .mul,.int i,.int j,st=>if aL i j then .ok (.int (i * j)) st else .bad
 | .fdiv,.int i,.int j,st=>if aT j then .ok (.int (i.fdiv j)) st else .bad
 | .mod,.int i,.int j,st=>if j ≠ 0 then .ok (.int (i.fmod j)) st else .bad
 | .pow,.int i,.int j,st=>if 0≤j∧j≤1000000∧i.natAbs < 2 ^ 64 then .ok (.int (i ^ j.toNat)) st else .bad
 | _,_,_,_=>.bad
noncomputable def pD:List U→Option (List Int)
 | []=>some []
 | .int i :: r=>(pD r).map (i :: ·)
 | _=>none
noncomputable def evC:Cm→U→U→Sto→Option Bool
 | .eq,x,y,st=>match rsv st 64 x,rsv st 64 y with | some a,some b=>if Ev.zH a∧Ev.zH b then some (Ev.eqD a b) else none | _,_=>none
 | .ne,x,y,st=>match rsv st 64 x,rsv st 64 y with | some a,some b=>if Ev.zH a∧Ev.zH b then some (!Ev.eqD a b) else none | _,_=>none
 | .lt,.int i,.int j,_=>some (decide (i < j))
 | .le,.int i,.int j,_=>some (decide (i≤j))
 | .gt,.int i,.int j,_=>some (decide (j < i))
 | .ge,.int i,.int j,_=>some (decide (j≤i))
 | .nin,.int x,y,st=>match pT st y with | some ys=>(pD ys).map fun l=>!l.any (· == x) | none=>none
 | _,_,_,_=>none
noncomputable def ofO:Option Bool→Sto→Rs U
 | some b,st=>.ok (.bl b) st
 | none,_=>.bad
noncomputable def B7:Ty→U→Bool
 | .int,.int _=>true
 | .int,.bl _=>true
 | .bool,.bl _=>true
 | .tuple,.tup _=>true
 | .list,.loc _=>true
 | .list,.kl _=>true
 | .str,.str _=>true
 | _,_=>false
noncomputable def allB:List U→Option Bool
 | []=>some true
 | .bl b :: r=>(allB r).map (b && ·)
 | _=>none
noncomputable def zE (xs:List U) (lo hi:Option Int):List U:=(xs.drop (HT.sIx xs.length 0 lo)).take (HT.sIx xs.length xs.length hi - HT.sIx xs.length 0 lo)
noncomputable def vL:E→U→Option (Option Int)
 | .cN,_=>some none
 | _,.int i=>some (some i)
 | _,_=>none
noncomputable def DD (x:U) (lo hi:Option Int) (st:Sto):Rs U:=match pT st x with
 | some xs=>new st (zE xs lo hi)
 | none=>.bad
noncomputable def B4 (b:Bool):U→Bool
 | .bl c=>c == b
 | _=>false
noncomputable def Cg:U→Bool
 | .non=>true
 | _=>false
noncomputable def evB:Bi→List U→Sto→Rs U
 | .len,[x],st=>match seq? st x with | some xs=>.ok (.int xs.length) st | none=>.bad
 | .abs,[.int i],st=>.ok (.int (if i < 0 then -i else i)) st
 | .max,[.int i,.int j],st=>.ok (.int (if j > i then j else i)) st
 | .min,[.int i,.int j],st=>.ok (.int (if j < i then j else i)) st
 | .list,[x],st=>match seq? st x with | some xs=>new st xs | none=>.bad
 | .all,[x],st=>match pT st x with | some xs=>ofO (allB xs) st | none=>.bad
 | .lrg,[.int n],st=>if 0≤n∧n.toNat < ag then new st ((List.range n.toNat).map fun (k:Nat)=>.int (k:Int)) else .bad
 | _,_,_=>.bad
noncomputable def evI (x y:U) (st:Sto):Rs U:=match seq? st x,y with
 | some xs,.int i=>match atI xs i with | some d=>.ok d st | none=>.bad
 | _,_=>.bad
noncomputable def lF (ρ:Env) (i:Nat) (st:Sto):Rs U:=match ρ[i]? with | some (some d)=>.ok d st | _=>.bad
noncomputable def mz:List Nat→List U→Env→Option Env
 | [],[],ρ=>some ρ
 | i :: is,x :: xs,ρ=>mz is xs (ρ.set i (some x))
 | _,_,_=>none
noncomputable def hR:Tg→U→Env→Option Env
 | .nm i,d,ρ=>some (ρ.set i (some d))
 | .tp is,.tup xs,ρ=>mz is xs ρ
 | _,_,_=>none
inductive Sq where
 | vals (xs:List U) | lst (l:Nat) | enu (l:Nat) | zip (p q:Sq)
noncomputable def OE:Option U→Option U→Option U
 | some x,some y=>some (.tup [x,y])
 | _,_=>none
noncomputable def Sq.at:Sq→Sto→Nat→Option (Option U)
 | .vals xs,_,i=>some xs[i]?
 | .lst l,st,i=>(st[l]?).map fun o=>o.2[i]?
 | .enu l,st,i=>(st[l]?).map fun o=>(o.2[i]?).map fun x=>.tup [.int (i:Nat),x]
 | .zip p q,st,i=>(p.at st i).bind fun o=>(q.at st i).map fun o'=>OE o o'
noncomputable def Sq.len:Sq→Sto→Nat
 | .vals xs,_=>xs.length
 | .lst l,st=>((st[l]?).map fun o=>o.2.length).getD 0
 | .enu l,st=>((st[l]?).map fun o=>o.2.length).getD 0
 | .zip p q,st=>min (p.len st) (q.len st)
noncomputable def src (st:Sto):U→Option Sq
 | .loc l=>if l < st.length then some (.lst l) else none
 | .kl xs=>some (.vals xs)
 | _=>none
noncomputable def O1:Option Sq→Option Sq→Sto→Rs Sq
 | some p,some q,st=>.ok (.zip p q) st
 | _,_,_=>.bad
noncomputable def xg (k:Nat):List U→List U
 | []=>[]
 | x :: xs=>.tup [.int (k:Nat),x] :: xg (k + 1) xs
noncomputable def mF (lo:Int) (n:Nat):List U:=(List.range n).map fun k=>U.int (lo + (k:Nat))
noncomputable def ky (ρ:Env) (caps:List (Option Nat)):Env:=caps.map fun o=>o.bind fun i=>(ρ[i]?).join
noncomputable def iJ (f:U→Sto→Rs (Option U)) (q:Sq):Nat→Nat→Sto→Rs (List U)
 | 0,_,_=>.bad
 | n + 1,i,st=>match q.at st i with
   | none=>.bad
   | some none=>.ok [] st
   | some (some x)=>(f x st).bind fun o st1=>(iJ f q n (i + 1) st1).bind fun ys st2=>.ok (match o with | some y=>y :: ys | none=>ys) st2
noncomputable abbrev Fn:=Nat→List U→Sto→Rs U
mutual
noncomputable def xE (Φ:Fn):E→Env→Sto→Rs U
 | .var i,ρ,st=>lF ρ i st
 | .cN,_,st=>.ok .non st
 | .cB b,_,st=>.ok (.bl b) st
 | .cI i,_,st=>.ok (.int i) st
 | .cS x,_,st=>.ok (.str x) st
 | .op o a b,ρ,st=>(xE Φ a ρ st).bind fun x st1=>(xE Φ b ρ st1).bind fun y st2=>ev2 o x y st2
 | .neg a,ρ,st=>(xE Φ a ρ st).bind fun x st1=>match x with | .int i=>.ok (.int (-i)) st1 | _=>.bad
 | .not a,ρ,st=>(xE Φ a ρ st).bind fun x st1=>match x with | .bl b=>.ok (.bl (!b)) st1 | _=>.bad
 | .cmp o a b,ρ,st=>(xE Φ a ρ st).bind fun x st1=>(xE Φ b ρ st1).bind fun y st2=>ofO (evC o x y st2) st2
 | .chain o o' a b c,ρ,st=>(xE Φ a ρ st).bind fun x st1=>(xE Φ b ρ st1).bind fun y st2=>match evC o x y st2 with
   | some true=>(xE Φ c ρ st2).bind fun u st3=>ofO (evC o' y u st3) st3
   | some false=>.ok (.bl false) st2
   | none=>.bad
 | .and a b,ρ,st=>(xE Φ a ρ st).bind fun x st1=>match x with | .bl true=>xE Φ b ρ st1 | .bl false=>.ok (.bl false) st1 | _=>.bad
 | .or a b,ρ,st=>(xE Φ a ρ st).bind fun x st1=>match x with | .bl true=>.ok (.bl true) st1 | .bl false=>xE Φ b ρ st1 | _=>.bad
 | .ite c a b,ρ,st=>(xE Φ c ρ st).bind fun x st1=>match x with | .bl true=>xE Φ a ρ st1 | .bl false=>xE Φ b ρ st1 | _=>.bad
 | .tup es,ρ,st=>(xEs Φ es ρ st).bind fun xs st1=>if xs.length < ag then .ok (.tup xs) st1 else .bad
 | .lst es,ρ,st=>(xEs Φ es ρ st).bind fun xs st1=>if xs.length < ag then new st1 xs else .bad
 | .ix a i,ρ,st=>(xE Φ a ρ st).bind fun x st1=>(xE Φ i ρ st1).bind fun y st2=>evI x y st2
 | .sl a l h,ρ,st=>(xE Φ a ρ st).bind fun x st1=>(xE Φ l ρ st1).bind fun y st2=>match vL l y with
   | none=>.bad
   | some lo=>(xE Φ h ρ st2).bind fun z st3=>match vL h z with | none=>.bad | some hi=>DD x lo hi st3
 | .call f es,ρ,st=>(xEs Φ es ρ st).bind fun xs st1=>Φ f xs st1
 | .bi b es,ρ,st=>(xEs Φ es ρ st).bind fun xs st1=>evB b xs st1
 | .isi a t,ρ,st=>(xE Φ a ρ st).bind fun x st1=>match x with | .exo _=>.bad | x=>.ok (.bl (B7 t x)) st1
 | .isB n a b,ρ,st=>(xE Φ a ρ st).bind fun x st1=>.ok (.bl (n ^^ B4 b x)) st1
 | .isN n a,ρ,st=>(xE Φ a ρ st).bind fun x st1=>.ok (.bl (n ^^ Cg x)) st1
 | .comp caps t it ifs elt,ρ,st=>(xIt Φ it ρ st).bind fun q st1=>if q.len st1 < ag then
     ((iJ (fun x st=>match hR t x (ky ρ caps++[none]) with
         | none=>.bad
         | some ρ1=>(xIf Φ ifs ρ1 st).bind fun b st2=>if b then (xE Φ elt ρ1 st2).bind fun y st3=>.ok (some y) st3 else .ok none st2) q (q.len st1 + 1) 0 st1).bind fun ys st2=>new st2 ys).noX
   else .bad
noncomputable def xEs (Φ:Fn):List E→Env→Sto→Rs (List U)
 | [],_,st=>.ok [] st
 | e :: es,ρ,st=>(xE Φ e ρ st).bind fun x st1=>(xEs Φ es ρ st1).bind fun xs st2=>.ok (x :: xs) st2
noncomputable def xIf (Φ:Fn):List E→Env→Sto→Rs Bool
 | [],_,st=>.ok true st
 | c :: cs,ρ,st=>(xE Φ c ρ st).bind fun x st1=>match x with | .bl true=>xIf Φ cs ρ st1 | .bl false=>.ok false st1 | _=>.bad
noncomputable def xIt (Φ:Fn):It→Env→Sto→Rs Sq
 | .seq e,ρ,st=>(xE Φ e ρ st).bind fun x st1=>match x with | .loc l=>(if l < st1.length then .ok (.lst l) st1 else .bad) | .tup xs=>.ok (.vals xs) st1 | .kl xs=>.ok (.vals xs) st1 | _=>.bad
 | .rng e,ρ,st=>(xE Φ e ρ st).bind fun x st1=>match x with | .int j=>if -(2 ^ 62)≤j∧j < 2 ^ 62 then .ok (.vals (mF 0 j.toNat)) st1 else .bad | _=>.bad
 | .rng2 a b,ρ,st=>(xE Φ a ρ st).bind fun x st1=>(xE Φ b ρ st1).bind fun y st2=>match x,y with
   | .int i,.int j=>if (-(2 ^ 62)≤i∧i < 2 ^ 62)∧-(2 ^ 62)≤j∧j < 2 ^ 62 then .ok (.vals (mF i (j - i).toNat)) st2 else .bad
   | _,_=>.bad
 | .enu e,ρ,st=>(xE Φ e ρ st).bind fun x st1=>match x with | .loc l=>(if l < st1.length then .ok (.enu l) st1 else .bad) | .kl xs=>.ok (.vals (xg 0 xs)) st1 | _=>.bad
 | .zip a b,ρ,st=>(xE Φ a ρ st).bind fun x st1=>(xE Φ b ρ st1).bind fun y st2=>O1 (src st2 x) (src st2 y) st2
end
inductive Lm where
 | append | extend | rot
inductive S where
 | set (t:Tg) (e:E)
 | put (a i e:E)
 | mth (m:Lm) (a:E) (es:List E)
 | ret (e:E)
 | ite (c:E) (a b:List S)
 | for (t:Tg) (it:It) (body:List S)
 | while (c:E) (body:List S)
 | expr (e:E)
 | rows (r v:Nat) (cut:Bool) (i:E) (a b:Int)
 | nev
 deriving Inhabited
inductive Fl where
 | nx (ρ:Env) | rt (d:U)
noncomputable def evM:Lm→U→List U→Sto→Option Sto
 | .append,.loc l,[x],st=>match st[l]? with | some (false,xs)=>if xs.length < ag then some (st.set l (false,xs++[x])) else none | _=>none
 | .extend,.loc l,[.loc k],st=>match st[l]?,st[k]? with
   | some (false,xs),some (false,ys)=>if xs.length + ys.length < ag then some (st.set l (false,xs++ys)) else none
   | _,_=>none
 | .rot,.loc l,[.int i,.int j],st=>match st[l]? with
   | some (false,xs)=>if xs.length < ag∧0≤i∧i.toNat < xs.length∧0≤j∧j.toNat < xs.length then (xs[j.toNat]?).map fun x=>st.set l (false,(xs.eraseIdx j.toNat).insertIdx i.toNat x) else none
   | _=>none
 | _,_,_,_=>none
noncomputable def evP (x y z:U) (st:Sto):Option Sto:=match x,y with
 | .loc l,.int i=>match st[l]? with
   | some (false,xs)=>(L2.ixN xs.length i).map fun j=>st.set l (false,xs.set j z)
   | _=>none
 | _,_=>none
noncomputable def ofS:Option Sto→Env→Rs Fl
 | some st,ρ=>.ok (.nx ρ) st
 | none,_=>.bad
noncomputable def loop (f:U→Env→Sto→Rs Fl) (q:Sq):Nat→Nat→Env→Sto→Rs Fl
 | 0,_,_,_=>.bad
 | n + 1,i,ρ,st=>match q.at st i with
   | none=>.bad
   | some none=>.ok (.nx ρ) st
   | some (some x)=>(f x ρ st).bind fun r st1=>match r with
     | .nx ρ'=>loop f q n (i + 1) ρ' st1
     | .rt d=>.ok (.rt d) st1
noncomputable def qC (c:Env→Sto→Rs U) (f:Env→Sto→Rs Fl):Nat→Env→Sto→Rs Fl
 | 0,_,_=>.bad
 | n + 1,ρ,st=>(c ρ st).bind fun x st1=>match x with
   | .bl true=>(f ρ st1).bind fun r st2=>match r with
     | .nx ρ'=>qC c f n ρ' st2
     | .rt d=>.ok (.rt d) st2
   | .bl false=>.ok (.nx ρ) st1
   | _=>.bad
noncomputable def xP (Φ:Fn) (a i e:E) (ρ:Env) (st:Sto):Rs Fl:=(xE Φ e ρ st).bind fun z st1=>(xE Φ a ρ st1).bind fun x st2=>(xE Φ i ρ st2).bind fun y st3=>ofS (evP x y z st3) ρ
noncomputable def ux (v:Nat) (cut:Bool):It:=if cut then .seq (.sl (.var v) .cN (.neg (.cI 1))) else .seq (.var v)
noncomputable def yJ (Φ:Fn) (r:Nat) (i:E) (a b:Int) (x:U) (ρ:Env) (st:Sto):Rs Fl:=xP Φ (.var r) i (.tup [.cI a,.cI b]) (ρ.set r (some x)) st
mutual
noncomputable def xS (Φ:Fn) (n:Nat):S→Env→Sto→Rs Fl
 | .set t e,ρ,st=>(xE Φ e ρ st).bind fun x st1=>match hR t x ρ with | some ρ'=>.ok (.nx ρ') st1 | none=>.bad
 | .put a i e,ρ,st=>(xE Φ e ρ st).bind fun z st1=>(xE Φ a ρ st1).bind fun x st2=>(xE Φ i ρ st2).bind fun y st3=>ofS (evP x y z st3) ρ
 | .mth m a es,ρ,st=>(xE Φ a ρ st).bind fun x st1=>match x with
   | .loc l=>if l < st1.length then (xEs Φ es ρ st1).bind fun xs st2=>ofS (evM m (.loc l) xs st2) ρ else .bad
   | _=>.bad
 | .ret e,ρ,st=>(xE Φ e ρ st).bind fun x st1=>.ok (.rt x) st1
 | .ite c a b,ρ,st=>(xE Φ c ρ st).bind fun x st1=>match x with | .bl true=>xSs Φ n a ρ st1 | .bl false=>xSs Φ n b ρ st1 | _=>.bad
 | .for t it body,ρ,st=>((xIt Φ it ρ st).bind fun q st1=>loop (fun x ρ' st'=>match hR t x ρ' with | some ρ2=>xSs Φ n body ρ2 st' | none=>.bad) q (q.len st1 + 1) 0 ρ st1).noX
 | .while c body,ρ,st=>(qC (fun ρ' st'=>xE Φ c ρ' st') (fun ρ' st'=>xSs Φ n body ρ' st') n ρ st).noX
 | .rows r v c i a b,ρ,st=>((xIt Φ (ux v c) ρ st).bind fun q st1=>loop (yJ Φ r i a b) q (q.len st1 + 1) 0 ρ st1).noX
 | .expr e,ρ,st=>(xE Φ e ρ st).bind fun _ st1=>.ok (.nx ρ) st1
 | .nev,_,_=>.bad
noncomputable def xSs (Φ:Fn) (n:Nat):List S→Env→Sto→Rs Fl
 | [],ρ,st=>.ok (.nx ρ) st
 | s :: ss,ρ,st=>(xS Φ n s ρ st).bind fun r st1=>match r with | .nx ρ'=>xSs Φ n ss ρ' st1 | r=>.ok r st1
end
noncomputable def GK:List S→Option (Nat × E × Int × Int)
 | [.put (.var r) i (.tup [.cI a,.cI b])]=>some (r,i,a,b)
 | _=>none
noncomputable def itR:It→Option (Nat × Bool)
 | .seq (.var v)=>some (v,false)
 | .seq (.sl (.var v) .cN (.neg (.cI k)))=>if k=1 then some (v,true) else none
 | _=>none
noncomputable def JD (r:Nat):Option (Nat × Bool)→Option (Nat × E × Int × Int)→Option S
 | some (v,c),some (r',i,a,b)=>if r'=r then some (.rows r v c i a b) else none
 | _,_=>none
noncomputable def rowsOf (t:Tg) (it:It) (b:List S):S:=match t with
 | .nm r=>(JD r (itR it) (GK b)).getD (.for t it b)
 | _=>.for t it b
theorem Gg {b:List S} {r:Nat} {i:E} {x y:Int} (h:GK b=some (r,i,x,y)):b=[.put (.var r) i (.tup [.cI x,.cI y])]:=by
 unfold GK at h
 split at h
 · cases h; rfl
 · cases h
theorem Ib {it:It} {v:Nat} {c:Bool} (h:itR it=some (v,c)):it=ux v c:=by
 unfold itR at h
 split at h
 · cases h; rfl
 · split at h
   · rename_i k; subst k; cases h; rfl
   · cases h
 · cases h
theorem Hj (Φ:Fn) (n:Nat) (a i e:E) (ρ:Env) (st:Sto):xSs Φ n [.put a i e] ρ st=xP Φ a i e ρ st:=by
 have:∀ y:Rs Fl,(y.bind fun r st1=>match r with | .nx ρ'=>xSs Φ n [] ρ' st1 | r=>.ok r st1)=y:=fun y=>by
   cases y with
   | ok r st1=>cases r <;> simp only [Rs.bind,xSs]
   | exc c st1=>rfl
   | bad=>rfl
 rw [xSs]
 exact (this _).trans (by rw [xS,xP])
theorem Js (Φ:Fn) (n:Nat) (t:Tg) (it:It) (b:List S) (ρ:Env) (st:Sto):xS Φ n (rowsOf t it b) ρ st=xS Φ n (.for t it b) ρ st:=by
 cases t with
 | tp is=>rfl
 | nm r=>
   unfold rowsOf
   dsimp only
   cases h1:itR it with
   | none=>rfl
   | some p=>
     obtain ⟨v,c⟩:=p
     cases h2:GK b with
     | none=>rfl
     | some p=>
       obtain ⟨r',i,x,y⟩:=p
       unfold JD
       dsimp only
       split
       · rename_i hr
         subst hr
         rw [Ib h1,Gg h2]
         rw [Option.getD_some,xS,xS]
         congr 1
         congr 1
         funext q st1
         congr 1
         funext z ρ' st'
         rw [yJ,← Hj Φ n]
         rfl
       · rfl
noncomputable def run:Rs Fl→Rs U
 | .ok (.rt d) st=>.ok d st
 | .ok (.nx _) st=>.ok .non st
 | _=>.bad
noncomputable def Ox:U→Nat
 | .int i=>i.natAbs
 | _=>0
noncomputable def fuel:List U→Nat
 | []=>1
 | d :: r=>Ox d + fuel r
noncomputable def mk (Φ:Fn) (ir:List S) (np nl:Nat) (ds:List U) (st:Sto):Rs U:=
 if ds.length=np then run (xSs Φ (fuel ds) ir (ds.map some++List.replicate (nl - np) none) st) else .bad
noncomputable def tab (fs:List (List U→Sto→Rs U)) (i:Nat):List U→Sto→Rs U:=fs.getD i fun _ _=>.bad
end Sv
namespace Sv
open PySem PySem.Spec PyProof.Rows L2
open Ev (D aL aT ag j7 kG eH)
structure Zt where
 K:PySem.W.Frag
 cl:Nat→Addr
noncomputable def Pm (C a:Addr) (h:Heap):Prop:=∃ o vs,h.get? a=some o∧o.cls=.ref C∧o.data=.fields vs∧vs[2]?=some .none
noncomputable def SqF (K:PySem.W.Frag) (H:Hp) (a:Addr) (vs:List V):Prop:=(∃ o,H a=some (.frz o (.lst vs)))∨SqL K (fun _=>none) a vs
theorem SqF.sq {K:PySem.W.Frag} {H:Hp} {a:Addr} {vs:List V} (h:SqF K H a vs):SqL K H a vs:=by
 rcases h with ⟨o,h⟩ | ((h | ⟨o,h⟩) | h)
 · exact .inl (.inr ⟨o,h⟩)
 · cases h
 · cases h
 · exact .inr h
mutual
inductive bt (Z:Zt) (m:List Addr) (H:Hp):V→U→Prop where
 | non:bt Z m H .non .non
 | bl {b:Bool}:bt Z m H (.bl b) (.bl b)
 | int {i:Int}:bt Z m H (.int i) (.int i)
 | str {x:Str}:bt Z m H (.str x) (.str x)
 | tup {a:Addr} {vs:List V} {ds:List U} (h:SqT Z.K H a vs) (r:ar Z m H vs ds):bt Z m H (.ref a) (.tup ds)
 | loc {a:Addr} {l:Nat} (h:m[l]?=some a):bt Z m H (.ref a) (.loc l)
 | exo {a:Addr} {c:Nat} (h:H a=some (.ext (Pm (Z.cl c) a))):bt Z m H (.ref a) (.exo c)
 | kl {a:Addr} {vs:List V} {ds:List U} (h:SqF Z.K H a vs) (r:ar Z m H vs ds):bt Z m H (.ref a) (.kl ds)
inductive ar (Z:Zt) (m:List Addr) (H:Hp):List V→List U→Prop where
 | nil:ar Z m H [] []
 | cons {v:V} {d:U} {vs:List V} {ds:List U} (h:bt Z m H v d) (r:ar Z m H vs ds):ar Z m H (v :: vs) (d :: ds)
end
structure Go (m:List Addr) (H:Hp) (m':List Addr) (H':Hp):Prop where
 pre:m <+: m'
 kp:∀ b o,H b=some o→(b ∉ m∨∀ xs,o ≠ .lst xs)→H' b=some o
 tr:∀ b,H' b=none→H b=none
 fr:∀ (l:Nat) a,m.length≤l→m'[l]?=some a→H a=none
theorem Go.refl (m:List Addr) (H:Hp):Go m H m H:=⟨List.prefix_refl m,fun _ _ h _=>h,fun _ h=>h,fun l a hl e=>by rw [List.getElem?_eq_none hl] at e; cases e⟩
theorem kW {m m':List Addr} (h:m <+: m') {l:Nat} {a:Addr} (e:m[l]?=some a):m'[l]?=some a:=by
 obtain ⟨r,rfl⟩:=h
 rw [List.getElem?_append_left (List.getElem?_eq_some_iff.mp e).1]; exact e
theorem zr {m m':List Addr} (h:m <+: m') {l:Nat} {a:Addr} (q:l < m.length) (e:m'[l]?=some a):m[l]?=some a:=by
 have:=kW h (List.getElem?_eq_getElem q)
 rw [e] at this
 rw [List.getElem?_eq_getElem q]; exact this.symm
theorem Go.trans {m m1 m2:List Addr} {H H1 H2:Hp} (g:Go m H m1 H1) (g':Go m1 H1 m2 H2):Go m H m2 H2:=by
 refine ⟨g.pre.trans g'.pre,fun b o h hn=>?_,fun b h=>g.tr b (g'.tr b h),fun l a hl e=>?_⟩
 · refine g'.kp b o (g.kp b o h hn) ?_
   rcases hn with hn | hn
   · refine .inl fun hm=>?_
     obtain ⟨l,hl⟩:=List.getElem?_of_mem hm
     rcases Nat.lt_or_ge l m.length with q | q
     · exact hn (List.mem_of_getElem? (zr g.pre q hl))
     · rw [g.fr l b q hl] at h; cases h
   · exact .inr hn
 · rcases Nat.lt_or_ge l m1.length with q | q
   · exact g.fr l a hl (zr g'.pre q e)
   · exact g.tr a (g'.fr l a q e)
section
variable {Z:Zt} {m m':List Addr} {H H':Hp}
theorem goT (g:Go m H m' H') {a:Addr} {xs:List V} (h:SqT Z.K H a xs):SqT Z.K H' a xs:=by
 rcases h with (h | ⟨o,h⟩) | h
 · exact .inl (.inl (g.kp _ _ h (.inr fun _ z=>nomatch z)))
 · exact .inl (.inr ⟨o,g.kp _ _ h (.inr fun _ z=>nomatch z)⟩)
 · exact .inr h
theorem goF (g:Go m H m' H') {a:Addr} {xs:List V} (h:SqF Z.K H a xs):SqF Z.K H' a xs:=by
 rcases h with ⟨o,h⟩ | h
 · exact .inl ⟨o,g.kp _ _ h (.inr fun _ z=>nomatch z)⟩
 · exact .inr h
mutual
theorem bt.mono (g:Go m H m' H'):∀ {v:V} {d:U},bt Z m H v d→bt Z m' H' v d
 | _,_,.non=>.non
 | _,_,.bl=>.bl
 | _,_,.int=>.int
 | _,_,.str=>.str
 | _,_,.tup h r=>.tup (goT g h) (ar.mono g r)
 | _,_,.loc h=>.loc (kW g.pre h)
 | _,_,.exo h=>.exo (g.kp _ _ h (.inr fun _ z=>nomatch z))
 | _,_,.kl h r=>.kl (goF g h) (ar.mono g r)
theorem ar.mono (g:Go m H m' H'):∀ {vs:List V} {ds:List U},ar Z m H vs ds→ar Z m' H' vs ds
 | _,_,.nil=>.nil
 | _,_,.cons h r=>.cons (bt.mono g h) (ar.mono g r)
end
theorem ar.length:∀ {vs:List V} {ds:List U},ar Z m H vs ds→vs.length=ds.length
 | _,_,.nil=>rfl
 | _,_,.cons _ r=>congrArg (· + 1) r.length
theorem ar.get:∀ {vs:List V} {ds:List U} {i:Nat} {d:U},ar Z m H vs ds→ds[i]?=some d→∃ v,vs[i]?=some v∧bt Z m H v d
 | _,_,_,_,.nil,e=>by simp at e
 | _,_,0,_,.cons h _,e=>by simp at e; subst e; exact ⟨_,rfl,h⟩
 | _,_,i + 1,d,.cons _ r,e=>by
   obtain ⟨v,h1,h2⟩:=ar.get (i:=i) (d:=d) r (by simpa using e)
   exact ⟨v,by simpa using h1,h2⟩
theorem ar.append:∀ {xs ys:List V} {ds es:List U},ar Z m H xs ds→ar Z m H ys es→ar Z m H (xs++ys) (ds++es)
 | _,_,_,_,.nil,s=>s
 | _,_,_,_,.cons h r,s=>.cons h (ar.append r s)
theorem ar.take:∀ {xs:List V} {ds:List U} (n:Nat),ar Z m H xs ds→ar Z m H (xs.take n) (ds.take n)
 | _,_,0,_=>.nil
 | _,_,_ + 1,.nil=>.nil
 | _,_,n + 1,.cons h r=>.cons h (ar.take n r)
theorem ar.drop:∀ {xs:List V} {ds:List U} (n:Nat),ar Z m H xs ds→ar Z m H (xs.drop n) (ds.drop n)
 | _,_,0,r=>r
 | _,_,_ + 1,.nil=>.nil
 | _,_,n + 1,.cons _ r=>ar.drop n r
theorem ar.set:∀ {xs:List V} {ds:List U} (n:Nat) {v:V} {d:U},ar Z m H xs ds→bt Z m H v d→ar Z m H (xs.set n v) (ds.set n d)
 | _,_,_,_,_,.nil,_=>.nil
 | _,_,0,_,_,.cons _ r,h=>.cons h r
 | _,_,n + 1,_,_,.cons h r,h'=>.cons h (ar.set n r h')
theorem ar.erase:∀ {xs:List V} {ds:List U} (n:Nat),ar Z m H xs ds→ar Z m H (xs.eraseIdx n) (ds.eraseIdx n)
 | _,_,_,.nil=>.nil
 | _,_,0,.cons _ r=>r
 | _,_,n + 1,.cons h r=>.cons h (ar.erase n r)
theorem ar.insert:∀ {xs:List V} {ds:List U} (n:Nat) {v:V} {d:U},ar Z m H xs ds→bt Z m H v d→ar Z m H (xs.insertIdx n v) (ds.insertIdx n d)
 | _,_,0,_,_,r,h=>.cons h r
 | _,_,_ + 1,_,_,.nil,_=>.nil
 | _,_,n + 1,_,_,.cons h r,h'=>.cons h (ar.insert n r h')
theorem yn {xs:List V} {d:U} (h:ar Z m H xs [d]):∃ x,xs=[x]∧bt Z m H x d:=by
 cases h with
 | cons a r=>cases r; exact ⟨_,rfl,a⟩
theorem OT {xs:List V} {d e:U} (h:ar Z m H xs [d,e]):∃ x y,xs=[x,y]∧bt Z m H x d∧bt Z m H y e:=by
 cases h with
 | cons a r=>
   obtain ⟨y,rfl,b⟩:=yn r
   exact ⟨_,_,rfl,a,b⟩
theorem p0 {v:V} {i:Int} (h:bt Z m H v (.int i)):v=.int i:=by cases h; rfl
theorem jQ {v:V} {b:Bool} (h:bt Z m H v (.bl b)):v=.bl b:=by cases h; rfl
theorem jo {v:V} {l:Nat} (h:bt Z m H v (.loc l)):∃ a,v=.ref a∧m[l]?=some a:=by cases h; exact ⟨_,rfl,by assumption⟩
end
noncomputable def Lay (Z:Zt) (H:Hp) (a:Addr) (fz:Bool) (vs:List V):Prop:=if fz=true then SqL Z.K H a vs∧∃ o,H a=some o else H a=some (.lst vs)
structure R (Z:Zt) (m:List Addr) (st:Sto) (H:Hp):Prop where
 len:m.length=st.length
 inj:∀ (i j:Nat) a,m[i]?=some a→m[j]?=some a→i=j
 obj:∀ (l:Nat) a fz ds,m[l]?=some a→st[l]?=some (fz,ds)→∃ vs,Lay Z H a fz vs∧ar Z m H vs ds
theorem Lay.sq {Z:Zt} {H:Hp} {a:Addr} {fz:Bool} {vs:List V} (h:Lay Z H a fz vs):SqL Z.K H a vs:=by
 unfold Lay at h
 split at h
 · exact h.1
 · exact .inl (.inl h)
theorem Lay.tr {Z:Zt} {H:Hp} {a:Addr} {fz:Bool} {vs:List V} (h:Lay Z H a fz vs):∃ o,H a=some o:=by
 unfold Lay at h
 split at h
 · exact h.2
 · exact ⟨_,h⟩
theorem Lay.upd {Z:Zt} {H:Hp} {a p:Addr} {fz:Bool} {vs:List V} {o:HO} (h:Lay Z H a fz vs) (hn:a ≠ p):Lay Z (upd H p o) a fz vs:=by
 unfold Lay at h ⊢
 split at h
 · rename_i q
   rw [if_pos q]
   refine ⟨?_,by rw [aF hn]; exact h.2⟩
   rcases h.1 with (h | ⟨o,h⟩) | h
   · exact .inl (.inl (by rw [aF hn]; exact h))
   · exact .inl (.inr ⟨o,by rw [aF hn]; exact h⟩)
   · exact .inr h
 · rename_i q
   rw [if_neg q,aF hn]; exact h
section
variable {Z:Zt} {m m':List Addr} {H H':Hp} {st:Sto}
theorem R.at (r:R Z m st H) {l:Nat} {fz:Bool} {ds:List U} (e:st[l]?=some (fz,ds)):∃ a vs,m[l]?=some a∧Lay Z H a fz vs∧ar Z m H vs ds:=by
 have hl:=(List.getElem?_eq_some_iff.mp e).1
 have hm:l < m.length:=by rw [r.len]; exact hl
 obtain ⟨vs,h1,h2⟩:=r.obj l _ fz ds (List.getElem?_eq_getElem hm) e
 exact ⟨_,vs,List.getElem?_eq_getElem hm,h1,h2⟩
theorem R.loc (r:R Z m st H) {l:Nat} {a:Addr} (e:m[l]?=some a):∃ fz ds vs,st[l]?=some (fz,ds)∧Lay Z H a fz vs∧ar Z m H vs ds:=by
 have hl:=(List.getElem?_eq_some_iff.mp e).1
 have hs:l < st.length:=by rw [← r.len]; exact hl
 obtain ⟨vs,h1,h2⟩:=r.obj l a st[l].1 st[l].2 e (List.getElem?_eq_getElem hs)
 exact ⟨_,_,vs,List.getElem?_eq_getElem hs,h1,h2⟩
theorem R.in (r:R Z m st H) {a:Addr} (e:a ∈ m):∃ o,H a=some o:=by
 obtain ⟨l,hl⟩:=List.getElem?_of_mem e
 obtain ⟨_,_,_,_,h,_⟩:=r.loc hl
 exact h.tr
theorem R.out (r:R Z m st H) {p:Addr} (h:H p=none):p ∉ m:=fun z=>by
 obtain ⟨o,q⟩:=r.in z
 rw [h] at q; cases q
theorem Go.new (r:R Z m st H) {p:Addr} {o:HO} (h:H p=none):Go m H m (upd H p o):=by
 refine ⟨List.prefix_refl m,fun b u e _=>?_,fun b e=>?_,fun l a hl e=>by rw [List.getElem?_eq_none hl] at e; cases e⟩
 · rw [aF (aG e h)]; exact e
 · unfold L2.upd at e
   split at e
   · cases e
   · exact e
theorem R.upd (r:R Z m st H) {p:Addr} {o:HO} (h:H p=none):R Z m st (upd H p o):=by
 refine ⟨r.len,r.inj,fun l a fz ds e1 e2=>?_⟩
 obtain ⟨vs,h1,h2⟩:=r.obj l a fz ds e1 e2
 obtain ⟨o,ho⟩:=h1.tr
 exact ⟨vs,h1.upd (aG ho h),h2.mono (Go.new r h)⟩
theorem R.new (r:R Z m st H) {p:Addr} {vs:List V} {ds:List U} (h:H p=none) (hv:ar Z m H vs ds) :
   Go m H (m++[p]) (L2.upd H p (.lst vs))∧R Z (m++[p]) (st++[(false,ds)]) (L2.upd H p (.lst vs))∧bt Z (m++[p]) (L2.upd H p (.lst vs)) (.ref p) (.loc st.length):=by
 have hp:=r.out h
 have g:Go m H (m++[p]) (L2.upd H p (.lst vs)):=by
   have g0:=Go.new r (o:=.lst vs) h
   refine ⟨List.prefix_append m [p],g0.kp,g0.tr,fun l a hl e=>?_⟩
   rw [List.getElem?_append_right hl] at e
   have:=List.mem_of_getElem? e
   rw [List.mem_singleton] at this
   rw [this]; exact h
 have hl:(m++[p])[st.length]?=some p:=by rw [← r.len,List.getElem?_append_right (Nat.le_refl _),Nat.sub_self]; rfl
 refine ⟨g,⟨by rw [List.length_append,List.length_append,r.len]; rfl,fun i j a e1 e2=>?_,fun l a fz es e1 e2=>?_⟩,.loc hl⟩
 · have key:∀ (i:Nat) a,(m++[p])[i]?=some a→(m[i]?=some a∧a ≠ p)∨(i=m.length∧a=p):=fun i a e=>by
     rcases Nat.lt_or_ge i m.length with q | q
     · rw [List.getElem?_append_left q] at e
       exact .inl ⟨e,fun z=>hp (z ▸ List.mem_of_getElem? e)⟩
     · have hi:=(List.getElem?_eq_some_iff.mp e).1
       rw [List.length_append,List.length_singleton] at hi
       rw [List.getElem?_append_right q] at e
       have:=List.mem_of_getElem? e
       rw [List.mem_singleton] at this
       exact .inr ⟨by omega,this⟩
   rcases key i a e1 with ⟨q1,q2⟩ | ⟨q1,q2⟩ <;> rcases key j a e2 with ⟨w1,w2⟩ | ⟨w1,w2⟩
   · exact r.inj i j a q1 w1
   · exact absurd w2 q2
   · exact absurd q2 w2
   · rw [q1,w1]
 · rcases Nat.lt_or_ge l m.length with q | q
   · rw [List.getElem?_append_left q] at e1
     rw [List.getElem?_append_left (by rw [← r.len]; exact q)] at e2
     obtain ⟨ws,h1,h2⟩:=r.obj l a fz es e1 e2
     obtain ⟨o,ho⟩:=h1.tr
     exact ⟨ws,h1.upd (aG ho h),h2.mono g⟩
   · have hi:=(List.getElem?_eq_some_iff.mp e1).1
     rw [List.length_append,List.length_singleton] at hi
     obtain rfl:l=m.length:=by omega
     rw [List.getElem?_append_right (Nat.le_refl _),Nat.sub_self] at e1
     rw [r.len,List.getElem?_append_right (Nat.le_refl _),Nat.sub_self] at e2
     cases e1; cases e2
     exact ⟨vs,by unfold Lay; rw [if_neg (by decide)]; exact cV,hv.mono g⟩
theorem R.put (r:R Z m st H) {l:Nat} {a:Addr} {vs:List V} {es ds:List U} (e:m[l]?=some a) (hs:st[l]?=some (false,es)) (hv:ar Z m H vs ds) :
   Go m H m (L2.upd H a (.lst vs))∧R Z m (st.set l (false,ds)) (L2.upd H a (.lst vs)):=by
 obtain ⟨us,hu,_⟩:=r.obj l a false es e hs
 have ha:H a=some (.lst us):=by unfold Lay at hu; rw [if_neg (by decide)] at hu; exact hu
 have g:Go m H m (L2.upd H a (.lst vs)):=by
   refine ⟨List.prefix_refl m,fun b u q hn=>?_,fun b q=>?_,fun l a hl e=>by rw [List.getElem?_eq_none hl] at e; cases e⟩
   · by_cases hb:b=a
     · subst hb
       rcases hn with hn | hn
       · exact absurd (List.mem_of_getElem? e) hn
       · rw [ha] at q; cases q; exact absurd rfl (hn us)
     · rw [aF hb]; exact q
   · unfold L2.upd at q
     split at q
     · cases q
     · exact q
 refine ⟨g,⟨by rw [List.length_set]; exact r.len,r.inj,fun k b fz xs e1 e2=>?_⟩⟩
 by_cases hk:k=l
 · subst hk
   rw [e] at e1; cases e1
   rw [List.getElem?_set_self (List.getElem?_eq_some_iff.mp hs).1] at e2
   cases e2
   exact ⟨vs,by unfold Lay; rw [if_neg (by decide)]; exact cV,hv.mono g⟩
 · rw [List.getElem?_set_ne (Ne.symm hk)] at e2
   obtain ⟨ws,h1,h2⟩:=r.obj k b fz xs e1 e2
   exact ⟨ws,h1.upd (fun z=>hk (r.inj k l b e1 (z ▸ e))),h2.mono g⟩
theorem R.side (r:R Z m st H) {p:Addr} {us vs:List V} (h:H p=some (.lst us)) (hp:p ∉ m):R Z m st (L2.upd H p (.lst vs))∧∀ {v:V} {d:U},bt Z m H v d→bt Z m (L2.upd H p (.lst vs)) v d:=by
 have kT:∀ {a:Addr} {xs:List V},SqT Z.K H a xs→SqT Z.K (L2.upd H p (.lst vs)) a xs:=fun {a xs} q=>by
   have ne:∀ {o:HO},H a=some o→(∀ xs,o ≠ .lst xs)→a ≠ p:=fun ho hn z=>by subst z; rw [h] at ho; cases ho; exact hn us rfl
   rcases q with (q | ⟨o,q⟩) | q
   · exact .inl (.inl (by rw [aF (ne q fun _ z=>nomatch z)]; exact q))
   · exact .inl (.inr ⟨o,by rw [aF (ne q fun _ z=>nomatch z)]; exact q⟩)
   · exact .inr q
 have kF:∀ {a:Addr} {xs:List V},SqF Z.K H a xs→SqF Z.K (L2.upd H p (.lst vs)) a xs:=fun {a xs} q=>by
   rcases q with ⟨o,q⟩ | q
   · exact .inl ⟨o,by rw [aF (fun z=>by subst z; rw [h] at q; cases q)]; exact q⟩
   · exact .inr q
 have key:(∀ {v:V} {d:U},bt Z m H v d→bt Z m (L2.upd H p (.lst vs)) v d):=by
   intro v d hd
   refine bt.rec (motive_1:=fun v d _=>bt Z m (L2.upd H p (.lst vs)) v d) (motive_2:=fun ws es _=>ar Z m (L2.upd H p (.lst vs)) ws es) .non .bl .int .str (fun h _ ih=>.tup (kT h) ih) (fun h=>.loc h) (fun {a c} q=>.exo ?_) (fun h _ ih=>.kl (kF h) ih) .nil (fun _ _ i1 i2=>.cons i1 i2) hd
   rw [aF (fun z=>by subst z; rw [h] at q; cases q)]; exact q
 have keys:∀ {ws:List V} {es:List U},ar Z m H ws es→ar Z m (L2.upd H p (.lst vs)) ws es:=by
   intro ws es hd
   refine ar.rec (motive_1:=fun v d _=>bt Z m (L2.upd H p (.lst vs)) v d) (motive_2:=fun ws es _=>ar Z m (L2.upd H p (.lst vs)) ws es) .non .bl .int .str (fun h _ ih=>.tup (kT h) ih) (fun h=>.loc h) (fun {a c} q=>.exo ?_) (fun h _ ih=>.kl (kF h) ih) .nil (fun _ _ i1 i2=>.cons i1 i2) hd
   rw [aF (fun z=>by subst z; rw [h] at q; cases q)]; exact q
 refine ⟨⟨r.len,r.inj,fun l a fz ds e1 e2=>?_⟩,key⟩
 obtain ⟨ws,h1,h2⟩:=r.obj l a fz ds e1 e2
 exact ⟨ws,h1.upd (fun z=>hp (z ▸ List.mem_of_getElem? e1)),keys h2⟩
end
structure cj (Z:Zt) (m:List Addr) (H:Hp) (σ:L2.St) (ρ:Env):Prop where
 len:σ.length=ρ.length
 get:∀ (i:Nat) (d:U),ρ[i]?=some (some d)→∃ v,σ[i]?=some (some v)∧bt Z m H v d
theorem cj.mono {Z:Zt} {m m':List Addr} {H H':Hp} {σ:L2.St} {ρ:Env} (e:cj Z m H σ ρ) (g:Go m H m' H'):cj Z m' H' σ ρ:=
 ⟨e.len,fun i d h=>let ⟨v,h1,h2⟩:=e.get i d h; ⟨v,h1,h2.mono g⟩⟩
theorem cj.set {Z:Zt} {m:List Addr} {H:Hp} {σ:L2.St} {ρ:Env} (e:cj Z m H σ ρ) {i:Nat} {v:V} {d:U} (h:bt Z m H v d):cj Z m H (σ.set i (some v)) (ρ.set i (some d)):=by
 refine ⟨by rw [List.length_set,List.length_set]; exact e.len,fun j x hx=>?_⟩
 by_cases q:i=j
 · subst q
   by_cases hl:i < ρ.length
   · rw [List.getElem?_set_self hl] at hx
     cases hx
     exact ⟨v,List.getElem?_set_self (by rw [e.len]; exact hl),h⟩
   · rw [List.getElem?_eq_none (by rw [List.length_set]; omega)] at hx; cases hx
 · rw [List.getElem?_set_ne q] at hx
   rw [List.getElem?_set_ne q]
   exact e.get j x hx
noncomputable def post {α:Type} (ex:Nat→Sto→Prop) (k:α→Sto→Prop):Rs α→Prop
 | .ok a st=>k a st
 | .exc c st=>ex c st
 | .bad=>False
theorem az {α β:Type} {ex:Nat→Sto→Prop} {k:β→Sto→Prop} {x:Rs α} {f:α→Sto→Rs β} (h:post ex k (x.bind f)):post ex (fun a st=>post ex k (f a st)) x:=by
 cases x with
 | ok a st=>exact h
 | exc c st=>exact h
 | bad=>exact h
theorem aq {α:Type} {ex ex':Nat→Sto→Prop} {k k':α→Sto→Prop} {x:Rs α} (h:post ex k x) (he:∀ c st,ex c st→ex' c st) (hk:∀ a st,x=.ok a st→k a st→k' a st):post ex' k' x:=by
 cases x with
 | ok a st=>exact hk a st rfl h
 | exc c st=>exact he c st h
 | bad=>exact h
theorem sf {α:Type} {ex:Nat→Sto→Prop} {k:α→Sto→Prop} {x:Rs α} (h:post ex k x.noX):post (fun _ _=>False) k x:=by
 cases x with
 | ok a st=>exact h
 | exc c st=>exact h
 | bad=>exact h
end Sv
namespace Sv
open PySem PySem.Spec PyProof.Rows L2
open Ev (D aL aT ag j7 kG eH)
section
variable {Z:Zt} {m:List Addr} {H:Hp} {st:Sto}
theorem nC {f:U→Option D} (ih:∀ {v:V} {d:U} {x:D},bt Z m H v d→f d=some x→Ev.Den Z.K H v x):∀ {vs:List V} {ds:List U} {xs:List D},ar Z m H vs ds→vN f ds=some xs→Ev.yW Z.K H vs xs
 | _,_,_,.nil,h=>by cases h; exact .nil
 | _,_,_,.cons a r,h=>by
   rw [vN] at h
   obtain ⟨y,h1,h⟩:=Option.bind_eq_some_iff.mp h
   obtain ⟨ys,h2,rfl⟩:=Option.map_eq_some_iff.mp h
   exact .cons (ih a h1) (nC ih r h2)
theorem jK (r:R Z m st H):∀ (n:Nat) {v:V} {d:U} {x:D},bt Z m H v d→rsv st n d=some x→Ev.Den Z.K H v x
 | n,_,_,_,.non,h=>by cases n <;> (rw [rsv] at h; cases h; exact .non)
 | n,_,_,_,.bl,h=>by cases n <;> (rw [rsv] at h; cases h; exact .bl)
 | n,_,_,_,.int,h=>by cases n <;> (rw [rsv] at h; cases h; exact .int)
 | n,_,_,_,.str,h=>by cases n <;> (rw [rsv] at h; cases h; exact .str)
 | 0,_,_,_,.tup _ _,h=>by rw [rsv] at h <;> first | cases h | (intros; simp_all)
 | n + 1,_,_,_,.tup q rr,h=>by
   rw [rsv] at h
   obtain ⟨xs,h1,rfl⟩:=Option.map_eq_some_iff.mp h
   exact .tup q (nC (fun a b=>jK r n a b) rr h1)
 | 0,_,_,_,.kl _ _,h=>by rw [rsv] at h <;> first | cases h | (intros; simp_all)
 | n + 1,_,_,_,.kl q rr,h=>by
   rw [rsv] at h
   obtain ⟨xs,h1,rfl⟩:=Option.map_eq_some_iff.mp h
   exact .lst q.sq (nC (fun a b=>jK r n a b) rr h1)
 | 0,_,_,_,.loc _,h=>by rw [rsv] at h <;> first | cases h | (intros; simp_all)
 | n + 1,_,_,_,.loc q,h=>by
   rw [rsv] at h
   split at h
   · rename_i xs e
     obtain ⟨ys,h1,rfl⟩:=Option.map_eq_some_iff.mp h
     obtain ⟨a,vs,e1,l1,d1⟩:=r.at e
     rw [q] at e1; cases e1
     exact .lst l1.sq (nC (fun a b=>jK r n a b) d1 h1)
   · cases h
 | n,_,_,_,.exo _,h=>by cases n <;> (rw [rsv] at h <;> first | cases h | (intros; simp_all))
end
noncomputable def kE (Z:Zt) (Ex:Nat→Hp→Prop) (m:List Addr) (H:Hp):Nat→Sto→Prop:=fun c st'=>∀ m' H',Go m H m' H'→R Z m' st' H'→Ex c H'
noncomputable def kV (Z:Zt) (m:List Addr) (H:Hp) (Q:VK):U→Sto→Prop:=fun d st'=>∀ m' H' v,Go m H m' H'→R Z m' st' H'→bt Z m' H' v d→Q v H'
noncomputable def kB (Z:Zt) (m:List Addr) (H:Hp) (Q:Bool→Hp→Prop):Bool→Sto→Prop:=fun b st'=>∀ m' H',Go m H m' H'→R Z m' st' H'→Q b H'
noncomputable def kT (Z:Zt) (m:List Addr) (H:Hp) (Q:Bool→Hp→Prop):U→Sto→Prop:=fun d st'=>∃ b,d=.bl b∧∀ m' H',Go m H m' H'→R Z m' st' H'→Q b H'
noncomputable def kA (Z:Zt) (m:List Addr) (H:Hp) (Q:List V→Hp→Prop):List U→Sto→Prop:=fun ds st'=>∀ m' H' vs,Go m H m' H'→R Z m' st' H'→ar Z m' H' vs ds→Q vs H'
theorem kE.sh {Z:Zt} {Ex:Nat→Hp→Prop} {m m1:List Addr} {H H1:Hp} (g:Go m H m1 H1):∀ c st,kE Z Ex m H c st→kE Z Ex m1 H1 c st:=fun _ _ h m' H' g'=>h m' H' (g.trans g')
theorem kV.sh {Z:Zt} {m m1:List Addr} {H H1:Hp} {Q:VK} (g:Go m H m1 H1):∀ d st,kV Z m H Q d st→kV Z m1 H1 Q d st:=fun _ _ h m' H' v g'=>h m' H' v (g.trans g')
theorem kT.sh {Z:Zt} {m m1:List Addr} {H H1:Hp} {Q:Bool→Hp→Prop} (g:Go m H m1 H1):∀ d st,kT Z m H Q d st→kT Z m1 H1 Q d st:=fun _ _ ⟨b,e,h⟩=>⟨b,e,fun m' H' g'=>h m' H' (g.trans g')⟩
noncomputable abbrev Po (Z:Zt) (Ex:Nat→Hp→Prop) (m:List Addr) (H:Hp) (Q:VK) (x:Rs U):Prop:=post (kE Z Ex m H) (kV Z m H Q) x
theorem Po.sh {Z:Zt} {Ex:Nat→Hp→Prop} {m m1:List Addr} {H H1:Hp} {Q:VK} {x:Rs U} (h:Po Z Ex m H Q x) (g:Go m H m1 H1):Po Z Ex m1 H1 Q x:=aq h (kE.sh g) fun a st _=>kV.sh g a st
noncomputable abbrev PoT (Z:Zt) (Ex:Nat→Hp→Prop) (m:List Addr) (H:Hp) (Q:Bool→Hp→Prop) (x:Rs U):Prop:=post (kE Z Ex m H) (kT Z m H Q) x
theorem PoT.sh {Z:Zt} {Ex:Nat→Hp→Prop} {m m1:List Addr} {H H1:Hp} {Q:Bool→Hp→Prop} {x:Rs U} (h:PoT Z Ex m H Q x) (g:Go m H m1 H1):PoT Z Ex m1 H1 Q x:=aq h (kE.sh g) fun a st _=>kT.sh g a st
section
variable (Z:Zt) (Φ:Fn) (Ex:Nat→Hp→Prop)
noncomputable def lE (e:E):TE:=fun σ H Q=>∃ m st ρ,R Z m st H∧cj Z m H σ ρ∧Po Z Ex m H Q (xE Φ e ρ st)
noncomputable def lT (e:E):TT:=fun σ H Q=>∃ m st ρ,R Z m st H∧cj Z m H σ ρ∧PoT Z Ex m H Q (xE Φ e ρ st)
noncomputable def lIf (es:List E):TT:=fun σ H Q=>∃ m st ρ,R Z m st H∧cj Z m H σ ρ∧post (kE Z Ex m H) (kB Z m H Q) (xIf Φ es ρ st)
noncomputable def lEs (es:List E):TA:=fun σ H Q=>∃ m st ρ,R Z m st H∧cj Z m H σ ρ∧post (kE Z Ex m H) (kA Z m H Q) (xEs Φ es ρ st)
noncomputable def lP (e:E):TO:=fun σ H Q=>∃ m st ρ,R Z m st H∧cj Z m H σ ρ∧post (kE Z Ex m H) (fun d st'=>∃ o,vL e d=some o∧∀ m' H',Go m H m' H'→R Z m' st' H'→Q o H') (xE Φ e ρ st)
noncomputable def lG (t:Tg):TG:=fun v σ H Q=>∃ m st ρ d ρ',R Z m st H∧cj Z m H σ ρ∧bt Z m H v d∧hR t d ρ=some ρ'∧∀ σ',cj Z m H σ' ρ'→Q σ' H
noncomputable def Yl (J:L2.It) (q:Sq) (m0:List Addr) (H0:Hp):Prop:=∀ m st H,Go m0 H0 m H→R Z m st H→∀ i,match q.at st i with
 | none=>True
 | some none=>J.stop i H
 | some (some x)=>J.go i H∧∀ v H',J.yld i H v H'→Go m H m H'∧R Z m st H'∧bt Z m H' v x
noncomputable def lI (it:It):TI:=fun σ H Rr=>∃ m st ρ,R Z m st H∧cj Z m H σ ρ∧post (kE Z Ex m H) (fun q st'=>∀ J m' H',Go m H m' H'→R Z m' st' H'→Yl Z J q m' H'→Rr J H') (xIt Φ it ρ st)
noncomputable def spU (F:List U→Sto→Rs U):Sp:=fun vs H Q E=>∃ m st ds,R Z m st H∧ar Z m H vs ds∧post (fun c st'=>∀ m' H',Go m H m' H'→R Z m' st' H'→E (.ref (Z.cl c)) none H') (kV Z m H Q) (F ds st)
noncomputable def xk:XK:=fun C _ H'=>∃ c,C=.ref (Z.cl c)∧Ex c H'
end
noncomputable def rO (Z:Zt) (Ex:Nat→Hp→Prop) (g:U→U→Sto→Rs U):R2:=fun x y H Q=>∃ m st a b,R Z m st H∧bt Z m H x a∧bt Z m H y b∧Po Z Ex m H Q (g a b st)
noncomputable def rB (Z:Zt) (Ex:Nat→Hp→Prop) (g:List U→Sto→Rs U):List V→Hp→VK→Prop:=fun xs H Q=>∃ m st ds,R Z m st H∧ar Z m H xs ds∧Po Z Ex m H Q (g ds st)
noncomputable abbrev zt (X:Cx) (cl:Nat→Addr):Zt:=⟨X.K,cl⟩
theorem Po.ok {Z:Zt} {Ex:Nat→Hp→Prop} {m:List Addr} {H:Hp} {Q:VK} {d:U} {st:Sto} (h:Po Z Ex m H Q (.ok d st)) (r:R Z m st H) {v:V} (dv:bt Z m H v d):Q v H:=h m H v (Go.refl m H) r dv
theorem Po.new {Z:Zt} {Ex:Nat→Hp→Prop} {m:List Addr} {H:Hp} {Q:VK} {st:Sto} {xs:List U} (h:Po Z Ex m H Q (new st xs)) (r:R Z m st H) {vs:List V} (dv:ar Z m H vs xs) {p:Addr} (hp:H p=none):Q (.ref p) (upd H p (.lst vs)):=by
 obtain ⟨g,r',d'⟩:=r.new hp dv
 exact h _ _ _ g r' d'
theorem Po.tup {Z:Zt} {Ex:Nat→Hp→Prop} {m:List Addr} {H:Hp} {Q:VK} {st:Sto} {xs:List U} (h:Po Z Ex m H Q (.ok (.tup xs) st)) (r:R Z m st H) {vs:List V} (dv:ar Z m H vs xs) {p:Addr} (hp:H p=none):Q (.ref p) (upd H p (.tup vs)):=
 h m _ _ (Go.new r hp) (r.upd hp) (.tup (.inl (.inl cV)) (dv.mono (Go.new r hp)))
noncomputable def trO:Operator→Option Op2
 | .Add=>some .add
 | .Sub=>some .sub
 | .Mult=>some .mul
 | .FloorDiv=>some .fdiv
 | .Mod=>some .mod
 | .Pow=>some .pow
 | _=>none
noncomputable def trC:CmpOp→Option Cm
 | .Eq=>some .eq
 | .NotEq=>some .ne
 | .Lt=>some .lt
 | .LtE=>some .le
 | .Gt=>some .gt
 | .GtE=>some .ge
 | .NotIn=>some .nin
 | _=>none
section
variable {X:Cx} {cl:Nat→Addr} {Ex:Nat→Hp→Prop}
theorem vy {Z:Zt} {m:List Addr} {H:Hp} {st:Sto} (r:R Z m st H) {v:V} {d:U} {xs:List U} (dv:bt Z m H v d) (e:pT st d=some xs) :
   ∃ p vs,v=.ref p∧SqL Z.K H p vs∧ar Z m H vs xs:=by
 cases dv with
 | kl h1 r1=>cases e; exact ⟨_,_,rfl,h1.sq,r1⟩
 | loc h=>
   simp only [pT] at e
   obtain ⟨⟨fz,ys⟩,e1,e2⟩:=Option.map_eq_some_iff.mp e
   cases e2
   obtain ⟨a,vs,f1,f2,f3⟩:=r.at e1
   rw [h] at f1; cases f1
   exact ⟨_,vs,rfl,f2.sq,f3⟩
 | _=>cases e
theorem jE {f:Value→Value→Sem Value} {C:Int→Int→Prop} {g:Int→Int→V} {h:U→U→Sto→Rs U} {h':Int→Int→U} (o:OpR X f (rI C g))
   (sh:∀ a b st,h a b st=.bad∨∃ i j,a=.int i∧b=.int j∧C i j∧h a b st=.ok (h' i j) st) (sd:∀ Z m H i j,bt Z m H (g i j) (h' i j)):OpR X f (rO (zt X cl) Ex h):=by
 intro pins s σ H x y v u Q I rx ry q
 obtain ⟨m,st,a,b,r,dx,dy,q⟩:=q
 rcases sh a b st with e | ⟨i,j,rfl,rfl,c,e⟩
 · rw [e] at q; exact q.elim
 · rw [e] at q
   have e1:=p0 dx
   have e2:=p0 dy
   subst e1 e2
   exact o pins s σ H _ _ v u Q I rx ry ⟨i,j,rfl,rfl,c,q.ok r (sd _ _ _ _ _)⟩
theorem KL:∀ {op:Operator} {o:Op2},trO op=some o→OpR X (binaryOp op) (rO (zt X cl) Ex (ev2 o)):=by
 intro op o h
 cases op <;> simp only [trO.eq_def,Option.some.injEq,reduceCtorEq] at h <;> subst h
 case Add=>
   intro pins s σ H x y v u Q I rx ry q
   obtain ⟨m,st,a,b,r,dx,dy,q⟩:=q
   cases dx <;> first | exact False.elim q | (cases dy <;> first | exact False.elim q | simp only [ev2.eq_def] at q)
   case int.int i j=>exact Ev.Jo pins s σ H _ _ v u Q I rx ry ⟨i,j,rfl,rfl,trivial,q.ok r .int⟩
   case loc.loc a l h1 a2 l2 h2=>
     split at q
     · rename_i xs ys e1 e2
       split at q
       · rename_i hl
         obtain ⟨b,vs,f1,f2,f3⟩:=r.at e1
         obtain ⟨b2,vs2,g1,g2,g3⟩:=r.at e2
         rw [h1] at f1; cases f1
         rw [h2] at g1; cases g1
         have l1:=f3.length
         have l2:=g3.length
         refine Ev.p9 pins s σ H _ _ v u Q I rx ry ⟨_,_,vs,vs2,rfl,rfl,f2.sq,g2.sq,?_,fun z hz=>q.new r (f3.append g3) hz⟩
         have:=Ev.dB
         omega
       · exact q.elim
     · exact q.elim
   case loc.kl a l h1 a2 vs2 ys h2 g3=>
     split at q
     · rename_i xs e1
       split at q
       · rename_i hl
         obtain ⟨b,vs,f1,f2,f3⟩:=r.at e1
         rw [h1] at f1; cases f1
         have l1:=f3.length
         have l2:=g3.length
         refine Ev.p9 pins s σ H _ _ v u Q I rx ry ⟨_,_,vs,vs2,rfl,rfl,f2.sq,h2.sq,?_,fun z hz=>q.new r (f3.append g3) hz⟩
         have:=Ev.dB
         omega
       · exact q.elim
     · exact q.elim
   case kl.loc a vs xs h1 f3 a2 l2 h2=>
     split at q
     · rename_i ys e2
       split at q
       · rename_i hl
         obtain ⟨b2,vs2,g1,g2,g3⟩:=r.at e2
         rw [h2] at g1; cases g1
         have l1:=f3.length
         have l2:=g3.length
         refine Ev.p9 pins s σ H _ _ v u Q I rx ry ⟨_,_,vs,vs2,rfl,rfl,h1.sq,g2.sq,?_,fun z hz=>q.new r (f3.append g3) hz⟩
         have:=Ev.dB
         omega
       · exact q.elim
     · exact q.elim
   case kl.kl a vs xs h1 f3 a2 vs2 ys h2 g3=>
     split at q
     · rename_i hl
       have l1:=f3.length
       have l2:=g3.length
       refine Ev.p9 pins s σ H _ _ v u Q I rx ry ⟨_,_,vs,vs2,rfl,rfl,h1.sq,h2.sq,?_,fun z hz=>q.new r (f3.append g3) hz⟩
       have:=Ev.dB
       omega
     · exact q.elim
 case Sub=>exact jE (h':=fun i j=>.int (i - j)) Ev.IE (fun a b st=>by cases a <;> first | exact .inl rfl | (cases b <;> first | exact .inl rfl | exact .inr ⟨_,_,rfl,rfl,trivial,rfl⟩)) fun _ _ _ _ _=>.int
 case Mult=>
   refine jE (h':=fun i j=>.int (i * j)) Ev.Hi (fun a b st=>?_) fun _ _ _ _ _=>.int
   cases a <;> first | exact .inl rfl | (cases b <;> first | exact .inl rfl | skip)
   simp only [ev2.eq_def]
   split
   · exact .inr ⟨_,_,rfl,rfl,by assumption,rfl⟩
   · exact .inl rfl
 case FloorDiv=>
   refine jE (h':=fun i j=>.int (i.fdiv j)) Ev.Fm (fun a b st=>?_) fun _ _ _ _ _=>.int
   cases a <;> first | exact .inl rfl | (cases b <;> first | exact .inl rfl | skip)
   simp only [ev2.eq_def]
   split
   · exact .inr ⟨_,_,rfl,rfl,by assumption,rfl⟩
   · exact .inl rfl
 case Mod=>
   refine jE (h':=fun i j=>.int (i.fmod j)) Hs (fun a b st=>?_) fun _ _ _ _ _=>.int
   cases a <;> first | exact .inl rfl | (cases b <;> first | exact .inl rfl | skip)
   simp only [ev2.eq_def]
   split
   · exact .inr ⟨_,_,rfl,rfl,by assumption,rfl⟩
   · exact .inl rfl
 case Pow=>
   refine jE (h':=fun i j=>.int (i ^ j.toNat)) Mt (fun a b st=>?_) fun _ _ _ _ _=>.int
   cases a <;> first | exact .inl rfl | (cases b <;> first | exact .inl rfl | skip)
   simp only [ev2.eq_def]
   split
   · exact .inr ⟨_,_,rfl,rfl,by assumption,rfl⟩
   · exact .inl rfl
theorem xO {Z:Zt} {m:List Addr} {H:Hp}:∀ {vs:List V} {ds:List U} {us:List Value} {l:List Int},ar Z m H vs ds→Vals vs us→pD ds=some l→PyProof.Rows.IntsAre us l
 | _,_,_,_,.nil,r,h=>by cases r; cases h; exact .nil
 | _,_,_,_,.cons d ds,r,h=>by
   cases r with
   | cons ra rr=>
     cases d with
     | int=>
       rw [pD] at h
       obtain ⟨l',h1,rfl⟩:=Option.map_eq_some_iff.mp h
       obtain ⟨t,rfl⟩:=ra
       exact .cons _ t (xO ds rr h1)
     | _=>cases h
noncomputable def rC (Z:Zt) (Ex:Nat→Hp→Prop) (o:Cm):R2:=rO Z Ex fun a b st=>ofO (evC o a b st) st
theorem ot (hu:X.A.units + 64 < cLine):∀ {op:CmpOp} {o:Cm},trC op=some o→OpR X (compareOp op) (rC (zt X cl) Ex o):=by
 intro op o h
 have ltB:OpR X (compareOp .Lt) (rI (fun _ _=>True) fun i j=>.bl (decide (i < j))):=fun pins s σ H x y v u Q I rx ry ⟨i,j,h1,h2,_,q⟩=>Og pins s σ H x y v u Q I rx ry ⟨i,j,h1,h2,q⟩
 have leB:OpR X (compareOp .LtE) (rI (fun _ _=>True) fun i j=>.bl (decide (i≤j))):=fun pins s σ H x y v u Q I rx ry ⟨i,j,h1,h2,_,q⟩=>NR pins s σ H x y v u Q I rx ry ⟨i,j,h1,h2,q⟩
 have gtB:OpR X (compareOp .Gt) (rI (fun _ _=>True) fun i j=>.bl (decide (j < i))):=fun pins s σ H x y v u Q I rx ry ⟨i,j,h1,h2,_,q⟩=>OJ pins s σ H x y v u Q I rx ry ⟨i,j,h1,h2,q⟩
 have geB:OpR X (compareOp .GtE) (rI (fun _ _=>True) fun i j=>.bl (decide (j≤i))):=fun pins s σ H x y v u Q I rx ry ⟨i,j,h1,h2,_,q⟩=>Od pins s σ H x y v u Q I rx ry ⟨i,j,h1,h2,q⟩
 cases op <;> simp only [trC.eq_def,Option.some.injEq,reduceCtorEq] at h <;> subst h
 case Eq=>
   intro pins s σ H x y v u Q I rx ry q
   obtain ⟨m,st,a,b,r,dx,dy,q⟩:=q
   simp only [evC.eq_def] at q
   split at q
   · rename_i a' b' e1 e2
     split at q
     · rename_i c
       obtain ⟨as,r1⟩:=Ev.kj I (oM.refl H) (jK r _ dx e1) rx
       obtain ⟨bs,r2⟩:=Ev.kj I (oM.refl H) (jK r _ dy e2) ry
       exact eq_dataH r1 r2 (Ev.jI c.1) (Ev.jI c.2) hu ⟨.bl _,H,I,by rw [Ev.uA]; rfl,Po.ok q r .bl⟩
     · exact q.elim
   · exact q.elim
 case NotEq=>
   intro pins s σ H x y v u Q I rx ry q
   obtain ⟨m,st,a,b,r,dx,dy,q⟩:=q
   simp only [evC.eq_def] at q
   split at q
   · rename_i a' b' e1 e2
     split at q
     · rename_i c
       obtain ⟨as,r1⟩:=Ev.kj I (oM.refl H) (jK r _ dx e1) rx
       obtain ⟨bs,r2⟩:=Ev.kj I (oM.refl H) (jK r _ dy e2) ry
       exact ne_dataH r1 r2 (Ev.jI c.1) (Ev.jI c.2) hu ⟨.bl _,H,I,by rw [Ev.uA]; rfl,Po.ok q r .bl⟩
     · exact q.elim
   · exact q.elim
 case NotIn=>
   intro pins s σ H x y v u Q I rx ry q
   obtain ⟨m,st,a,b,r,dx,dy,q⟩:=q
   cases dx with
   | int=>
     rename_i i
     have e:evC .nin (.int i) b st=match pT st b with | some ys=>(pD ys).map fun l=>!l.any (· == i) | none=>none:=rfl
     dsimp only at q
     rw [e] at q
     cases hl:pT st b with
     | none=>rw [hl] at q; exact q.elim
     | some ys=>
       rw [hl] at q
       dsimp only at q
       cases hs:pD ys with
       | none=>rw [hs] at q; exact q.elim
       | some l=>
         rw [hs] at q
         obtain ⟨p,vs,rfl,h1,h2⟩:=vy r dy hl
         obtain ⟨t,rfl⟩:=rx
         cases ry
         obtain ⟨its,rv,pl,hz⟩:=I.list h1
         exact PyProof.Rows.notin_list_ints pl.isList (xO h2 rv hs) ⟨.bl _,H,I,rfl,Po.ok q r .bl⟩
   | _=>exact q.elim
 case Lt=>exact jE (h':=fun i j=>.bl (decide (i < j))) ltB (fun a b st=>by cases a <;> first | exact .inl rfl | (cases b <;> first | exact .inl rfl | exact .inr ⟨_,_,rfl,rfl,trivial,rfl⟩)) fun _ _ _ _ _=>.bl
 case LtE=>exact jE (h':=fun i j=>.bl (decide (i≤j))) leB (fun a b st=>by cases a <;> first | exact .inl rfl | (cases b <;> first | exact .inl rfl | exact .inr ⟨_,_,rfl,rfl,trivial,rfl⟩)) fun _ _ _ _ _=>.bl
 case Gt=>exact jE (h':=fun i j=>.bl (decide (j < i))) gtB (fun a b st=>by cases a <;> first | exact .inl rfl | (cases b <;> first | exact .inl rfl | exact .inr ⟨_,_,rfl,rfl,trivial,rfl⟩)) fun _ _ _ _ _=>.bl
 case GtE=>exact jE (h':=fun i j=>.bl (decide (j≤i))) geB (fun a b st=>by cases a <;> first | exact .inl rfl | (cases b <;> first | exact .inl rfl | exact .inr ⟨_,_,rfl,rfl,trivial,rfl⟩)) fun _ _ _ _ _=>.bl
end
end Sv
namespace Sv
open PySem PySem.Spec PyProof.Rows L2
open Ev (D aL aT ag j7 kG eH)
section
variable {X:Cx} {cl:Nat→Addr} {Ex:Nat→Hp→Prop}
theorem vm {Z:Zt} {m:List Addr} {H:Hp} {st:Sto} (r:R Z m st H) {v:V} {d:U} {xs:List U} (dv:bt Z m H v d) (e:seq? st d=some xs) :
   ∃ p vs,v=.ref p∧(SqL Z.K H p vs∨(SqT Z.K H p vs∧d=.tup xs))∧ar Z m H vs xs:=by
 cases dv with
 | tup h1 r1=>cases e; exact ⟨_,_,rfl,.inr ⟨h1,rfl⟩,r1⟩
 | kl h1 r1=>cases e; exact ⟨_,_,rfl,.inl h1.sq,r1⟩
 | loc h=>
   simp only [seq?] at e
   obtain ⟨⟨fz,ys⟩,e1,e2⟩:=Option.map_eq_some_iff.mp e
   cases e2
   obtain ⟨a,vs,f1,f2,f3⟩:=r.at e1
   rw [h] at f1; cases f1
   exact ⟨_,vs,rfl,.inl f2.sq,f3⟩
 | _=>cases e
theorem Nm:iP X (.builtin "len") (rB (zt X cl) Ex (evB .len)):=by
 intro pins s σ H xs us Q I r q
 obtain ⟨m,st,ds,rr,dn,q⟩:=q
 match ds,q with
 | [x],q=>
   obtain ⟨v,rfl,dx⟩:=yn dn
   simp only [evB.eq_def] at q
   split at q
   · rename_i ys e
     obtain ⟨p,vs,rfl,h1,h2⟩:=vm rr dx e
     have hl:=h2.length
     refine vc pins s σ H _ us Q I r ⟨p,vs,rfl,h1.imp id fun z=>z.1,?_⟩
     rw [hl]; exact Po.ok q rr .int
   · exact q.elim
theorem L3:iP X (.builtin "abs") (rB (zt X cl) Ex (evB .abs)):=by
 intro pins s σ H xs us Q I r q
 obtain ⟨m,st,ds,rr,dn,q⟩:=q
 match ds,q with
 | [.int i],q=>
   obtain ⟨x,rfl,dx⟩:=yn dn
   cases dx
   exact Dk pins s σ H _ us Q I r ⟨i,rfl,Po.ok q rr .int⟩
theorem M9 (hc:X.calm=true):iP X (.builtin "max") (rB (zt X cl) Ex (evB .max)):=by
 intro pins s σ H xs us Q I r q
 obtain ⟨m,st,ds,rr,dn,q⟩:=q
 match ds,q with
 | [.int i,.int j],q=>
   obtain ⟨x,y,rfl,dx,dy⟩:=OT dn
   cases dx; cases dy
   exact CI hc pins s σ H _ us Q I r ⟨i,j,rfl,Po.ok q rr .int⟩
theorem LZ (hc:X.calm=true):iP X (.builtin "min") (rB (zt X cl) Ex (evB .min)):=by
 intro pins s σ H xs us Q I r q
 obtain ⟨m,st,ds,rr,dn,q⟩:=q
 match ds,q with
 | [.int i,.int j],q=>
   obtain ⟨x,y,rfl,dx,dy⟩:=OT dn
   cases dx; cases dy
   exact Ce hc pins s σ H _ us Q I r ⟨i,j,rfl,Po.ok q rr .int⟩
theorem HE:iP X (.type "list") (rB (zt X cl) Ex (evB .list)):=by
 intro pins s σ H xs us Q I r q
 obtain ⟨m,st,ds,rr,dn,q⟩:=q
 match ds,q with
 | [x],q=>
   obtain ⟨v,rfl,dx⟩:=yn dn
   simp only [evB.eq_def] at q
   split at q
   · rename_i ys e
     obtain ⟨p,vs,rfl,h1,h2⟩:=vm rr dx e
     exact uK pins s σ H _ us Q I r ⟨p,vs,rfl,h1.imp id fun z=>z.1,fun l hl=>Po.new q rr h2 hl⟩
   · exact q.elim
theorem rW {Z:Zt} {m:List Addr} {H:Hp}:∀ {vs:List V} {ds:List U} {us:List Value} {b:Bool},ar Z m H vs ds→Vals vs us→allB ds=some b→(∀ u ∈ us,∃ c,u=Value.bool c)∧b=(List.range us.length).all fun i=>us[i]? == some (Value.bool true)
 | _,_,_,b,.nil,.nil,h=>by
   cases h
   exact ⟨fun u hu=>absurd hu (by simp),rfl⟩
 | _,_,_,b,.cons dv r,.cons rv rs,h=>by
   cases dv with
   | @bl c=>
     rw [allB] at h
     obtain ⟨b',h1,h2⟩:=Option.map_eq_some_iff.mp h
     obtain ⟨i1,i2⟩:=rW r rs h1
     obtain rfl:=(show _=Value.bool c from rv)
     refine ⟨fun u hu=>?_,?_⟩
     · rcases List.mem_cons.mp hu with rfl | hu
       · exact ⟨c,rfl⟩
       · exact i1 u hu
     · rw [← h2,i2,List.length_cons,List.range_succ_eq_map,List.all_cons,List.all_map]
       congr 1
       cases c <;> rfl
   | _=>cases h
theorem MS (hc:X.calm=true):iP X (.builtin "all") (rB (zt X cl) Ex (evB .all)):=by
 intro pins s σ H xs us Q I r q
 obtain ⟨m,st,ds,rr,dn,q⟩:=q
 match ds,q with
 | [x],q=>
   obtain ⟨v,rfl,dx⟩:=yn dn
   simp only [evB.eq_def] at q
   split at q
   · rename_i ys e
     obtain ⟨p,vs,rfl,h1,h2⟩:=vy rr dx e
     cases hb:allB ys with
     | none=>rw [hb] at q; exact q.elim
     | some b=>
       rw [hb] at q
       obtain ⟨u,rfl,ru⟩:=vals1 r
       cases (show u=Value.ref _ from ru)
       obtain ⟨its,rv,p,hz⟩:=I.list h1
       obtain ⟨i1,i2⟩:=rW h2 rv hb
       have lt:∀ a,s.heap.IsList a its.toArray→a ≠ s.heap.objs.size:=fun a ⟨o,z,_⟩=>Nat.ne_of_lt (Heap.lt_size z)
       refine call_all_walk (wpAny_pyIter_list p.isList ⟨_,_,_,_,_,_,fun i=>its[i]? == some (Value.bool true),rfl,Walks.list (A:=X.A.in1) (I.ok.hd hc) _ _ (lt _ p.isList) its.toArray,⟨⟨_,Heap.get?_push_size _ rfl,rfl,rfl⟩,?_⟩,fun i v s' Q' E' hP hQ=>?_,fun h' tk hk=>?_⟩)
       · obtain ⟨o,z1,z2⟩:=p.isList
         exact ⟨o,Heap.get?_push_of_some _ z1,z2⟩
       · have hP':its[i]?=some v:=by simpa using hP
         obtain ⟨c,rfl⟩:=i1 v (List.mem_of_getElem? hP')
         refine wpAny_truthy_bool ?_
         have hQ:Q' (its[i]? == some (Value.bool true)) s':=hQ
         rw [hP'] at hQ
         cases c
         · exact hQ
         · exact hQ
       · have e1:its.toArray.size=its.length:=List.size_toArray
         refine ⟨.bl b,H,I.kept (t':=tk) fun b' o z=>?_,?_,Po.ok q rr .bl⟩
         · refine hk b' o (fun hm=>?_) (Heap.get?_push_of_some _ z)
           have:b'=s.heap.objs.size:=by simpa using hm
           exact absurd (Heap.lt_size z) (by rw [this]; exact Nat.lt_irrefl _)
         · rw [e1,← i2]; rfl
   · exact q.elim
theorem vX {Z:Zt} {m:List Addr} {H:Hp}:∀ ns:List Int,ar Z m H (ns.map V.int) (ns.map U.int)
 | []=>.nil
 | n :: ns=>.cons .int (vX ns)
noncomputable def aP:List Str:=["len","abs","max","min","int","bool","list","tuple","str","isinstance","range","enumerate","all","zip","sorted","sum","any","reversed"]
noncomputable def trT (x:Str):Option Ty:=
 if x = "int" then some .int else if x = "bool" then some .bool else if x = "tuple" then some .tuple else if x = "list" then some .list else if x = "str" then some .str else none
noncomputable def trB (x:Str):Option Bi:=
 if x = "len" then some .len else if x = "abs" then some .abs else if x = "max" then some .max else if x = "min" then some .min else
 if x = "list" then some .list else if x = "all" then some .all else none
theorem NY (hc:X.calm=true) (hb:∀ x ∈ aP,X.mg x=none) {x:Str} {b:Bi} {p pos:Pos} {e:Expr} {es:List Expr} {t:TA} (h:trB x=some b) (hg:Gl X x) (ha:PA X (e :: es) t)
   (he:starEach (e :: es) X.env=(false,eval e X.env) :: starEach es X.env) (hpl:(backTo pos (starEach es X.env)).any (·.1)=false):PE X (.Call (.Name x p) (e :: es) [] pos) (tCB (rB (zt X cl) Ex (evB b)) t):=by
 unfold trB at h
 split at h
 · rename_i q; subst q; cases h
   exact jf Nm hg (hb _ (by simp [aP])) (by decide +kernel) ha (by decide) (by decide) he hpl
 split at h
 · rename_i q; subst q; cases h
   exact jf L3 hg (hb _ (by simp [aP])) (by decide +kernel) ha (by decide) (by decide) he hpl
 split at h
 · rename_i q; subst q; cases h
   exact jf (M9 hc) hg (hb _ (by simp [aP])) (by decide +kernel) ha (by decide) (by decide) he hpl
 split at h
 · rename_i q; subst q; cases h
   exact jf (LZ hc) hg (hb _ (by simp [aP])) (by decide +kernel) ha (by decide) (by decide) he hpl
 split at h
 · rename_i q; subst q; cases h
   exact Cw HE hg (hb _ (by simp [aP])) (by decide +kernel) ha (by decide) (by decide) he hpl
 split at h
 · rename_i q; subst q; cases h
   exact jf (MS hc) hg (hb _ (by simp [aP])) (by decide +kernel) ha (by decide) (by decide) he hpl
 cases h
theorem wj:∀ (us:List Value) (a:Nat),(∀ j v,us[j]?=some v→∃ t,v=Value.int ((a + j:Nat):Int) t)→Vals ((List.range' a us.length).map fun (k:Nat)=>V.int (k:Int)) us
 | [],_,_=>.nil
 | u :: us,a,h=>by
   rw [List.length_cons,List.range'_succ,List.map_cons]
   obtain ⟨t,e⟩:=h 0 u rfl
   exact .cons ⟨t,e⟩ (wj us (a + 1) fun j v hj=>by
     obtain ⟨t,rfl⟩:=h (j + 1) v hj
     exact ⟨t,by congr 1; omega⟩)
theorem MH (hc:X.calm=true) {pins:List (Addr × Obj)} {s:Shared} {σ:L2.St} {H:Hp} {xs:List V} {us:List Value} {Q:VK} (I:Inv X pins σ H s) (r:Vals xs us) (q:rB (zt X cl) Ex (evB .lrg) xs H Q) :
   wpAny (model X.prog X.w) X.A (call (.type "range") us) (fun v s2=>wpAny (model X.prog X.w) X.A (call (.type "list") [v]) (EP X pins σ Q) X.xe s2) X.xe s:=by
 obtain ⟨m,st,ds,rr,dn,q⟩:=q
 match ds,q with
 | [.int n],q=>
   obtain ⟨v,rfl,dx⟩:=yn dn
   cases dx
   simp only [evB.eq_def] at q
   split at q
   · rename_i hl
     obtain ⟨u,rfl,ru⟩:=vals1 r
     obtain ⟨t,rfl⟩:=ru
     have l62:ag < 2 ^ 24:=by decide
     refine call_range_1 ?_
     have I1:Inv X pins σ H { s with heap:=s.heap.push { cls:=.type "range",data:=.fields #[.int 0 s.toks,.int n t,.int 1 (s.toks + 1)] },toks:=s.toks + 1 + 1 }:=I.kept fun b o e=>Heap.get?_push_of_some _ e
     refine call_list_range (n:=n.toNat) (I.ok.hd hc) (IsRange.new _ _ _ _ _ _ _) ?_ ?_ (by omega) fun h' tk acc c kp e' it=>?_
     · exact small_one (by omega) (by omega) (by omega) (by omega)
     · rw [rangeSize_one]; split <;> omega
     · obtain ⟨i1,i2⟩:=it
       have vv:Vals ((List.range n.toNat).map fun (k:Nat)=>V.int (k:Int)) acc.toList:=by
         have:=wj acc.toList 0 fun j v hj=>by
           rw [Array.getElem?_toList] at hj
           obtain ⟨t,rfl⟩:=i2 j v hj
           exact ⟨t,by congr 1; omega⟩
         rw [Array.length_toList,i1,← List.range_eq_range'] at this
         exact this
       refine ⟨.ref _,upd H (s.heap.push { cls:=.type "range",data:=.fields #[.int 0 s.toks,.int n t,.int 1 (s.toks + 1)] }).objs.size (.lst ((List.range n.toNat).map fun (k:Nat)=>V.int (k:Int))),I1.laid (t':=tk) kp (Nat.le_refl _) (show iN X.prog X.w _ h' _ (.lst ((List.range n.toNat).map fun (k:Nat)=>V.int (k:Int))) from ⟨?_,acc.toList,c,vv,?_⟩),rfl,Po.new q rr ?_ (I1.hok.fresh (Nat.le_refl _))⟩
       · rw [List.length_map,List.length_range]
         have:(2:Nat) ^ 24=sizeLine:=rfl
         omega
       · rw [e']
       · have:=vX (Z:=zt X cl) (m:=m) (H:=H) ((List.range n.toNat).map fun (k:Nat)=>(k:Int))
         rw [List.map_map,List.map_map] at this
         exact this
   · exact q.elim
theorem MK (hc:X.calm=true) (hb:∀ x ∈ aP,X.mg x=none) {p p2 pos pos2:Pos} {e:Expr} {t:TA} (hg:Gl X "list") (hg2:Gl X "range") (ha:PA X [e] t)
   (he:starEach [e] X.env=(false,eval e X.env) :: starEach [] X.env):PE X (.Call (.Name "list" p) [.Call (.Name "range" p2) [e] [] pos2] [] pos) (tCB (rB (zt X cl) Ex (evB .lrg)) t):=by
 intro pins s σ H Q I h
 refine wpAny_Call_Name_kw (jC I hg (hb _ (by simp [aP])) (by decide +kernel:bootBuiltins "list" = some (.type "list")) ?_ (by decide) (by decide))
 refine PyProof.Rows.callWith_type1 ?_ rfl rfl
 refine Calls.spliced_cons ?_
 refine wpAny_Call_Name_kw (jC I hg2 (hb _ (by simp [aP])) (by decide +kernel:bootBuiltins "range" = some (.type "range")) ?_ (by decide) (by decide))
 refine PyProof.Rows.callWith_type1 (thn (ha pos2 pins s σ H _ I h) fun us s1 ⟨vs,H1,I1,r1,q1⟩=>?_) he rfl
 exact thn (MH hc I1 r1 q1) fun v s2 z=>Calls.spliced_nil z
noncomputable def tyN:Ty→String
 | .int=>"int" | .bool=>"bool" | .tuple=>"tuple" | .list=>"list" | .str=>"str"
noncomputable def NQ:U→String
 | .non=>"NoneType" | .bl _=>"bool" | .int _=>"int" | .str _=>"str" | .tup _=>"tuple" | .loc _=>"list" | .kl _=>"list" | .exo _=>"NoneType"
theorem LF (K:PySem.W.Frag) (d:U) (t:Ty):PySem.W.kitOne K (.type (NQ d)) (.type (tyN t))=some (B7 t d):=by
 cases d <;> cases t <;> (show PySem.W.kitOne K (.type _) (.type _)=some _) <;> with_unfolding_all rfl
theorem JV (t:Ty):iP X (.builtin "isinstance") (fun xs H Q=>∃ m st x d,R (zt X cl) m st H∧xs=[x,.ty (tyN t)]∧bt (zt X cl) m H x d∧(∀ c,d ≠ .exo c)∧Q (.bl (B7 t d)) H):=by
 intro pins s σ H xs us Q I r q
 obtain ⟨m,st,x,d,rr,rfl,dx,ne,q⟩:=q
 obtain ⟨u,w,rfl,rx,rt⟩:=vals2 r
 cases (show w=Value.type (tyN t) from rt)
 have kt:=LF X.K d t
 have fin:∀ tk,EP X pins σ Q (.bool (B7 t d)) { s with toks:=tk }:=fun tk=>⟨.bl _,H,I.tok _,rfl,q⟩
 cases dx with
 | non=>cases (show u=Value.none from rx); exact PySem.W.kia_one PySem.W.kitx_none I.kIn True.intro kt (fun z=>nomatch z) fin
 | bl=>cases (show u=Value.bool _ from rx); exact PySem.W.kia_one PySem.W.kitx_bool I.kIn True.intro kt (fun z=>nomatch z) fin
 | int=>obtain ⟨t',z⟩:=(show ∃ t,u=Value.int _ t from rx); cases z; exact PySem.W.kia_one PySem.W.kitx_int I.kIn True.intro kt (fun z=>nomatch z) fin
 | str=>obtain ⟨t',z⟩:=(show ∃ t,u=Value.str _ t from rx); cases z; exact PySem.W.kia_one PySem.W.kitx_str I.kIn True.intro kt (fun z=>nomatch z) fin
 | tup h r1=>
   cases (show u=Value.ref _ from rx)
   obtain ⟨its,_,⟨o,h1,h2,_⟩,_⟩:=I.tuple h
   exact PySem.W.kia_one PySem.W.kitx_tuple I.kIn ⟨o,h1,h2⟩ kt (fun z=>nomatch z) fin
 | loc h=>
   cases (show u=Value.ref _ from rx)
   obtain ⟨fz,ds,vs,_,ly,_⟩:=rr.loc h
   obtain ⟨its,_,⟨o,n,h1,h2,_⟩,_⟩:=I.list ly.sq
   exact PySem.W.kia_one PySem.W.kitx_list I.kIn ⟨o,h1,h2⟩ kt (fun z=>nomatch z) fin
 | exo h=>exact absurd rfl (ne _)
 | kl h r1=>
   cases (show u=Value.ref _ from rx)
   obtain ⟨its,_,⟨o,n,h1,h2,_⟩,_⟩:=I.list h.sq
   exact PySem.W.kia_one PySem.W.kitx_list I.kIn ⟨o,h1,h2⟩ kt (fun z=>nomatch z) fin
theorem Oo (hb:∀ x ∈ aP,X.mg x=none) {x:Str} {t:Ty} {p:Pos} (h:trT x=some t) (hg:Gl X x):PE X (.Name x p) (tC (.ty (tyN t))):=by
 unfold trT at h
 split at h
 · rename_i q; subst q; cases h
   exact nP (u:=.type "int") hg (hb _ (by simp [aP])) (by decide +kernel) rfl (by decide) (by decide)
 split at h
 · rename_i q; subst q; cases h
   exact nP (u:=.type "bool") hg (hb _ (by simp [aP])) (by decide +kernel) rfl (by decide) (by decide)
 split at h
 · rename_i q; subst q; cases h
   exact nP (u:=.type "tuple") hg (hb _ (by simp [aP])) (by decide +kernel) rfl (by decide) (by decide)
 split at h
 · rename_i q; subst q; cases h
   exact nP (u:=.type "list") hg (hb _ (by simp [aP])) (by decide +kernel) rfl (by decide) (by decide)
 split at h
 · rename_i q; subst q; cases h
   exact nP (u:=.type "str") hg (hb _ (by simp [aP])) (by decide +kernel) rfl (by decide) (by decide)
 cases h
theorem Io {Z:Zt} {m:List Addr} {H:Hp} {vs:List V} {ds:List U} {i:Int} {d:U} (r:ar Z m H vs ds) (h:atI ds i=some d):∃ v,atI vs i=some v∧bt Z m H v d:=by
 unfold atI at h ⊢
 rw [r.length]
 cases e:ixN ds.length i with
 | none=>rw [e] at h; cases h
 | some j=>
   rw [e] at h
   obtain ⟨v,h1,h2⟩:=r.get (show ds[j]?=some d from h)
   exact ⟨v,h1,h2⟩
theorem Nh:IxR X (rO (zt X cl) Ex evI):=by
 intro value slice pins s σ H x y v u Q I rx ry q hs
 obtain ⟨m,st,a,b,r,dx,dy,q⟩:=q
 unfold evI at q
 split at q
 · rename_i xs i e
   cases dy
   split at q
   · rename_i z hz
     obtain ⟨p,vs,rfl,h1,h2⟩:=vm r dx e
     obtain ⟨w,g1,g2⟩:=Io h2 hz
     rcases h1 with h1 | ⟨h1,_⟩
     · exact Jd value slice pins s σ H _ _ v u Q I rx ry ⟨p,vs,_,w,rfl,rfl,h1,g1,Po.ok q r g2⟩ hs
     · exact KH value slice pins s σ H _ _ v u Q I rx ry ⟨p,vs,_,w,rfl,rfl,h1,g1,Po.ok q r g2⟩ hs
   · exact q.elim
 · exact q.elim
theorem Im {Z:Zt} {m:List Addr} {H:Hp} {vs:List V} {ds:List U} (r:ar Z m H vs ds) (lo hi:Option Int):ar Z m H (B6 vs lo hi) (zE ds lo hi):=by
 unfold B6 zE
 rw [r.length]
 exact (r.drop _).take _
theorem Iy:LC X (fun o i v H Q=>∃ m st a b c,R (zt X cl) m st H∧bt (zt X cl) m H o a∧bt (zt X cl) m H i b∧bt (zt X cl) m H v c∧∃ st',evP a b c st=some st'∧∀ H',Go m H m H'→R (zt X cl) m st' H'→Q H'):=by
 intro pins s σ H o i v ov iv u Q I ro ri rv q
 obtain ⟨m,st,a,b,c,r,dA,db,dc,st',e,q⟩:=q
 unfold evP at e
 split at e
 · rename_i l j
   split at e
   · rename_i xs hs
     obtain ⟨k,hk,rfl⟩:=Option.map_eq_some_iff.mp e
     obtain ⟨p,rfl,hp⟩:=jo dA
     cases db
     obtain ⟨p',vs,f1,f2,f3⟩:=r.at hs
     rw [hp] at f1; cases f1
     unfold Lay at f2
     rw [if_neg (by decide)] at f2
     have hl:=f3.length
     obtain ⟨g,r'⟩:=r.put hp hs (f3.set k dc)
     exact set_list pins s σ H _ _ v ov iv u Q I ro ri rv ⟨_,vs,_,k,rfl,rfl,f2,by rw [hl]; exact hk,q _ g r'⟩
   · cases e
 · cases e
end
end Sv
namespace Sv
open PySem PySem.Spec PyProof.Rows L2
open Ev (D aL aT ag j7 kG eH slot slot_get je jX kH nh jq fy kb aS oS ny PTs nQ oZ De Ite)
structure Tr where
 sc:Scope
 N:List Str
 F:List Str
 cap:List Nat
 cst:List (Str × Int)
noncomputable def iG (T:Tr) (scope:Scope):List (Option Nat):=(kb scope).map fun x=>if (x,NameKind.free) ∈ scope.names then slot T.N x else none
noncomputable def rN (T:Tr) (scope:Scope):Tr:=
 { sc:=jq scope T.sc,N:=kb scope++[("#" : Str)],F:=T.F,cap:=(List.range (iG T scope).length).filter fun j=>((iG T scope).getD j none).isSome,cst:=T.cst }
noncomputable def AE (T:Tr) (scope:Scope):Bool:=
 scope.names.all (fun p=>p.2 != .free || (slot T.N p.1).isSome) && scope.kind == .function && T.sc.kind == .function && scope.names.all (fun p=>p.2 != .local || scope.names.lookup p.1 == some .local) && scope.names.all (fun p=>p.2 != .free || T.sc.names.lookup p.1 == some .cell)
   && scope.names.all (fun p=>p.2 != .free || (!decide ((p.1,NameKind.cell) ∈ scope.names) && !decide ((p.1,NameKind.local) ∈ scope.names))) && decide (kb scope++[("#" : Str)]).Nodup
   && !je (jq scope T.sc) ("#" : Str) && (match (jq scope T.sc).names.lookup ("#" : Str) with | some .free=>false | _=>true)
noncomputable def trV (T:Tr) (x:Str):Option Nat:=
 if je T.sc x=true∧(x == ("__debug__" : Str))=false∧(x == ("__classdict__" : Str))=false then slot T.N x else none
noncomputable def eK (T:Tr):List Expr→Option (List Nat)
 | []=>some []
 | .Name x _ :: r=>(trV T x).bind fun i=>if i ∈ T.cap then none else (eK T r).bind fun is=>some (i :: is)
 | _=>none
noncomputable def nN (T:Tr):Expr→Option Tg
 | .Name x _=>(trV T x).bind fun i=>if i ∈ T.cap then none else some (.nm i)
 | .Tuple es _ _=>(eK T es).bind fun is=>some (.tp is)
 | _=>none
noncomputable def vO:Expr→It→Bool
 | .Tuple _ _ _,_=>true
 | _,.enu _=>false
 | _,.zip _ _=>false
 | _,_=>true
noncomputable def MW (T:Tr) (x:Str):Expr→List Expr→Option Expr
 | .Call (.Name y _) [a] [] _,[]=>if x = "list" ∧ y = "range" ∧ jX T.sc y=true∧slot T.F y=none then some a else none
 | _,_=>none
theorem Dc {T:Tr} {x:Str} {e a:Expr} {es:List Expr} (h:MW T x e es=some a):x = "list" ∧ es=[]∧jX T.sc "range" = true∧∃ p q,e=.Call (.Name "range" p) [a] [] q:=by
 unfold MW at h
 split at h
 · split at h
   · rename_i hh
     obtain ⟨rfl,rfl,h3,_⟩:=hh
     cases h
     exact ⟨rfl,rfl,h3,_,_,rfl⟩
   · cases h
 · cases h
noncomputable def stE (T:Tr) (rE:Tr→Expr→Option E) (rEs:List Expr→Option (List E)) (rP:Option Expr→Option E) (rI:Expr→Option It) (rIf:Tr→List Expr→Option (List E)):Expr→Option E
 | .Name x _=>if jX T.sc x=true∧(x == ("__debug__" : Str))=false then (T.cst.lookup x).bind fun i=>some (.cI i) else (trV T x).bind fun i=>some (.var i)
 | .Constant (.int i) _ _=>some (.cI i)
 | .Constant (.bool b) _ _=>some (.cB b)
 | .Constant .none _ _=>some .cN
 | .Constant (.str x) _ _=>some (.cS x)
 | .BinOp a o b _=>(trO o).bind fun o'=>(rE T a).bind fun a'=>(rE T b).bind fun b'=>some (.op o' a' b')
 | .UnaryOp .USub a _=>(rE T a).bind fun a'=>some (.neg a')
 | .UnaryOp .Not a _=>(rE T a).bind fun a'=>some (.not a')
 | .Compare a [o] [b] _=>
   match o,b with
   | .Is,.Constant (.bool c) _ _=>(rE T a).bind fun a'=>some (.isB false a' c)
   | .IsNot,.Constant (.bool c) _ _=>(rE T a).bind fun a'=>some (.isB true a' c)
   | .Is,.Constant .none _ _=>(rE T a).bind fun a'=>some (.isN false a')
   | .IsNot,.Constant .none _ _=>(rE T a).bind fun a'=>some (.isN true a')
   | o,b=>(trC o).bind fun o'=>(rE T a).bind fun a'=>(rE T b).bind fun b'=>some (.cmp o' a' b')
 | .Compare a [o,p] [b,c] _=>(trC o).bind fun o'=>(trC p).bind fun p'=>(rE T a).bind fun a'=>(rE T b).bind fun b'=>(rE T c).bind fun c'=>some (.chain o' p' a' b' c')
 | .BoolOp _ [a] _=>rE T a
 | .BoolOp .And (a :: b :: r) pos=>(rE T a).bind fun a'=>(rE T (.BoolOp .And (b :: r) pos)).bind fun b'=>some (.and a' b')
 | .BoolOp .Or (a :: b :: r) pos=>(rE T a).bind fun a'=>(rE T (.BoolOp .Or (b :: r) pos)).bind fun b'=>some (.or a' b')
 | .IfExp c a b _=>(rE T c).bind fun c'=>(rE T a).bind fun a'=>(rE T b).bind fun b'=>some (.ite c' a' b')
 | .Tuple es _ _=>(rEs es).bind fun es'=>some (.tup es')
 | .List es _=>(rEs es).bind fun es'=>some (.lst es')
 | .Subscript a (.Slice lo hi none _) _=>(rE T a).bind fun a'=>(rP lo).bind fun l'=>(rP hi).bind fun h'=>some (.sl a' l' h')
 | .Subscript _ (.Slice _ _ (some _) _) _=>none
 | .Subscript a i _=>(rE T a).bind fun a'=>(rE T i).bind fun i'=>some (.ix a' i')
 | .Call (.Name x _) (e :: es) [] _=>
   if jX T.sc x=true∧(x == ("__debug__" : Str))=false then
     match slot T.F x with
     | some k=>(rEs (e :: es)).bind fun es'=>some (.call k es')
     | none=>
       if x = "isinstance" then
         match es with
         | [.Name t _]=>if jX T.sc t=true then (trT t).bind fun ty=>(rE T e).bind fun a'=>some (.isi a' ty) else none
         | _=>none
       else match MW T x e es with
         | some a=>(rEs [a]).bind fun es'=>some (.bi .lrg es')
         | none=>(trB x).bind fun b=>(rEs (e :: es)).bind fun es'=>some (.bi b es')
   else none
 | .ListComp elt [⟨tg,iter,ifs,asy⟩] scope _=>
   if asy=0∧AE T scope=true then
     (nN (rN T scope) tg).bind fun t=>(rI iter).bind fun it=>(rIf (rN T scope) ifs).bind fun fs=>(rE (rN T scope) elt).bind fun e=>
       if vO tg it=true then some (.comp (iG T scope) t it fs e) else none
   else none
 | _=>none
mutual
noncomputable def trE (T:Tr):Nat→Expr→Option E
 | 0,_=>none
 | n + 1,e=>stE T (fun T' e'=>trE T' n e') (fun es=>kh T n es) (fun o=>trP T n o) (fun i=>trI T n i) (fun T' es=>xN T' n es) e
noncomputable def kh (T:Tr):Nat→List Expr→Option (List E)
 | 0,_=>none
 | _ + 1,[]=>some []
 | n + 1,e :: es=>(trE T n e).bind fun e'=>(kh T n es).bind fun es'=>some (e' :: es')
noncomputable def trP (T:Tr):Nat→Option Expr→Option E
 | _,none=>some .cN
 | 0,some _=>none
 | n + 1,some e=>(trE T n e).bind fun e'=>match e' with | .cN=>none | e'=>some e'
noncomputable def xN (T:Tr):Nat→List Expr→Option (List E)
 | _,[]=>some []
 | 0,_ :: _=>none
 | n + 1,[c]=>(trE T n c).bind fun c'=>some [c']
 | _ + 1,_ :: _ :: _=>none
noncomputable def trI (T:Tr):Nat→Expr→Option It
 | 0,_=>none
 | n + 1,.Call (.Name x p) (a :: r) [] pos=>
   if x = "range" ∧ jX T.sc x=true∧slot T.F x=none then
     match r with
     | []=>(trE T n a).bind fun e=>some (.rng e)
     | [b]=>(trE T n a).bind fun e=>(trE T n b).bind fun e2=>some (.rng2 e e2)
     | _=>none
   else if x = "enumerate" ∧ jX T.sc x=true∧slot T.F x=none then
     match r with
     | []=>(trE T n a).bind fun e=>some (.enu e)
     | _=>none
   else if x = "zip" ∧ jX T.sc x=true∧slot T.F x=none then
     match r with
     | [b]=>(trE T n a).bind fun e=>(trE T n b).bind fun e2=>some (.zip e e2)
     | _=>none
   else (trE T n (.Call (.Name x p) (a :: r) [] pos)).bind fun e=>some (.seq e)
 | n + 1,it=>(trE T n it).bind fun e=>some (.seq e)
end
theorem cY {T:Tr} {n:Nat} {e:Expr} {e':E} (h:trE T n e=some e') (es:List Expr) (env:PySem.Env):starEach (e :: es) env=(false,eval e env) :: starEach es env:=by
 cases n with
 | zero=>rw [trE] at h; cases h
 | succ n=>
   cases e with
   | Starred v p=>exact bM (show (none:Option E)=some _ from h)
   | _=>rfl
theorem rf {T:Tr}:∀ {n:Nat} {es:List Expr} {es':List E},kh T n es=some es'→∀ (env:PySem.Env) (pos:Pos),(backTo pos (starEach es env)).any (·.1)=false
 | 0,_,_,h,_,_=>by rw [kh] at h; cases h
 | _ + 1,[],_,_,_,_=>rfl
 | n + 1,e :: es,_,h,env,pos=>by
   simp only [kh,Option.bind_eq_some_iff] at h
   obtain ⟨e',h1,es',h2,_⟩:=h
   rw [cY h1]
   have q:=rf h2 env pos
   unfold backTo at q ⊢
   rw [List.map_cons,List.any_cons]
   exact q
theorem gW {T:Tr} {n:Nat} {e:Expr} {es:List Expr} {es':List E} (h:kh T n (e :: es)=some es') (env:PySem.Env):starEach (e :: es) env=(false,eval e env) :: starEach es env:=by
 cases n with
 | zero=>rw [kh] at h; cases h
 | succ n=>
   simp only [kh,Option.bind_eq_some_iff,Option.some.injEq] at h
   obtain ⟨z1,z2,_⟩:=h
   exact cY z2 es env
theorem jl {T:Tr} {n:Nat} {e:Expr} {es:List Expr} {es':List E} (h:kh T n (e :: es)=some es') (env:PySem.Env) (pos:Pos):(backTo pos (starEach es env)).any (·.1)=false:=by
 cases n with
 | zero=>rw [kh] at h; cases h
 | succ n=>
   simp only [kh,Option.bind_eq_some_iff,Option.some.injEq] at h
   obtain ⟨z1,z2,z3,z4,_⟩:=h
   exact rf z4 env pos
theorem Mj {T:Tr} {n:Nat} {e:Expr} {e':E} (h:trE T n e=some e') (env:PySem.Env) (x:Value):foldedSetIterable e env x=pure x:=by
 cases n with
 | zero=>rw [trE] at h; cases h
 | succ n=>
   cases e with
   | Set a b c=>exact bM (show (none:Option E)=some _ from h)
   | _=>rfl
structure Cal (P:Program) (w:World) (K:PySem.W.Frag) (mg:Str→Option Value) (base:Heap) (CX:CXT) (cl:Nat→Addr) (k:Nat) (x:Str) (F:List U→Sto→Rs U):Prop where
 ex:∃ (f:Addr) (fd:FuncData) (ps:List Str) (G:List U→Sto→Rs U),
   bK P w K mg base CX k f fd ps (spU ⟨K,cl⟩ G)∧mg x=some (.ref f)∧PySem.W.keepIn K (.ref f)=true∧∀ n:Nat,∃ (dvs:List V) (dus:List Value) (dds:List U),Binds K fd ps dus∧Vals dvs dus∧(∀ m H,ar ⟨K,cl⟩ m H dvs dds)∧∀ ds st,ds.length=n→F ds st=G (ds++dds) st
structure Bg (X:Cx) (T:Tr) (Φ:Fn) (cl:Nat→Addr) (CX:CXT) (Ex:Nat→Hp→Prop) (k:Nat):Prop where
 sc:X.env.scope=T.sc
 nm:X.N=T.N
 nd:T.N.Nodup
 calm:X.calm=true
 room:jY k X.A
 blt:∀ x ∈ aP,X.mg x=none
 cal:∀ i x,T.F[i]?=some x→Cal X.prog X.w X.K X.mg X.base CX cl k x (Φ i)
 fn:∀ (i:Nat) (x:Str),T.N[i]?=some x→i ∉ T.cap→T.sc.names.lookup x=some .cell→X.fn x=true
 cst:∀ x i,T.cst.lookup x=some i→∃ t,X.mg x=some (.int i t)
 cxn:∀ outer H s E e s',(∀ C a H',¬ E C a H')→¬ CX outer H s E e s'
 pas:Passes CX X (xk (zt X cl) Ex)
section
variable {X:Cx} {T:Tr} {Φ:Fn} {cl:Nat→Addr} {CX:CXT} {Ex:Nat→Hp→Prop} {k:Nat}
theorem PE.wk {e:Expr} {t t':TE} (h:PE X e t) (f:∀ σ H Q,t' σ H Q→t σ H Q):PE X e t':=fun pins s σ H Q I q=>h pins s σ H Q I (f σ H Q q)
theorem PT.wk {e:Expr} {t t':TT} (h:PT X e t) (f:∀ σ H Q,t' σ H Q→t σ H Q):PT X e t':=fun pins s σ H Q I q=>h pins s σ H Q I (f σ H Q q)
theorem PW.wk {e:Expr} {t t':TT} (h:PW X e t) (f:∀ σ H Q,t' σ H Q→t σ H Q):PW X e t':=fun wh pins s σ H Q I q=>h wh pins s σ H Q I (f σ H Q q)
theorem PA.wk {e:List Expr} {t t':TA} (h:PA X e t) (f:∀ σ H Q,t' σ H Q→t σ H Q):PA X e t':=fun p pins s σ H Q I q=>h p pins s σ H Q I (f σ H Q q)
theorem PO.wk {e:Option Expr} {t t':TO} (h:PO X e t) (f:∀ σ H Q,t' σ H Q→t σ H Q):PO X e t':=fun pins s σ H Q I q=>h pins s σ H Q I (f σ H Q q)
theorem PI.wk {tg e:Expr} {t t':TI} (h:PI X tg e t) (f:∀ σ H Q,t' σ H Q→t σ H Q):PI X tg e t':=fun pins s σ H Q I q=>h pins s σ H Q I (f σ H Q q)
theorem PG.wk {e:Expr} {t t':TG} (h:PG X e t) (f:∀ v σ H Q,t' v σ H Q→t v σ H Q):PG X e t':=fun pins s σ H v u Q I r q=>h pins s σ H v u Q I r (f v σ H Q q)
theorem PGs.wk {e:List Expr} {t t':TGs} (h:PGs X e t) (f:∀ v σ H Q,t' v σ H Q→t v σ H Q):PGs X e t':=fun pins s σ H v u Q I r q=>h pins s σ H v u Q I r (f v σ H Q q)
theorem OW {tg it:Expr} {w1 w2:TI} (h1:PI X tg it w1) (h2:PI X tg it w2):PI X tg it (fun σ H R=>w1 σ H R∨w2 σ H R):=by
 intro pins s σ H R I h
 rcases h with h | h
 · exact h1 pins s σ H R I h
 · exact h2 pins s σ H R I h
theorem Bg.gl (B:Bg X T Φ cl CX Ex k) {x:Str} (h:jX T.sc x=true):Gl X x:=by
 show X.env.scope.names.lookup x=_
 rw [B.sc]; exact nh h
theorem Bg.vis (B:Bg X T Φ cl CX Ex k) {x:Str} {i:Nat} (h:trV T x=some i):X.N[i]?=some x∧(X.env.scope.names.lookup x=some .local∨X.env.scope.names.lookup x=some .cell)∧(x == ("__debug__" : Str))=false∧(x == ("__classdict__" : Str))=false:=by
 unfold trV at h
 split at h
 · rename_i c
   exact ⟨by rw [B.nm]; exact slot_get h,by rw [B.sc]; exact kH c.1,c.2.1,c.2.2⟩
 · cases h
theorem Bg.sto (B:Bg X T Φ cl CX Ex k) {x:Str} {i:Nat} (h:trV T x=some i) (hc:i ∉ T.cap):X.fn x=true∨X.env.scope.names.lookup x=some .local:=by
 have hv:=(B.vis h).2.1
 rcases hv with z | z
 · exact .inr z
 · refine .inl (B.fn i x ?_ hc (by rw [← B.sc]; exact z))
   unfold trV at h
   split at h
   · exact slot_get h
   · cases h
theorem A1 (B:Bg X T Φ cl CX Ex k):∀ {es:List Expr} {is:List Nat},eK T es=some is→PGs X es (fun vs σ H Q=>∃ m st ρ ds ρ',R (zt X cl) m st H∧cj (zt X cl) m H σ ρ∧ar (zt X cl) m H vs ds∧mz is ds ρ=some ρ'∧∀ σ',cj (zt X cl) m H σ' ρ'→Q σ' H) ∧
   (assignEach es X.env).length=is.length∧(assignEach es X.env).findIdx? (·.1)=none
 | [],is,h=>by
   cases h
   refine ⟨PGs.wk GN ?_,rfl,rfl⟩
   rintro vs σ H Q ⟨m,st,ρ,ds,ρ',r,en,dn,e,q⟩
   cases dn with
   | nil=>cases e; exact ⟨rfl,q _ en⟩
   | cons _ _=>cases e
 | .Name x p :: es,is,h=>by
   simp only [eK,Option.bind_eq_some_iff] at h
   obtain ⟨i,h1,h2⟩:=h
   split at h2
   · cases h2
   · rename_i na
     simp only [Option.bind_eq_some_iff,Option.some.injEq] at h2
     obtain ⟨is',h3,rfl⟩:=h2
     obtain ⟨v1,v2,v3,v4⟩:=B.vis h1
     have nd:X.N.Nodup:=by rw [B.nm]; exact B.nd
     obtain ⟨ih,il,ix⟩:=A1 B h3
     refine ⟨PGs.wk (El (Bo nd v1 v2 (B.sto h1 na)) ih rfl) ?_,?_,?_⟩
     · rintro vs σ H Q ⟨m,st,ρ,ds,ρ',r,en,dn,e,q⟩
       cases dn with
       | nil=>cases e
       | cons d1 dr=>
         rw [mz] at e
         exact ⟨_,_,rfl,m,st,_,_,ρ',r,en.set d1,dr,e,q⟩
     · show (assignEach es X.env).length + 1=_
       rw [il]; rfl
     · show List.findIdx? _ ((false,_) :: assignEach es X.env)=none
       rw [List.findIdx?_cons,ix]; rfl
 | .BoolOp _ _ _ :: _,_,h=>by simp [eK] at h
 | .NamedExpr _ _ _ :: _,_,h=>by simp [eK] at h
 | .BinOp _ _ _ _ :: _,_,h=>by simp [eK] at h
 | .UnaryOp _ _ _ :: _,_,h=>by simp [eK] at h
 | .Lambda _ _ _ _ :: _,_,h=>by simp [eK] at h
 | .IfExp _ _ _ _ :: _,_,h=>by simp [eK] at h
 | .Dict _ _ _ :: _,_,h=>by simp [eK] at h
 | .Set _ _ _ :: _,_,h=>by simp [eK] at h
 | .ListComp _ _ _ _ :: _,_,h=>by simp [eK] at h
 | .SetComp _ _ _ _ :: _,_,h=>by simp [eK] at h
 | .DictComp _ _ _ _ _ :: _,_,h=>by simp [eK] at h
 | .GeneratorExp _ _ _ _ :: _,_,h=>by simp [eK] at h
 | .Await _ _ :: _,_,h=>by simp [eK] at h
 | .Yield _ _ :: _,_,h=>by simp [eK] at h
 | .YieldFrom _ _ :: _,_,h=>by simp [eK] at h
 | .Compare _ _ _ _ :: _,_,h=>by simp [eK] at h
 | .Call _ _ _ _ :: _,_,h=>by simp [eK] at h
 | .FormattedValue _ _ _ _ :: _,_,h=>by simp [eK] at h
 | .JoinedStr _ _ :: _,_,h=>by simp [eK] at h
 | .Constant _ _ _ :: _,_,h=>by simp [eK] at h
 | .Attribute _ _ _ :: _,_,h=>by simp [eK] at h
 | .Subscript _ _ _ :: _,_,h=>by simp [eK] at h
 | .Starred _ _ :: _,_,h=>by simp [eK] at h
 | .List _ _ :: _,_,h=>by simp [eK] at h
 | .Tuple _ _ _ :: _,_,h=>by simp [eK] at h
 | .Slice _ _ _ _ :: _,_,h=>by simp [eK] at h
theorem wQ:∀ {is:List Nat} {ds:List U} {ρ ρ':Env},mz is ds ρ=some ρ'→ds.length=is.length
 | [],[],_,_,_=>rfl
 | _ :: _,_ :: _,_,_,h=>by rw [mz] at h; exact congrArg (· + 1) (wQ h)
theorem sk (B:Bg X T Φ cl CX Ex k) {tg:Expr} {t:Tg} (h:nN T tg=some t):PG X tg (lG (zt X cl) t):=by
 have nd:X.N.Nodup:=by rw [B.nm]; exact B.nd
 cases tg <;> simp only [nN,Option.bind_eq_some_iff,reduceCtorEq] at h
 case Name x p=>
   obtain ⟨i,h1,h2⟩:=h
   split at h2
   · cases h2
   · rename_i na
     cases h2
     obtain ⟨v1,v2,v3,v4⟩:=B.vis h1
     refine PG.wk (Bo nd v1 v2 (B.sto h1 na)) ?_
     rintro v σ H Q ⟨m,st,ρ,d,ρ',r,en,dv,e,q⟩
     rw [hR] at e; cases e
     exact q _ (en.set dv)
 case Tuple es a b=>
   obtain ⟨is,h1,h2⟩:=h
   cases h2
   obtain ⟨g1,g2,g3⟩:=A1 B h1
   refine PG.wk (Nt B.calm g1 g2 g3) ?_
   rintro v σ H Q ⟨m,st,ρ,d,ρ',r,en,dv,e,q⟩
   cases dv with
   | tup h1 r1=>
     rw [hR] at e
     exact ⟨_,_,rfl,h1,by rw [r1.length,wQ e],m,st,ρ,_,ρ',r,en,r1,e,q⟩
   | _=>cases e
theorem Hr {Z:Zt} {m0:List Addr} {H0:Hp} {a:Addr} {l:Nat} (h:m0[l]?=some a):Yl Z (Itl Z.K a) (.lst l) m0 H0:=by
 intro m st H g r i
 obtain ⟨fz,ds,vs,e,ly,dn⟩:=r.loc (kW g.pre h)
 simp only [Sq.at,e,Option.map_some]
 have hl:=dn.length
 cases hx:ds[i]? with
 | none=>exact ⟨vs,ly.sq,by have:=List.getElem?_eq_none_iff.mp hx; omega⟩
 | some x=>
   obtain ⟨v,hv,dv⟩:=dn.get hx
   refine ⟨⟨vs,v,ly.sq,hv⟩,fun y H' ⟨e1,e2⟩=>?_⟩
   subst e1
   have ex:y=v:=by have:=e2 vs ly.sq; rw [hv] at this; exact (Option.some.inj this).symm
   subst ex
   exact ⟨Go.refl m _,r,dv⟩
theorem M4 {Z:Zt} {m0:List Addr} {H0:Hp} {a:Addr} {vs:List V} {xs:List U} (h:SqT Z.K H0 a vs) (d:ar Z m0 H0 vs xs):Yl Z (Itt Z.K a) (.vals xs) m0 H0:=by
 intro m st H g r i
 have h':=goT g h
 have d':=d.mono g
 have hl:=d'.length
 simp only [Sq.at]
 cases hx:xs[i]? with
 | none=>exact ⟨vs,h',by have:=List.getElem?_eq_none_iff.mp hx; omega⟩
 | some x=>
   obtain ⟨v,hv,dv⟩:=d'.get hx
   refine ⟨⟨vs,v,h',hv⟩,fun y H' ⟨e1,e2⟩=>?_⟩
   subst e1
   have ex:y=v:=by have:=e2 vs h'; rw [hv] at this; exact (Option.some.inj this).symm
   subst ex
   exact ⟨Go.refl m _,r,dv⟩
theorem N6 {Z:Zt} {m0:List Addr} {H0:Hp} {a:Addr} {vs:List V} {xs:List U} (h:SqF Z.K H0 a vs) (d:ar Z m0 H0 vs xs):Yl Z (Itl Z.K a) (.vals xs) m0 H0:=by
 intro m st H g r i
 have h':=(goF g h).sq
 have d':=d.mono g
 have hl:=d'.length
 simp only [Sq.at]
 cases hx:xs[i]? with
 | none=>exact ⟨vs,h',by have:=List.getElem?_eq_none_iff.mp hx; omega⟩
 | some x=>
   obtain ⟨v,hv,dv⟩:=d'.get hx
   refine ⟨⟨vs,v,h',hv⟩,fun y H' ⟨e1,e2⟩=>?_⟩
   subst e1
   have ex:y=v:=by have:=e2 vs h'; rw [hv] at this; exact (Option.some.inj this).symm
   subst ex
   exact ⟨Go.refl m _,r,dv⟩
theorem yt:∀ (xs:List U) (k i:Nat),(xg k xs)[i]?=(xs[i]?).map fun x=>.tup [.int ((k + i:Nat):Int),x]
 | [],_,_=>by simp [xg]
 | x :: xs,k,0=>by simp [xg]
 | x :: xs,k,i + 1=>by
   simp only [xg,List.getElem?_cons_succ]
   rw [yt xs (k + 1) i,show k + 1 + i=k + (i + 1) by omega]
theorem Lq {Z:Zt} {m0:List Addr} {H0:Hp} {a:Addr} {vs:List V} {xs:List U} (h:SqF Z.K H0 a vs) (d:ar Z m0 H0 vs xs):Yl Z (Ite Z.K a) (.vals (xg 0 xs)) m0 H0:=by
 intro m st H g r i
 have h':=(goF g h).sq
 have d':=d.mono g
 have hl:=d'.length
 simp only [Sq.at]
 rw [yt,Nat.zero_add]
 cases hx:xs[i]? with
 | none=>exact ⟨vs,h',by have:=List.getElem?_eq_none_iff.mp hx; omega⟩
 | some x=>
   obtain ⟨v,hv,dv⟩:=d'.get hx
   refine ⟨⟨vs,v,h',hv⟩,fun y H' ⟨p,x',hp,e0,e1,e2⟩=>?_⟩
   subst e0 e1
   have ex:x'=v:=by have:=e2 vs h'; rw [hv] at this; exact (Option.some.inj this).symm
   subst ex
   have g':=Go.new r (o:=.tup [.int (i:Nat),x']) hp
   exact ⟨g',r.upd hp,.tup (.inl (.inl cV)) (.cons .int (.cons (dv.mono g') .nil))⟩
theorem y6 (lo:Int) (n i:Nat):(mF lo n)[i]?=if i < n then some (.int (lo + (i:Nat))) else none:=by
 simp only [mF,List.getElem?_map,List.getElem?_range]
 split <;> simp_all
theorem Dg {Z:Zt} {m0:List Addr} {H0:Hp} (lo:Int) (n:Nat):Yl Z (Itr lo n) (.vals (mF lo n)) m0 H0:=by
 intro m st H g r i
 simp only [Sq.at,y6]
 by_cases hi:i < n
 · rw [if_pos hi]
   refine ⟨hi,fun y H' ⟨e1,e2⟩=>?_⟩
   subst e1 e2
   exact ⟨Go.refl m _,r,.int⟩
 · rw [if_neg hi]
   show n≤i
   omega
theorem Lp {Z:Zt} {m0:List Addr} {H0:Hp} {a:Addr} {l:Nat} (h:m0[l]?=some a):Yl Z (Ite Z.K a) (.enu l) m0 H0:=by
 intro m st H g r i
 obtain ⟨fz,ds,vs,e,ly,dn⟩:=r.loc (kW g.pre h)
 simp only [Sq.at,e,Option.map_some]
 have hl:=dn.length
 cases hx:ds[i]? with
 | none=>exact ⟨vs,ly.sq,by have:=List.getElem?_eq_none_iff.mp hx; omega⟩
 | some x=>
   obtain ⟨v,hv,dv⟩:=dn.get hx
   refine ⟨⟨vs,v,ly.sq,hv⟩,fun y H' ⟨p,x',hp,e0,e1,e2⟩=>?_⟩
   subst e0 e1
   have ex:x'=v:=by have:=e2 vs ly.sq; rw [hv] at this; exact (Option.some.inj this).symm
   subst ex
   have g':=Go.new r (o:=.tup [.int (i:Nat),x']) hp
   exact ⟨g',r.upd hp,.tup (.inl (.inl cV)) (.cons .int (.cons (dv.mono g') .nil))⟩
noncomputable def K7 (Z:Zt) (a:Addr) (p:Sq) (m0:List Addr) (H0:Hp):Prop:=∀ m st H,Go m0 H0 m H→R Z m st H→∀ i,match p.at st i with
 | none=>True
 | some none=>∃ vs,SqL Z.K H a vs∧vs.length≤i
 | some (some x)=>∃ vs v,SqL Z.K H a vs∧vs[i]?=some v∧bt Z m H v x
theorem Bb {Z:Zt} {m0:List Addr} {st0:Sto} {H0:Hp} {v:V} {x:U} {p:Sq} (r0:R Z m0 st0 H0) (d:bt Z m0 H0 v x) (e:src st0 x=some p):∃ a,v=.ref a∧(∃ xs,SqL Z.K H0 a xs)∧K7 Z a p m0 H0:=by
 cases d with
 | loc hl=>
   simp only [src] at e
   split at e
   · cases e
     obtain ⟨_,_,vs0,_,ly0,_⟩:=r0.loc hl
     refine ⟨_,rfl,⟨vs0,ly0.sq⟩,?_⟩
     intro m st H g r i
     obtain ⟨fz,ds,vs,e,ly,dn⟩:=r.loc (kW g.pre hl)
     simp only [Sq.at,e,Option.map_some]
     have hl:=dn.length
     cases hx:ds[i]? with
     | none=>exact ⟨vs,ly.sq,by have:=List.getElem?_eq_none_iff.mp hx; omega⟩
     | some x=>
       obtain ⟨v,hv,dv⟩:=dn.get hx
       exact ⟨vs,v,ly.sq,hv,dv⟩
   · cases e
 | kl h1 d1=>
   cases e
   refine ⟨_,rfl,⟨_,h1.sq⟩,?_⟩
   intro m st H g r i
   have h':=(goF g h1).sq
   have d':=d1.mono g
   have hl:=d'.length
   simp only [Sq.at]
   split
   · trivial
   · rename_i hx
     exact ⟨_,h',by have:=List.getElem?_eq_none_iff.mp (Option.some.inj hx); omega⟩
   · rename_i x hx
     obtain ⟨v,hv,dv⟩:=d'.get (Option.some.inj hx)
     exact ⟨_,v,h',hv,dv⟩
 | _=>cases e
theorem Kc {Z:Zt} {m0:List Addr} {H0:Hp} {a b:Addr} {p q:Sq} (sa:K7 Z a p m0 H0) (sb:K7 Z b q m0 H0):Yl Z (Ev.Itz Z.K a b) (.zip p q) m0 H0:=by
 intro m st H g r i
 have ha:=sa m st H g r i
 have hb:=sb m st H g r i
 simp only [Sq.at]
 cases ep:p.at st i with
 | none=>trivial
 | some o=>
   cases eq:q.at st i with
   | none=>trivial
   | some o'=>
     rw [ep] at ha
     rw [eq] at hb
     cases o with
     | none=>
       obtain ⟨vs,h1,h2⟩:=ha
       cases o' with
       | none=>obtain ⟨ws,h3,_⟩:=hb; exact ⟨vs,ws,h1,h3,.inl h2⟩
       | some y=>obtain ⟨ws,w,h3,_⟩:=hb; exact ⟨vs,ws,h1,h3,.inl h2⟩
     | some x=>
       obtain ⟨vs,v,h1,h2,dv⟩:=ha
       cases o' with
       | none=>obtain ⟨ws,h3,h4⟩:=hb; exact ⟨vs,ws,h1,h3,.inr h4⟩
       | some y=>
         obtain ⟨ws,w,h3,h4,dw⟩:=hb
         refine ⟨⟨vs,ws,v,w,h1,h3,h2,h4⟩,fun u H' ⟨p',x',y',hp,e0,e1,e2,e3⟩=>?_⟩
         subst e0 e1
         have ex:x'=v:=by have:=e2 vs h1; rw [h2] at this; exact (Option.some.inj this).symm
         have ey:y'=w:=by have:=e3 ws h3; rw [h4] at this; exact (Option.some.inj this).symm
         subst ex ey
         have g':=Go.new r (o:=.tup [x',y']) hp
         exact ⟨g',r.upd hp,.tup (.inl (.inl cV)) (.cons (dv.mono g') (.cons (dw.mono g') .nil))⟩
end
end Sv
namespace Sv
open PySem PySem.Spec PyProof.Rows L2
open Ev (D aL aT ag j7 kG eH slot slot_get je jX kH nh jq fy kb aS oS ny PTs nQ oZ De Ite de)
section
variable {X:Cx} {T:Tr} {Φ:Fn} {cl:Nat→Addr} {CX:CXT} {Ex:Nat→Hp→Prop} {k:Nat}
theorem xp {a b:Bool} (h:(a && b)=true):a=true∧b=true:=by rw [Bool.and_eq_true] at h; exact h
theorem Ja {T:Tr} {scope:Scope} {j i:Nat} (h:(iG T scope)[j]?=some (some i)):∃ x,(kb scope)[j]?=some x∧T.N[i]?=some x∧(x,NameKind.free) ∈ scope.names:=by
 unfold iG at h
 rw [List.getElem?_map] at h
 cases e:(kb scope)[j]? with
 | none=>rw [e] at h; cases h
 | some x=>
   rw [e] at h
   have h':(if (x,NameKind.free) ∈ scope.names then slot T.N x else none)=some i:=Option.some.inj h
   split at h'
   · rename_i hm
     exact ⟨x,rfl,slot_get h',hm⟩
   · cases h'
structure D4 (T:Tr) (scope:Scope):Prop where
 slt:∀ x,(x,NameKind.free) ∈ scope.names→(slot T.N x).isSome=true
 kind:scope.kind=.function
 tk:T.sc.kind=.function
 loc:∀ x ∈ scope.names,x.2=.local→scope.names.lookup x.1=some .local
 fre:∀ x ∈ scope.names,x.2=.free→T.sc.names.lookup x.1=some .cell
 one:∀ x,(x,NameKind.free) ∈ scope.names→(x,NameKind.cell) ∉ scope.names
 nob:∀ x,(x,NameKind.free) ∈ scope.names→(x,NameKind.local) ∉ scope.names
 nd:(kb scope++[("#" : Str)]).Nodup
 vis:¬ Vis (jq scope T.sc) ("#" : Str)
theorem yA {T:Tr} {scope:Scope} (h:AE T scope=true):D4 T scope:=by
 unfold AE at h
 obtain ⟨h,h9⟩:=xp h
 obtain ⟨h,h8⟩:=xp h
 obtain ⟨h,h6⟩:=xp h
 obtain ⟨h,h5⟩:=xp h
 obtain ⟨h,h4⟩:=xp h
 obtain ⟨h,h3⟩:=xp h
 obtain ⟨h,h2⟩:=xp h
 obtain ⟨h0,h1⟩:=xp h
 rw [List.all_eq_true] at h0 h3 h4 h5
 refine ⟨fun x hx=>by simpa using h0 _ hx,eq_of_beq h1,eq_of_beq h2,fun x hx hk=>?_,fun x hx hk=>?_,fun x hx hm=>?_,fun x hx hm=>?_,of_decide_eq_true h6,fun hv=>?_⟩
 · have:=h3 x hx
   rw [hk] at this
   simpa using this
 · have:=h4 x hx
   rw [hk] at this
   simpa using this
 · have:=h5 _ hx
   simp [hm] at this
 · have:=h5 _ hx
   simp [hm] at this
 · rcases hv with hv | hv | hv
   · unfold je at h8; rw [hv] at h8; simp at h8
   · unfold je at h8; rw [hv] at h8; simp at h8
   · rw [hv] at h9; simp at h9
theorem EJ (B:Bg X T Φ cl CX Ex k) {scope:Scope} (b:D4 T scope):ny X scope (rN T scope).N (iG T scope) where
 kind:=b.kind
 loc:=b.loc
 fre:=fun x hx hk=>by
   show X.env.scope.names.lookup x.1=_
   rw [B.sc]; exact b.fre x hx hk
 one:=b.one
 noboth:=b.nob
 len:=by
   show (kb scope++[("#" : Str)]).length=_
   unfold iG
   rw [List.length_append,List.length_map]; rfl
 cap:=fun j i h=>by
   obtain ⟨x,h1,h2,h3⟩:=Ja h
   refine ⟨x,?_,by rw [B.nm]; exact h2,h3⟩
   show (kb scope++[("#" : Str)])[j]?=some x
   rw [List.getElem?_append_left (List.getElem?_eq_some_iff.mp h1).1]; exact h1
 acc:=by
   refine ⟨("#" : Str),?_,by rw [fy B.sc]; exact b.vis⟩
   show (kb scope++[("#" : Str)])[(iG T scope).length]?=_
   unfold iG
   rw [List.length_map,List.getElem?_append_right (Nat.le_refl _),Nat.sub_self]
   rfl
theorem KI {X':Cx} {Z:Zt} (h:∀ outer H s E e s',(∀ C a H',¬ E C a H')→¬ CX outer H s E e s'):Passes CX X' (xk Z fun _ _=>False):=fun _ _ _ _ _ _ _ q=>absurd q (h _ _ _ _ _ _ fun _ _ _ ⟨_,_,z⟩=>z)
theorem Gq (B:Bg X T Φ cl CX Ex k) {scope:Scope} (b:D4 T scope) (s:Shared) (H:Hp) (fp:List Addr):Bg (aS X s H scope (rN T scope).N fp) (rN T scope) Φ cl CX (fun _ _=>False) k where
 sc:=fy B.sc
 nm:=rfl
 nd:=b.nd
 calm:=B.calm
 room:=B.room
 blt:=B.blt
 cal:=B.cal
 cst:=B.cst
 cxn:=B.cxn
 pas:=KI B.cxn
 fn:=fun i x hx hc hl=>by
   show decide _=true
   refine decide_eq_true ?_
   have hfk:∀ y,(y,NameKind.free) ∈ scope.names→X.env.kindOf y=some .cell:=fun y hy=>by
     show X.env.scope.names.lookup y=_
     rw [B.sc]; exact b.fre _ hy rfl
   have hl':(relabel scope X.env).names.lookup x=some .cell:=by rw [fy B.sc]; exact hl
   rcases de hfk (by rw [B.sc]; exact b.tk) hl' with q | q
   · exact q
   · exfalso
     have hx':(kb scope++[("#" : Str)])[i]?=some x:=hx
     have il:i < (kb scope).length:=by
       rcases Nat.lt_or_ge i (kb scope).length with z | z
       · exact z
       · exfalso
         have e0:i=(kb scope).length:=by
           have:=(List.getElem?_eq_some_iff.mp hx').1
           rw [List.length_append,List.length_singleton] at this
           omega
         rw [e0,List.getElem?_append_right (Nat.le_refl _),Nat.sub_self] at hx'
         have ex:x=("#" : Str):=(Option.some.inj hx').symm
         rw [ex] at hl
         exact b.vis (.inr (.inl hl))
     rw [List.getElem?_append_left il] at hx'
     cases hs:slot T.N x with
     | none=>
       have:=b.slt x q.1
       rw [hs] at this; cases this
     | some j=>
       have hc':(iG T scope)[i]?=some (some j):=by
         unfold iG
         rw [List.getElem?_map,hx']
         show some (if (x,NameKind.free) ∈ scope.names then slot T.N x else none)=_
         rw [if_pos q.1,hs]
       apply hc
       show i ∈ (List.range (iG T scope).length).filter _
       rw [List.mem_filter,List.mem_range]
       refine ⟨by unfold iG; rw [List.length_map]; exact il,?_⟩
       rw [List.getD_eq_getElem?_getD,hc']
       rfl
theorem xW {ρ:Env} {caps:List (Option Nat)} {j:Nat} {d:U} (h:(ky ρ caps++[none])[j]?=some (some d)):∃ i,j < caps.length∧caps[j]?=some (some i)∧ρ[i]?=some (some d):=by
 have cl:(ky ρ caps).length=caps.length:=by unfold ky; rw [List.length_map]
 rcases Nat.lt_or_ge j caps.length with z | z
 · rw [List.getElem?_append_left (by rw [cl]; exact z)] at h
   unfold ky at h
   rw [List.getElem?_map] at h
   cases e:caps[j]? with
   | none=>rw [e] at h; cases h
   | some o=>
     rw [e] at h
     have h':(o.bind fun i=>(ρ[i]?).join)=some d:=Option.some.inj h
     cases o with
     | none=>cases h'
     | some i=>
       refine ⟨i,z,rfl,?_⟩
       have h2:(ρ[i]?).join=some d:=h'
       cases q:ρ[i]? with
       | none=>rw [q] at h2; cases h2
       | some y=>rw [q] at h2; exact congrArg some h2
 · rw [List.getElem?_append_right (by rw [cl]; exact z)] at h
   have:=List.mem_of_getElem? h
   simp at this
theorem Cp {Z:Zt} {m:List Addr} {H:Hp} {σ:L2.St} {ρ:Env} {caps:List (Option Nat)} {D0:Addr} (en:cj Z m H σ ρ):cj Z m H (oS σ caps++[some (.ref D0)]) (ky ρ caps++[none]):=by
 refine ⟨by unfold oS ky; simp,fun j d h=>?_⟩
 obtain ⟨i,hj,e1,e2⟩:=xW h
 obtain ⟨v,g1,g2⟩:=en.get i d e2
 refine ⟨v,?_,g2⟩
 rw [List.getElem?_append_left (by unfold oS; rw [List.length_map]; exact hj)]
 unfold oS
 rw [List.getElem?_map,e1]
 show some ((σ[i]?).join)=_
 rw [g1]; rfl
theorem t6:∀ {is:List Nat} {ds:List U} {ρ ρ':Env},mz is ds ρ=some ρ'→ρ'.length=ρ.length∧∀ (i:Nat),i ∉ is→ρ'[i]?=ρ[i]?
 | [],[],_,_,h=>by cases h; exact ⟨rfl,fun _ _=>rfl⟩
 | j :: is,x :: xs,ρ,ρ',h=>by
   rw [mz] at h
   obtain ⟨h1,h2⟩:=t6 h
   refine ⟨by rw [h1,List.length_set],fun i hi=>?_⟩
   rw [h2 i (fun z=>hi (List.mem_cons_of_mem _ z)),List.getElem?_set_ne (fun z=>hi (by rw [z]; exact List.mem_cons_self))]
noncomputable def tgS:Tg→List Nat
 | .nm i=>[i]
 | .tp is=>is
theorem Ck {t:Tg} {d:U} {ρ ρ':Env} (h:hR t d ρ=some ρ'):ρ'.length=ρ.length∧∀ (i:Nat),i ∉ tgS t→ρ'[i]?=ρ[i]?:=by
 cases t with
 | nm j=>
   rw [hR] at h; cases h
   refine ⟨List.length_set,fun i hi=>List.getElem?_set_ne (fun z=>hi (by subst z; exact List.mem_singleton_self _))⟩
 | tp is=>
   cases d <;> rw [hR] at h <;> first | cases h | exact t6 h | (intros; simp_all)
theorem xX {T:Tr}:∀ {es:List Expr} {is:List Nat},eK T es=some is→∀ i ∈ is,i ∉ T.cap
 | [],_,h=>by cases h; exact fun i hi=>absurd hi (by simp)
 | e :: es,is,h=>by
   cases e <;> simp only [eK,Option.bind_eq_some_iff,reduceCtorEq] at h
   obtain ⟨i,h1,h2⟩:=h
   split at h2
   · cases h2
   · rename_i na
     simp only [Option.bind_eq_some_iff,Option.some.injEq] at h2
     obtain ⟨is',h3,rfl⟩:=h2
     intro j hj
     rcases List.mem_cons.mp hj with rfl | hj
     · exact na
     · exact xX h3 j hj
theorem LB {T:Tr} {tg:Expr} {t:Tg} (h:nN T tg=some t):∀ i ∈ tgS t,i ∉ T.cap:=by
 cases tg <;> simp only [nN,Option.bind_eq_some_iff,reduceCtorEq] at h
 case Name x p=>
   obtain ⟨i,h1,h2⟩:=h
   split at h2
   · cases h2
   · rename_i na
     cases h2
     intro j hj
     rw [show j=i from List.mem_singleton.mp hj]; exact na
 case Tuple es a b=>
   obtain ⟨is,h1,h2⟩:=h
   cases h2
   exact xX h1
theorem HI {T:Tr} {scope:Scope} {tg:Expr} {t:Tg} {ρ:Env} (h:nN (rN T scope) tg=some t) {i:Nat} {d:U} (e:(ky ρ (iG T scope)++[none])[i]?=some (some d)):i ∉ tgS t:=fun hi=>by
 refine LB h i hi ?_
 obtain ⟨j,hl,e1,_⟩:=xW e
 show i ∈ (List.range (iG T scope).length).filter _
 rw [List.mem_filter,List.mem_range]
 refine ⟨hl,?_⟩
 rw [List.getD_eq_getElem?_getD,e1]; rfl
theorem Go.pB {m m':List Addr} {H H':Hp} (g:Go m H m' H') {p:Addr} {o:HO} (hp:p ∉ m) (h:H p=some o):p ∉ m':=fun z=>by
 obtain ⟨l,hl⟩:=List.getElem?_of_mem z
 rcases Nat.lt_or_ge l m.length with q | q
 · exact hp (List.mem_of_getElem? (zr g.pre q hl))
 · rw [g.fr l p q hl] at h; cases h
theorem Go.side {m m':List Addr} {H H':Hp} (g:Go m H m' H') {p:Addr} {o:HO} (hp:H p=none):Go m H m' (upd H' p o):=by
 refine ⟨g.pre,fun b u e hn=>?_,fun b e=>?_,g.fr⟩
 · rw [aF (aG e hp)]; exact g.kp b u e hn
 · unfold L2.upd at e
   split at e
   · cases e
   · exact g.tr b e
theorem R.adopt {Z:Zt} {m:List Addr} {st:Sto} {H:Hp} (r:R Z m st H) {p:Addr} {vs:List V} {ds:List U} (hp:p ∉ m) (h:H p=some (.lst vs)) (dn:ar Z m H vs ds) :
   R Z (m++[p]) (st++[(false,ds)]) H∧bt Z (m++[p]) H (.ref p) (.loc st.length):=by
 have up:∀ {vs:List V} {ds:List U},ar Z m H vs ds→ar Z (m++[p]) H vs ds:=fun {vs ds} d=>by
   refine ar.rec (motive_1:=fun v d _=>bt Z (m++[p]) H v d) (motive_2:=fun ws es _=>ar Z (m++[p]) H ws es) .non .bl .int .str (fun h _ ih=>.tup h ih) (fun h=>.loc (kW (List.prefix_append m [p]) h)) (fun h=>.exo h) (fun h _ ih=>.kl h ih) .nil (fun _ _ i1 i2=>.cons i1 i2) d
 have hl:(m++[p])[st.length]?=some p:=by rw [← r.len,List.getElem?_append_right (Nat.le_refl _),Nat.sub_self]; rfl
 refine ⟨⟨by rw [List.length_append,List.length_append,r.len]; rfl,fun i j a e1 e2=>?_,fun l a fz es e1 e2=>?_⟩,.loc hl⟩
 · have key:∀ (i:Nat) a,(m++[p])[i]?=some a→(m[i]?=some a∧a ≠ p)∨(i=m.length∧a=p):=fun i a e=>by
     rcases Nat.lt_or_ge i m.length with q | q
     · rw [List.getElem?_append_left q] at e
       exact .inl ⟨e,fun z=>hp (z ▸ List.mem_of_getElem? e)⟩
     · have hi:=(List.getElem?_eq_some_iff.mp e).1
       rw [List.length_append,List.length_singleton] at hi
       rw [List.getElem?_append_right q] at e
       have:=List.mem_of_getElem? e
       rw [List.mem_singleton] at this
       exact .inr ⟨by omega,this⟩
   rcases key i a e1 with ⟨q1,q2⟩ | ⟨q1,q2⟩ <;> rcases key j a e2 with ⟨w1,w2⟩ | ⟨w1,w2⟩
   · exact r.inj i j a q1 w1
   · exact absurd w2 q2
   · exact absurd q2 w2
   · rw [q1,w1]
 · rcases Nat.lt_or_ge l m.length with q | q
   · rw [List.getElem?_append_left q] at e1
     rw [List.getElem?_append_left (by rw [← r.len]; exact q)] at e2
     obtain ⟨ws,h1,h2⟩:=r.obj l a fz es e1 e2
     exact ⟨ws,h1,up h2⟩
   · have hi:=(List.getElem?_eq_some_iff.mp e1).1
     rw [List.length_append,List.length_singleton] at hi
     obtain rfl:l=m.length:=by omega
     rw [List.getElem?_append_right (Nat.le_refl _),Nat.sub_self] at e1
     rw [r.len,List.getElem?_append_right (Nat.le_refl _),Nat.sub_self] at e2
     cases e1; cases e2
     exact ⟨vs,by unfold Lay; rw [if_neg (by decide)]; exact h,up dn⟩
theorem Go.adopt {m m':List Addr} {H H':Hp} (g:Go m H m' H') {p:Addr} (hp:H p=none):Go m H (m'++[p]) H':=by
 refine ⟨g.pre.trans (List.prefix_append m' [p]),g.kp,g.tr,fun l a hl e=>?_⟩
 rcases Nat.lt_or_ge l m'.length with q | q
 · rw [List.getElem?_append_left q] at e; exact g.fr l a hl e
 · rw [List.getElem?_append_right q] at e
   have:=List.mem_of_getElem? e
   rw [List.mem_singleton] at this
   rw [this]; exact hp
structure Snd (X:Cx) (T:Tr) (Φ:Fn) (cl:Nat→Addr) (Ex:Nat→Hp→Prop) (n:Nat):Prop where
 e:∀ pe e,trE T n pe=some e→PE X pe (lE (zt X cl) Φ Ex e)∧PT X pe (lT (zt X cl) Φ Ex e)
 w:∀ op vs pos e,trE T n (.BoolOp op vs pos)=some e→PW X (.BoolOp op vs pos) (lT (zt X cl) Φ Ex e)
 a:∀ es es',kh T n es=some es'→PA X es (lEs (zt X cl) Φ Ex es')
 p:∀ e e',trP T n e=some e'→PO X e (lP (zt X cl) Φ Ex e')
 f:∀ es es',xN T n es=some es'→PTs X es (lIf (zt X cl) Φ Ex es')
 i:∀ tg it it',trI T n it=some it'→vO tg it'=true→PI X tg it (lI (zt X cl) Φ Ex it')∧∀ x,foldedSetIterable it X.env x=pure x
theorem AU {scope:Scope} {tg:Expr} {t:Tg} {it:It} {fs:List E} {e:E} (h1:nN (rN T scope) tg=some t):∀ σ H Q,lE (zt X cl) Φ Ex (.comp (iG T scope) t it fs e) σ H Q →
   oZ (fun g tt te=>g=lG (zt X cl) t∧tt=lIf (zt X cl) Φ (fun _ _=>False) fs∧te=lE (zt X cl) Φ (fun _ _=>False) e) (iG T scope) (lI (zt X cl) Φ Ex it) σ H Q:=by
 rintro σ H Q ⟨m,st,ρ,r,en,h⟩
 simp only [xE] at h
 refine ⟨m,st,ρ,r,en,aq (az h) (fun _ _ z=>z) fun q st1 _ hq J m1 H1 g1 r1 yl=>?_⟩
 split at hq
 · rename_i hlx
   have hq:=az (sf hq)
   refine ⟨_,_,_,⟨rfl,rfl,rfl⟩,fun D0 hD=>?_⟩
   have rD:=r1.upd (o:=.lst []) hD
   have gD:=Go.new r1 (o:=.lst []) hD
   generalize hf:(fun (x:U) (st:Sto)=>match hR t x (ky ρ (iG T scope)++[none]) with
       | none=>(Rs.bad:Rs (Option U))
       | some ρ1=>(xIf Φ fs ρ1 st).bind fun b st2=>if b=true then (xE Φ e ρ1 st2).bind fun y st3=>.ok (some y) st3 else .ok none st2)=f at hq
   refine ⟨fun i n σ' H'=>∃ m' st' us vs,R (zt X cl) m' st' H'∧D0 ∉ m'∧Go m1 H1 m' H'∧cj (zt X cl) m' H' σ' (ky ρ (iG T scope)++[none])∧H' D0=some (.lst vs)∧ar (zt X cl) m' H' vs us∧us.length≤i∧i + n=q.len st1 + 1 ∧
     post (fun _ _=>False) (fun rest st2=>post (fun _ _=>False) (kV (zt X cl) m H Q) (new st2 (us++rest))) (iJ f q n i st'),⟨q.len st1 + 1,m1,st1,[],[],rD,r1.out hD,gD,Cp (en.mono (g1.trans gD)),cV,.nil,Nat.le_refl _,by omega,hq⟩,?_⟩
   rintro i n σ' H' ⟨m',st',us,vs,r',hDm,g',en',hv,du,hul,hin,hc⟩
   cases n with
   | zero=>exact hc.elim
   | succ n=>
     rw [iJ] at hc
     have yi:=yl m' st' H' g' r' i
     split at hc
     · exact hc.elim
     · rename_i hat
       rw [hat] at yi
       refine .inl ⟨yi,?_⟩
       have hc:post (fun _ _=>False) (kV (zt X cl) m H Q) (new st' (us++[])):=hc
       rw [List.append_nil] at hc
       obtain ⟨ra,da⟩:=r'.adopt hDm hv du
       exact hc _ H' _ (g1.trans (g'.adopt hD)) ra da
     · rename_i x hat
       rw [hat] at yi
       refine .inr ⟨yi.1,fun v H2 hy=>?_⟩
       obtain ⟨g2,r2,dv⟩:=yi.2 v H2 hy
       have hc:=az hc
       subst hf
       dsimp only at hc
       split at hc
       · exact hc.elim
       · rename_i ρ1 hset
         have hv2:=g2.kp _ _ hv (.inl hDm)
         refine ⟨m',st',_,x,ρ1,r2,en'.mono g2,dv,hset,fun σ2 en2=>?_⟩
         have less:∀ {m3:List Addr} {H3:Hp},cj (zt X cl) m3 H3 σ2 ρ1→cj (zt X cl) m3 H3 σ2 (ky ρ (iG T scope)++[none]):=fun z=>by
           obtain ⟨l1,l2⟩:=Ck hset
           exact ⟨by rw [z.len,l1],fun j d hj=>z.get j d (by rw [l2 j (HI h1 hj)]; exact hj)⟩
         refine ⟨m',st',ρ1,r2,en2,aq (az hc) (fun _ _ z=>z.elim) fun bb st2 _ hb m2 H4 g3 r3=>?_⟩
         have hv4:=g3.kp _ _ hv2 (.inl hDm)
         have hD4:=g3.pB hDm hv2
         cases bb with
         | false=>
           rw [if_neg (by decide)] at hb
           have hb:=az hb
           refine tD ⟨n,Nat.lt_succ_self n,m2,st2,us,vs,r3,hD4,(g'.trans g2).trans g3,less (en2.mono g3),hv4,du.mono (g2.trans g3),by omega,by omega,?_⟩
           exact aq hb (fun _ _ z=>z) fun rest st3 _ z=>z
         | true=>
           rw [if_pos rfl] at hb
           refine sC ⟨m2,st2,ρ1,r3,en2.mono g3,aq (az hb) (fun _ _ z=>z.elim) fun y st3 _ hy m3 H5 w g4 r4 dw=>?_⟩
           have hv5:=g4.kp _ _ hv4 (.inl hD4)
           have hD5:=g4.pB hD4 hv4
           have hy:=az hy
           have g5:=(((g'.trans g2).trans g3).trans g4)
           obtain ⟨r5,k5⟩:=r4.side (vs:=vs++[w]) hv5 hD5
           have ks:∀ {ws:List V} {es:List U},ar (zt X cl) m3 H5 ws es→ar (zt X cl) m3 (upd H5 D0 (.lst (vs++[w]))) ws es:=fun {ws es} z=>by
             induction ws generalizing es with
             | nil=>cases z; exact .nil
             | cons a ws ih=>cases z with | cons z1 z2=>exact .cons (k5 z1) (ih z2)
           have l5:=du.length
           have le:us.length≤i:=hul
           refine ⟨vs,n,hv5,?_,Nat.lt_succ_self n,m3,st3,us++[y],vs++[w],r5,hD5,g5.side hD,?_,cV,(ks (du.mono ((g2.trans g3).trans g4))).append (.cons (k5 dw) .nil),by rw [List.length_append,List.length_singleton]; omega,by omega,?_⟩
           · have:=Ev.dB; omega
           · have z:=less (en2.mono (g3.trans g4))
             exact ⟨z.len,fun j d hj=>let ⟨v',e1,e2⟩:=z.get j d hj; ⟨v',e1,k5 e2⟩⟩
           · refine aq hy (fun _ _ z=>z) fun rest st4 _ z=>?_
             have z:post (fun _ _=>False) (kV (zt X cl) m H Q) (new st4 (us++y :: rest)):=z
             rw [List.append_assoc]; exact z
 · exact hq.elim
theorem ER {n:Nat} (B:Bg X T Φ cl CX Ex k) (S:Snd X T Φ cl Ex n) (IH:∀ {X:Cx} {T:Tr} {Ex:Nat→Hp→Prop},Bg X T Φ cl CX Ex k→Snd X T Φ cl Ex n) {elt tg iter:Expr} {ifs:List Expr} {scope:Scope} {pos:Pos} {t:Tg} {it:It} {fs:List E} {e:E}
   (hb:AE T scope=true) (h1:nN (rN T scope) tg=some t) (h2:trI T n iter=some it) (h3:xN (rN T scope) n ifs=some fs) (h4:trE (rN T scope) n elt=some e) (ho:vO tg it=true) :
   PE X (.ListComp elt [⟨tg,iter,ifs,0⟩] scope pos) (lE (zt X cl) Φ Ex (.comp (iG T scope) t it fs e)):=by
 have b:=yA hb
 obtain ⟨hi,hs⟩:=S.i tg iter it h2 ho
 refine PE.wk (nQ (In:=fun g tt te=>g=lG (zt X cl) t∧tt=lIf (zt X cl) Φ (fun _ _=>False) fs∧te=lE (zt X cl) Φ (fun _ _=>False) e) B.calm (EJ B b) hi hs ?_) ?_
 · rintro g tt te ⟨rfl,rfl,rfl⟩ s H fp
   have B':=Gq B b s H fp
   have S':=IH B'
   exact ⟨sk B' h1,S'.f _ _ h3,(S'.e _ _ h4).1⟩
 · exact AU h1
end
end Sv
namespace Sv
open PySem PySem.Spec PyProof.Rows L2
open Ev (D aL aT ag j7 kG eH slot slot_get je jX kH nh jq fy kb aS oS ny PTs nQ oZ De Ite de vC oE)
section
variable {X:Cx} {T:Tr} {Φ:Fn} {cl:Nat→Addr} {CX:CXT} {Ex:Nat→Hp→Prop} {k:Nat}
theorem PoT.po {Z:Zt} {m:List Addr} {H:Hp} {Q:Bool→Hp→Prop} {x:Rs U} (h:PoT Z Ex m H Q x):Po Z Ex m H (fun v H=>∃ b,v=.bl b∧Q b H) x:=
 aq h (fun _ _ z=>z) fun d st _ ⟨b,e,q⟩ m' H' v g r dv=>by subst e; exact ⟨b,jQ dv,q m' H' g r⟩
theorem di {Z:Zt} {m:List Addr} {st:Sto} {ρ:Env} {H:Hp} {σ:L2.St} {Q Q1:VK} {a:E} {f:U→Sto→Rs U} (r:R Z m st H) (en:cj Z m H σ ρ) (h:Po Z Ex m H Q ((xE Φ a ρ st).bind f))
   (k:∀ x st1 m1 H1 v,Go m H m1 H1→R Z m1 st1 H1→cj Z m1 H1 σ ρ→bt Z m1 H1 v x→Po Z Ex m1 H1 Q (f x st1)→Q1 v H1):lE Z Φ Ex a σ H Q1:=
 ⟨m,st,ρ,r,en,aq (az h) (fun _ _ z=>z) fun x st1 _ hx m1 H1 v g1 r1 dv=>k x st1 m1 H1 v g1 r1 (en.mono g1) dv (Po.sh hx g1)⟩
theorem GY {Z:Zt} {m:List Addr} {st:Sto} {ρ:Env} {H:Hp} {σ:L2.St} {Q:VK} {Q1:Bool→Hp→Prop} {a:E} {f:U→Sto→Rs U} (r:R Z m st H) (en:cj Z m H σ ρ) (h:Po Z Ex m H Q ((xE Φ a ρ st).bind f)) (hf:∀ x st,(∀ b,x ≠ .bl b)→f x st=.bad)
   (k:∀ b st1 m1 H1,Go m H m1 H1→R Z m1 st1 H1→cj Z m1 H1 σ ρ→Po Z Ex m1 H1 Q (f (.bl b) st1)→Q1 b H1):lT Z Φ Ex a σ H Q1:=
 ⟨m,st,ρ,r,en,aq (az h) (fun _ _ z=>z) fun x st1 _ hx=>by
   cases x with
   | bl b=>exact ⟨b,rfl,fun m1 H1 g1 r1=>k b st1 m1 H1 g1 r1 (en.mono g1) (Po.sh hx g1)⟩
   | _=>rw [hf _ _ (by intro b z; cases z)] at hx; exact hx.elim⟩
theorem nD {Z:Zt} {m:List Addr} {st:Sto} {ρ:Env} {H:Hp} {σ:L2.St} {Q:Bool→Hp→Prop} {Q1:Bool→Hp→Prop} {a:E} {f:U→Sto→Rs U} (r:R Z m st H) (en:cj Z m H σ ρ) (h:PoT Z Ex m H Q ((xE Φ a ρ st).bind f)) (hf:∀ x st,(∀ b,x ≠ .bl b)→f x st=.bad)
   (k:∀ b st1 m1 H1,Go m H m1 H1→R Z m1 st1 H1→cj Z m1 H1 σ ρ→PoT Z Ex m1 H1 Q (f (.bl b) st1)→Q1 b H1):lT Z Φ Ex a σ H Q1:=
 ⟨m,st,ρ,r,en,aq (az h) (fun _ _ z=>z) fun x st1 _ hx=>by
   cases x with
   | bl b=>exact ⟨b,rfl,fun m1 H1 g1 r1=>k b st1 m1 H1 g1 r1 (en.mono g1) (PoT.sh hx g1)⟩
   | _=>rw [hf _ _ (by intro b z; cases z)] at hx; exact hx.elim⟩
theorem mS {Z:Zt} {m:List Addr} {st:Sto} {ρ:Env} {H:Hp} {σ:L2.St} {Q:VK} {Q1:List V→Hp→Prop} {es:List E} {f:List U→Sto→Rs U} (r:R Z m st H) (en:cj Z m H σ ρ) (h:Po Z Ex m H Q ((xEs Φ es ρ st).bind f))
   (k:∀ xs st1 m1 H1 vs,Go m H m1 H1→R Z m1 st1 H1→ar Z m1 H1 vs xs→Po Z Ex m1 H1 Q (f xs st1)→Q1 vs H1):lEs Z Φ Ex es σ H Q1:=
 ⟨m,st,ρ,r,en,aq (az h) (fun _ _ z=>z) fun xs st1 _ hx m1 H1 vs g1 r1 dv=>k xs st1 m1 H1 vs g1 r1 dv (Po.sh hx g1)⟩
theorem uz {Z:Zt} {a b:E} {g:U→U→Sto→Rs U} {m:List Addr} {st:Sto} {ρ:Env} {H:Hp} {σ:L2.St} {Q:VK} (r:R Z m st H) (en:cj Z m H σ ρ)
   (h:Po Z Ex m H Q ((xE Φ a ρ st).bind fun x st1=>(xE Φ b ρ st1).bind fun y st2=>g x y st2)):tOp (rO Z Ex g) (lE Z Φ Ex a) (lE Z Φ Ex b) σ H Q:=
 di r en h fun x st1 m1 H1 v g1 r1 en1 dv h1=>di r1 en1 h1 fun y st2 m2 H2 u g2 r2 _ du h2=>⟨m2,st2,x,y,r2,dv.mono g2,du,h2⟩
theorem KY {n:Nat} (B:Bg X T Φ cl CX Ex k) (S:Snd X T Φ cl Ex n):∀ tg it it',trI T (n + 1) it=some it'→vO tg it'=true→PI X tg it (lI (zt X cl) Φ Ex it')∧∀ x,foldedSetIterable it X.env x=pure x:=by
 intro tg it it' h ho
 have seq:∀ e,trE T n it=some e→it'=.seq e→PI X tg it (lI (zt X cl) Φ Ex it')∧∀ x,foldedSetIterable it X.env x=pure x:=by
   intro e he hi
   subst hi
   refine ⟨?_,fun x=>Mj he _ _⟩
   have pe:=(S.e _ _ he).1
   refine PI.wk (OW (GJ pe) (Mo pe)) ?_
   rintro σ H Rr ⟨m,st,ρ,r,en,hq⟩
   simp only [xIt] at hq
   cases ho:xE Φ e ρ st with
   | bad=>rw [ho] at hq; exact hq.elim
   | exc c st1=>rw [ho] at hq; exact .inl ⟨m,st,ρ,r,en,by rw [ho]; exact hq⟩
   | ok x st1=>
     rw [ho,Rs.aa] at hq
     cases x with
     | loc l=>
       refine .inl ⟨m,st,ρ,r,en,?_⟩
       rw [ho]
       intro m1 H1 v g1 r1 dv
       obtain ⟨a,rfl,hl⟩:=jo dv
       dsimp only at hq
       split at hq
       · obtain ⟨fz,ds,vs,_,ly,_⟩:=r1.loc hl
         exact ⟨a,rfl,⟨vs,ly.sq⟩,hq _ m1 H1 g1 r1 (Hr hl)⟩
       · exact hq.elim
     | tup xs=>
       refine .inr ⟨m,st,ρ,r,en,?_⟩
       rw [ho]
       intro m1 H1 v g1 r1 dv
       cases dv with
       | tup h1 d1=>exact ⟨_,rfl,⟨_,h1⟩,hq _ m1 H1 g1 r1 (M4 h1 d1)⟩
     | kl xs=>
       refine .inl ⟨m,st,ρ,r,en,?_⟩
       rw [ho]
       intro m1 H1 v g1 r1 dv
       cases dv with
       | kl h1 d1=>exact ⟨_,rfl,⟨_,h1.sq⟩,hq _ m1 H1 g1 r1 (N6 h1 d1)⟩
     | _=>exact hq.elim
 unfold trI at h
 split at h
 · cases h
 · rename_i n' x p a rr pos hn
   cases hn
   split at h
   · rename_i c
     obtain ⟨rfl,c2,_⟩:=c
     split at h
     · simp only [Option.bind_eq_some_iff,Option.some.injEq] at h
       obtain ⟨e,h3,rfl⟩:=h
       have st:=cY h3 [] X.env
       refine ⟨?_,fun _=>rfl⟩
       refine PI.wk (BP (B.gl c2) (B.blt _ (by simp [aP])) (eL (S.e _ _ h3).1 ke st) st) ?_
       rintro σ H Rr ⟨m,st,ρ,r,en,hq⟩
       simp only [xIt] at hq
       refine ⟨m,st,ρ,r,en,aq (az hq) (fun _ _ z=>z) fun x st1 _ hx m1 H1 v g1 r1 dv=>?_⟩
       cases dv with
       | @int j=>
         dsimp only at hx
         split at hx
         · rename_i hj
           exact ⟨j,rfl,hj.1,hj.2,hx _ m1 H1 g1 r1 (Dg 0 _)⟩
         · exact hx.elim
       | _=>exact hx.elim
     · rename_i bx
       simp only [Option.bind_eq_some_iff,Option.some.injEq] at h
       obtain ⟨e,h3,e2,h4,rfl⟩:=h
       have st2:=cY h4 [] X.env
       have st:=cY h3 [bx] X.env
       refine ⟨?_,fun _=>rfl⟩
       refine PI.wk (Cu (B.gl c2) (B.blt _ (by simp [aP])) (eL (S.e _ _ h3).1 (eL (S.e _ _ h4).1 ke st2) st) (st.trans (by rw [st2]; rfl)) st2) ?_
       rintro σ H Rr ⟨m,st,ρ,r,en,hq⟩
       simp only [xIt] at hq
       refine ⟨m,st,ρ,r,en,aq (az hq) (fun _ _ z=>z) fun x st1 _ hx m1 H1 v g1 r1 dv=>?_⟩
       refine ⟨m1,st1,ρ,r1,en.mono g1,aq (az hx) (fun c s z=>kE.sh g1 c s z) fun y st2 _ hy m2 H2 u g2 r2 du=>?_⟩
       cases dv with
       | @int i=>
         cases du with
         | @int j=>
           dsimp only at hy
           split at hy
           · rename_i hj
             exact ⟨i,j,rfl,⟨hj.1.1,hj.1.2,hj.2.1,hj.2.2⟩,hy _ m2 H2 (g1.trans g2) r2 (Dg i _)⟩
           · exact hy.elim
         | _=>exact hy.elim
       | _=>cases du <;> exact hy.elim
     · cases h
   · split at h
     · rename_i c
       obtain ⟨rfl,c2,_⟩:=c
       split at h
       · simp only [Option.bind_eq_some_iff,Option.some.injEq] at h
         obtain ⟨e,h3,rfl⟩:=h
         have st:=cY h3 [] X.env
         obtain ⟨ts,q,tp,rfl⟩:∃ ts q tp,tg=.Tuple ts q tp:=by
           cases tg <;> first | exact ⟨_,_,_,rfl⟩ | cases ho
         refine ⟨?_,fun _=>rfl⟩
         refine PI.wk (vC (B.gl c2) (B.blt _ (by simp [aP])) (eL (S.e _ _ h3).1 ke st) st) ?_
         rintro σ H Rr ⟨m,st,ρ,r,en,hq⟩
         simp only [xIt] at hq
         refine ⟨m,st,ρ,r,en,aq (az hq) (fun _ _ z=>z) fun x st1 _ hx m1 H1 v g1 r1 dv=>?_⟩
         cases dv with
         | loc hl=>
           dsimp only at hx
           split at hx
           · obtain ⟨fz,ds,vs,_,ly,_⟩:=r1.loc hl
             exact ⟨_,rfl,⟨vs,ly.sq⟩,hx _ m1 H1 g1 r1 (Lp hl)⟩
           · exact hx.elim
         | kl h1 d1=>exact ⟨_,rfl,⟨_,h1.sq⟩,hx _ m1 H1 g1 r1 (Lq h1 d1)⟩
         | _=>exact hx.elim
       · cases h
     · split at h
       · rename_i c
         obtain ⟨rfl,c2,_⟩:=c
         split at h
         · rename_i bx
           simp only [Option.bind_eq_some_iff,Option.some.injEq] at h
           obtain ⟨e,h3,e2,h4,rfl⟩:=h
           have st2:=cY h4 [] X.env
           have st:=cY h3 [bx] X.env
           obtain ⟨ts,q,tp,rfl⟩:∃ ts q tp,tg=.Tuple ts q tp:=by
             cases tg <;> first | exact ⟨_,_,_,rfl⟩ | cases ho
           refine ⟨?_,fun _=>rfl⟩
           refine PI.wk (Ev.MG (B.gl c2) (B.blt _ (by simp [aP])) (eL (S.e _ _ h3).1 (eL (S.e _ _ h4).1 ke st2) st) st st2) ?_
           rintro σ H Rr ⟨m,st,ρ,r,en,hq⟩
           simp only [xIt] at hq
           refine ⟨m,st,ρ,r,en,aq (az hq) (fun _ _ z=>z) fun x st1 _ hx m1 H1 v g1 r1 dv=>?_⟩
           refine ⟨m1,st1,ρ,r1,en.mono g1,aq (az hx) (fun c s z=>kE.sh g1 c s z) fun y st2 _ hy m2 H2 u g2 r2 du=>?_⟩
           cases e1:src st2 x with
           | none=>rw [e1] at hy; exact hy.elim
           | some p=>
             cases e3:src st2 y with
             | none=>rw [e1,e3] at hy; exact hy.elim
             | some q=>
               rw [e1,e3] at hy
               obtain ⟨a,rfl,ha,sa⟩:=Bb r2 (dv.mono g2) e1
               obtain ⟨b,rfl,hb,sb⟩:=Bb r2 du e3
               exact ⟨a,b,rfl,ha,hb,hy _ m2 H2 (g1.trans g2) r2 (Kc sa sb)⟩
         · cases h
       · simp only [Option.bind_eq_some_iff,Option.some.injEq] at h
         obtain ⟨e,h3,rfl⟩:=h
         exact seq e h3 rfl
 · rename_i n' heq hn
   cases heq
   simp only [Option.bind_eq_some_iff,Option.some.injEq] at h
   obtain ⟨e,h3,rfl⟩:=h
   exact seq e h3 rfl
theorem EU {n:Nat} (S:Snd X T Φ cl Ex n):∀ es es',kh T (n + 1) es=some es'→PA X es (lEs (zt X cl) Φ Ex es'):=by
 intro es es' h
 cases es with
 | nil=>
   simp only [kh,Option.some.injEq] at h
   subst h
   refine PA.wk ke ?_
   rintro σ H Q ⟨m,st,ρ,r,en,q⟩
   simp only [xEs] at q
   exact q m H [] (Go.refl m H) r .nil
 | cons e es=>
   simp only [kh,Option.bind_eq_some_iff,Option.some.injEq] at h
   obtain ⟨e',h1,es',h2,rfl⟩:=h
   refine PA.wk (eL (S.e _ _ h1).1 (S.a _ _ h2) (cY h1 _ _)) ?_
   rintro σ H Q ⟨m,st,ρ,r,en,q⟩
   simp only [xEs] at q
   refine ⟨m,st,ρ,r,en,aq (az q) (fun _ _ z=>z) fun x st1 _ hx m1 H1 v g1 r1 dv=>?_⟩
   refine ⟨m1,st1,ρ,r1,en.mono g1,aq (az hx) (fun c s z=>kE.sh g1 c s z) fun xs st2 _ hy m2 H2 vs g2 r2 dvs=>?_⟩
   exact hy m2 H2 _ (g1.trans g2) r2 (.cons (dv.mono g2) dvs)
theorem Ba {Φ:Fn}:∀ {es:List E} {ρ:Env} {st st':Sto} {xs:List U},xEs Φ es ρ st=.ok xs st'→xs.length=es.length
 | [],ρ,st,st',xs,h=>by rw [xEs] at h; cases h; rfl
 | e :: es,ρ,st,st',xs,h=>by
   rw [xEs] at h
   cases h1:xE Φ e ρ st with
   | ok x st1=>
     rw [h1,Rs.aa] at h
     cases h2:xEs Φ es ρ st1 with
     | ok ys st2=>
       rw [h2,Rs.aa] at h
       cases h
       rw [List.length_cons,List.length_cons,Ba h2]
     | exc c s=>rw [h2] at h; cases h
     | bad=>rw [h2] at h; cases h
   | exc c s=>rw [h1] at h; cases h
   | bad=>rw [h1] at h; cases h
theorem Hb (B:Bg X T Φ cl CX Ex k) {i:Nat} {x:Str} {e:Expr} {es:List Expr} {es':List E} {p pos:Pos} (hi:slot T.F x=some i) (hg:Gl X x) (hdb:(x == ("__debug__" : Str))=false) (ha:PA X (e :: es) (lEs (zt X cl) Φ Ex es'))
   (he:starEach (e :: es) X.env=(false,eval e X.env) :: starEach es X.env) (hpl:(backTo pos (starEach es X.env)).any (·.1)=false):PE X (.Call (.Name x p) (e :: es) [] pos) (lE (zt X cl) Φ Ex (.call i es')):=by
 obtain ⟨f,fd,ps,G,F,hm,hk,hn⟩:=(B.cal i x (slot_get hi)).ex
 obtain ⟨dvs,dus,dds,hb,hd,hdd,hF⟩:=hn es'.length
 refine PE.wk (Ir F B.room hg hm hk hb hd B.pas ha hdb he hpl) ?_
 rintro σ H Q ⟨m,st,ρ,r,en,q⟩
 simp only [xE] at q
 refine ⟨m,st,ρ,r,en,aq (az q) (fun _ _ z=>z) fun xs st1 ex hx m1 H1 vs g1 r1 dv=>?_⟩
 have h1:=Po.sh hx g1
 rw [hF _ _ (Ba ex)] at h1
 exact ⟨m1,st1,xs++dds,r1,dv.append (hdd _ _),aq h1 (fun c s z m' H' g r=>⟨c,rfl,z m' H' g r⟩) fun _ _ _ z=>z⟩
theorem AA:PTs X [] (lIf (zt X cl) Φ Ex []):=by
 rintro pins s σ H Q I ⟨m,st,ρ,r,en,q⟩
 simp only [xIf] at q
 exact wpAny_tests_nil ⟨H,I,q m H (Go.refl m H) r⟩
theorem AJ:PO X none (lP (zt X cl) Φ Ex .cN):=by
 refine PO.wk IV ?_
 rintro σ H Q ⟨m,st,ρ,r,en,q⟩
 simp only [xE] at q
 obtain ⟨o,e,q⟩:=q
 cases e
 exact q m H (Go.refl m H) r
end
end Sv
namespace Sv
open PySem PySem.Spec PyProof.Rows L2
open Ev (D aL aT ag j7 kG eH slot slot_get je jX kH nh jq fy kb aS oS ny PTs nQ oZ De Ite de vC oE)
section
variable {Φ:Fn} {cl:Nat→Addr} {CX:CXT} {k:Nat}
theorem Ft {X:Cx} {Ex:Nat→Hp→Prop} (ng c:Bool):OpR X (compareOp (if ng then .IsNot else .Is)) (fun x y H Q=>∃ m d,y=.bl c∧bt (zt X cl) m H x d∧Q (.bl (ng ^^ B4 c d)) H):=by
 rintro pins s σ H x y v u Q I rx ry ⟨m,d,hy,dx,q⟩
 subst hy
 cases (show u=Value.bool c from ry)
 have pl:plainIs v (.bool c)=true∧(v == Value.bool c)=B4 c d:=by
   cases dx with
   | non=>cases (show v=Value.none from rx); exact ⟨rfl,rfl⟩
   | @bl bb=>cases (show v=Value.bool bb from rx); exact ⟨rfl,by cases bb <;> cases c <;> rfl⟩
   | int=>obtain ⟨t,z⟩:=(show ∃ t,v=Value.int _ t from rx); cases z; exact ⟨rfl,rfl⟩
   | str=>obtain ⟨t,z⟩:=(show ∃ t,v=Value.str _ t from rx); cases z; exact ⟨rfl,rfl⟩
   | tup _ _=>cases (show v=Value.ref _ from rx); exact ⟨rfl,rfl⟩
   | loc _=>cases (show v=Value.ref _ from rx); exact ⟨rfl,rfl⟩
   | exo _=>cases (show v=Value.ref _ from rx); exact ⟨rfl,rfl⟩
   | kl _ _=>cases (show v=Value.ref _ from rx); exact ⟨rfl,rfl⟩
 cases ng with
 | true=>
   refine wpAny_isNot_plain pl.1 ⟨.bl _,H,I,?_,q⟩
   rw [pl.2]
   show Value.bool _=Value.bool _
   cases B4 c d <;> rfl
 | false=>
   refine wpAny_is_plain pl.1 ⟨.bl _,H,I,?_,q⟩
   rw [pl.2]
   show Value.bool _=Value.bool _
   cases B4 c d <;> rfl
theorem Fi {X:Cx} (ng:Bool):OpR X (compareOp (if ng then .IsNot else .Is)) (fun x y H Q=>∃ m d,y=.non∧bt (zt X cl) m H x d∧Q (.bl (ng ^^ Cg d)) H):=by
 rintro pins s σ H x y v u Q I rx ry ⟨m,d,hy,dx,q⟩
 subst hy
 have hd:decide (x=.non)=Cg d:=by cases dx <;> rfl
 cases ng with
 | true=>exact GO pins s σ H _ _ v u Q I rx ry ⟨rfl,by rw [hd]; cases h:Cg d <;> rw [h] at q <;> exact q⟩
 | false=>exact MM pins s σ H _ _ v u Q I rx ry ⟨rfl,by rw [hd]; cases h:Cg d <;> rw [h] at q <;> exact q⟩
theorem AZ {T:Tr} {n:Nat} {e:Expr} {e':E} (h:trE T n e=some e') (o:CmpOp):behindInMarks o e=false:=by
 cases n with
 | zero=>rw [trE] at h; cases h
 | succ n=>rw [trE] at h; cases e <;> first | rfl | (simp [stE.eq_def] at h)
theorem jD:∀ (n:Nat) {X:Cx} {T:Tr} {Ex:Nat→Hp→Prop},Bg X T Φ cl CX Ex k→Snd X T Φ cl Ex n
 | 0,X,T,Ex,B=>⟨(fun _ _ h=>by exact bM (show (none:Option E)=some _ from h)),(fun _ _ _ _ h=>by exact bM (show (none:Option E)=some _ from h)),(fun _ _ h=>by simp [kh] at h),(fun e e' h=>by
     cases e with
     | none=>simp only [trP,Option.some.injEq] at h; subst h; exact AJ
     | some e=>simp [trP] at h),(fun es es' h=>by
     cases es with
     | nil=>simp only [xN,Option.some.injEq] at h; subst h; exact AA
     | cons a r=>simp [xN] at h),(fun _ _ _ h=>by unfold trI at h; cases h)⟩
 | n + 1,X,T,Ex,B=>by
   have S:=jD n B
   have val:∀ pe e,PE X pe (lE (zt X cl) Φ Ex e)→(∀ whole,isTrue pe X.env whole=(do let v ← whole; standAt pe.pos; holding [v] (truthy v)))→PE X pe (lE (zt X cl) Φ Ex e)∧PT X pe (lT (zt X cl) Φ Ex e):=
     fun pe e h he=>⟨h,PT.wk (Ka h he) fun σ H Q ⟨m,st,ρ,r,en,q⟩=>⟨m,st,ρ,r,en,q.po⟩⟩
   have W1:∀ op vs pos e,trE T (n + 1) (.BoolOp op vs pos)=some e→PE X (.BoolOp op vs pos) (lE (zt X cl) Φ Ex e)∧PW X (.BoolOp op vs pos) (lT (zt X cl) Φ Ex e):=by
     intro op vs pos e h
     match op,vs with
     | op,[]=>cases op <;> exact bM (show (none:Option E)=some _ from h)
     | op,[a]=>
       have h':trE T n a=some e:=by cases op <;> simpa only [trE,stE.eq_def] using h
       obtain ⟨h1,h2⟩:=S.e a e h'
       refine ⟨Mi h1,?_⟩
       cases op with
       | And=>exact pw_and1 h2
       | Or=>exact pw_or1 h2
     | .And,a :: b :: rs=>
       simp only [trE,stE.eq_def,Option.bind_eq_some_iff,Option.some.injEq] at h
       obtain ⟨a',h1,b',h2,rfl⟩:=h
       obtain ⟨p1,p2⟩:=S.e a a' h1
       obtain ⟨q1,q2⟩:=S.e _ b' h2
       refine ⟨PE.wk (M7 p1 q1) ?_,PW.wk (pw_and p2 (S.w _ _ _ _ h2)) ?_⟩
       · rintro σ H Q ⟨m,st,ρ,r,en,q⟩
         simp only [xE] at q
         refine di r en q fun x st1 m1 H1 v g1 r1 en1 dv h1=>?_
         match x,h1 with
         | .bl true,h1=>exact ⟨true,jQ dv,sC ⟨m1,st1,ρ,r1,en1,h1⟩⟩
         | .bl false,h1=>exact ⟨false,jQ dv,tD (Po.ok h1 r1 .bl)⟩
       · rintro σ H Q ⟨m,st,ρ,r,en,q⟩
         simp only [xE] at q
         refine nD r en q (fun x st hx=>by cases x <;> first | rfl | exact absurd rfl (hx _)) fun b st1 m1 H1 g1 r1 en1 h1=>?_
         cases b with
         | true=>exact sC ⟨m1,st1,ρ,r1,en1,h1⟩
         | false=>obtain ⟨b,eb,h1⟩:=h1; cases eb; exact tD (h1 m1 H1 (Go.refl _ _) r1)
     | .Or,a :: b :: rs=>
       simp only [trE,stE.eq_def,Option.bind_eq_some_iff,Option.some.injEq] at h
       obtain ⟨a',h1,b',h2,rfl⟩:=h
       obtain ⟨p1,p2⟩:=S.e a a' h1
       obtain ⟨q1,q2⟩:=S.e _ b' h2
       refine ⟨PE.wk (Oc p1 q1) ?_,PW.wk (pw_or p2 (S.w _ _ _ _ h2)) ?_⟩
       · rintro σ H Q ⟨m,st,ρ,r,en,q⟩
         simp only [xE] at q
         refine di r en q fun x st1 m1 H1 v g1 r1 en1 dv h1=>?_
         match x,h1 with
         | .bl false,h1=>exact ⟨false,jQ dv,tD ⟨m1,st1,ρ,r1,en1,h1⟩⟩
         | .bl true,h1=>exact ⟨true,jQ dv,sC (Po.ok h1 r1 .bl)⟩
       · rintro σ H Q ⟨m,st,ρ,r,en,q⟩
         simp only [xE] at q
         refine nD r en q (fun x st hx=>by cases x <;> first | rfl | exact absurd rfl (hx _)) fun b st1 m1 H1 g1 r1 en1 h1=>?_
         cases b with
         | false=>exact tD ⟨m1,st1,ρ,r1,en1,h1⟩
         | true=>obtain ⟨b,eb,h1⟩:=h1; cases eb; exact sC (h1 m1 H1 (Go.refl _ _) r1)
   refine ⟨?_,fun op vs pos e h=>(W1 op vs pos e h).2,EU S,?_,?_,KY B S⟩
   case refine_2=>
     intro e e' h
     cases e with
     | none=>simp only [trP,Option.some.injEq] at h; subst h; exact AJ
     | some e=>
       simp only [trP,Option.bind_eq_some_iff] at h
       obtain ⟨e1,h1,h2⟩:=h
       have hne:e'=e1∧e1 ≠ .cN:=by
         split at h2
         · cases h2
         · rename_i hn
           cases h2
           exact ⟨rfl,hn⟩
       obtain ⟨rfl,hn⟩:=hne
       refine PO.wk (Jg (S.e _ _ h1).1) ?_
       rintro σ H Q ⟨m,st,ρ,r,en,q⟩
       refine ⟨m,st,ρ,r,en,aq q (fun _ _ z=>z) fun d st1 _ ⟨o,bb,q⟩ m1 H1 v g1 r1 dv=>?_⟩
       obtain ⟨i,rfl,rfl⟩:∃ i,d=.int i∧o=some i:=by
         unfold vL at bb
         split at bb
         · exact absurd rfl hn
         · cases bb; exact ⟨_,rfl,rfl⟩
         · cases bb
       exact ⟨i,p0 dv,q m1 H1 g1 r1⟩
   case refine_3=>
     intro es es' h
     match es with
     | []=>simp only [xN,Option.some.injEq] at h; subst h; exact AA
     | [c]=>
       simp only [xN,Option.bind_eq_some_iff,Option.some.injEq] at h
       obtain ⟨c',h1,rfl⟩:=h
       rintro pins s σ H Q I ⟨m,st,ρ,r,en,q⟩
       simp only [xIf] at q
       refine wpAny_tests_one ((S.e _ _ h1).2 pins s σ H Q I ⟨m,st,ρ,r,en,aq (az q) (fun _ _ z=>z) fun x st1 _ hx=>?_⟩)
       match x,hx with
       | .bl true,hx=>exact ⟨true,rfl,hx⟩
       | .bl false,hx=>exact ⟨false,rfl,hx⟩
     | _ :: _ :: _=>simp [xN] at h
   intro pe e h
   cases pe with
   | BoolOp op vs pos=>exact ⟨(W1 op vs pos e h).1,(W1 op vs pos e h).2.pt⟩
   | Name x pos=>
     simp only [trE,stE.eq_def] at h
     split at h
     · rename_i hg
       simp only [Option.bind_eq_some_iff,Option.some.injEq] at h
       obtain ⟨i,h1,rfl⟩:=h
       obtain ⟨t,hm⟩:=B.cst x i h1
       refine val _ _ (PE.wk (Ij (v:=.int i) (B.gl hg.1) hm ⟨t,rfl⟩ hg.2) ?_) (fun _=>rfl)
       rintro σ H Q ⟨m,st,ρ,r,en,q⟩
       simp only [xE] at q
       exact Po.ok q r .int
     · simp only [Option.bind_eq_some_iff,Option.some.injEq] at h
       obtain ⟨i,h1,rfl⟩:=h
       obtain ⟨v1,v2,v3,v4⟩:=B.vis h1
       refine val _ _ (PE.wk (KC v1 (oE v2) v3 v4) ?_) (fun _=>rfl)
       rintro σ H Q ⟨m,st,ρ,r,en,q⟩
       simp only [xE,lF] at q
       split at q
       · rename_i hz
         obtain ⟨v,g1,g2⟩:=en.get i _ hz
         exact ⟨v,g1,Po.ok q r g2⟩
       · exact q.elim
   | Constant c kk pos=>
     have cst:∀ (v:V) (e:E) (d:U),(∀ ρ st,xE Φ e ρ st=.ok d st)→(∀ m H,bt (zt X cl) m H v d)→∀ σ H Q,lE (zt X cl) Φ Ex e σ H Q→tC v σ H Q:=fun v e d h1 h2 σ H Q ⟨m,st,ρ,r,en,q⟩=>by
       rw [h1] at q
       exact Po.ok q r (h2 _ _)
     cases c <;> simp only [trE,stE.eq_def,Option.some.injEq,reduceCtorEq] at h <;> subst h
     case none=>exact val _ _ (PE.wk Ag (cst _ _ .non (fun _ _=>by simp only [xE]) fun _ _=>.non)) (fun _=>rfl)
     case bool b=>exact val _ _ (PE.wk DV (cst _ _ (.bl b) (fun _ _=>by simp only [xE]) fun _ _=>.bl)) (fun _=>rfl)
     case int i=>exact val _ _ (PE.wk NI (cst _ _ (.int i) (fun _ _=>by simp only [xE]) fun _ _=>.int)) (fun _=>rfl)
     case str x=>exact val _ _ (PE.wk Mp (cst _ _ (.str x) (fun _ _=>by simp only [xE]) fun _ _=>.str)) (fun _=>rfl)
   | BinOp a o b pos=>
     simp only [trE,stE.eq_def,Option.bind_eq_some_iff,Option.some.injEq] at h
     obtain ⟨o',h0,a',h1,b',h2,rfl⟩:=h
     refine val _ _ (PE.wk (Ov (KL (cl:=cl) (Ex:=Ex) h0) (S.e _ _ h1).1 (S.e _ _ h2).1) ?_) (fun _=>rfl)
     rintro σ H Q ⟨m,st,ρ,r,en,q⟩
     simp only [xE] at q
     exact uz r en q
   | UnaryOp o a pos=>
     cases o <;> simp only [trE,stE.eq_def,Option.bind_eq_some_iff,Option.some.injEq,reduceCtorEq] at h
     case USub=>
       obtain ⟨a',h1,rfl⟩:=h
       refine val _ _ (PE.wk (OH JT (S.e _ _ h1).1) ?_) (fun _=>rfl)
       rintro σ H Q ⟨m,st,ρ,r,en,q⟩
       simp only [xE] at q
       refine di r en q fun x st1 m1 H1 v g1 r1 en1 dv h1=>?_
       match x,h1 with
       | .int i,h1=>exact ⟨i,p0 dv,Po.ok h1 r1 .int⟩
     case Not=>
       obtain ⟨a',h1,rfl⟩:=h
       refine ⟨PE.wk (K5 (S.e _ _ h1).1) ?_,PT.wk (Nw (S.e _ _ h1).2) ?_⟩
       · rintro σ H Q ⟨m,st,ρ,r,en,q⟩
         simp only [xE] at q
         refine di r en q fun x st1 m1 H1 v g1 r1 en1 dv h1=>?_
         match x,h1 with
         | .bl b,h1=>exact ⟨b,jQ dv,Po.ok h1 r1 .bl⟩
       · rintro σ H Q ⟨m,st,ρ,r,en,q⟩
         simp only [xE] at q
         refine nD r en q (fun x st hx=>by cases x <;> first | rfl | exact absurd rfl (hx _)) fun b st1 m1 H1 g1 r1 en1 h1=>?_
         obtain ⟨b',eb,h1⟩:=h1
         cases eb
         exact h1 m1 H1 (Go.refl _ _) r1
   | Compare a os bs pos=>
     match os,bs with
     | [o],[b]=>
       have cmp:∀ e,((trC o).bind fun o'=>(trE T n a).bind fun a'=>(trE T n b).bind fun b'=>some (.cmp o' a' b'))=some e→PE X (.Compare a [o] [b] pos) (lE (zt X cl) Φ Ex e)∧PT X (.Compare a [o] [b] pos) (lT (zt X cl) Φ Ex e):=by
         intro e h
         simp only [Option.bind_eq_some_iff,Option.some.injEq] at h
         obtain ⟨o',h0,a',h1,b',h2,rfl⟩:=h
         have hm:behindInMarks o b=false:=AZ h2 o
         refine ⟨PE.wk (uU (ot (cl:=cl) (Ex:=Ex) B.room.units h0) (S.e _ _ h1).1 (S.e _ _ h2).1 hm) ?_,PT.wk (vE (ot (cl:=cl) (Ex:=Ex) B.room.units h0) (S.e _ _ h1).1 (S.e _ _ h2).1 hm) ?_⟩
         · rintro σ H Q ⟨m,st,ρ,r,en,q⟩
           simp only [xE] at q
           exact uz r en q
         · rintro σ H Q ⟨m,st,ρ,r,en,q⟩
           simp only [xE] at q
           exact uz r en q.po
       have isb:∀ (ng c:Bool) (a':E) (kk:Nat) (pp:Pos),trE T n a=some a'→b=.Constant (.bool c) kk pp→o=(if ng then .IsNot else .Is)→PE X (.Compare a [o] [b] pos) (lE (zt X cl) Φ Ex (.isB ng a' c))∧PT X (.Compare a [o] [b] pos) (lT (zt X cl) Φ Ex (.isB ng a' c)):=by
         intro ng c a' kk pp h1 hb ho
         subst hb ho
         have hm:behindInMarks (if ng then .IsNot else .Is) (.Constant (.bool c) kk pp)=false:=by cases ng <;> rfl
         refine ⟨PE.wk (uU (Ft (cl:=cl) (Ex:=Ex) ng c) (S.e _ _ h1).1 DV hm) ?_,PT.wk (vE (Ft (cl:=cl) (Ex:=Ex) ng c) (S.e _ _ h1).1 DV hm) ?_⟩
         · rintro σ H Q ⟨m,st,ρ,r,en,q⟩
           simp only [xE] at q
           exact di r en q fun x st1 m1 H1 v g1 r1 en1 dv h1=>⟨m1,x,rfl,dv,Po.ok h1 r1 .bl⟩
         · rintro σ H Q ⟨m,st,ρ,r,en,q⟩
           simp only [xE] at q
           exact di r en q.po fun x st1 m1 H1 v g1 r1 en1 dv h1=>⟨m1,x,rfl,dv,Po.ok h1 r1 .bl⟩
       have isn:∀ (ng:Bool) (a':E) (kk:Nat) (pp:Pos),trE T n a=some a'→b=.Constant .none kk pp→o=(if ng then .IsNot else .Is)→PE X (.Compare a [o] [b] pos) (lE (zt X cl) Φ Ex (.isN ng a'))∧PT X (.Compare a [o] [b] pos) (lT (zt X cl) Φ Ex (.isN ng a')):=by
         intro ng a' kk pp h1 hb ho
         subst hb ho
         have hm:behindInMarks (if ng then .IsNot else .Is) (.Constant .none kk pp)=false:=by cases ng <;> rfl
         refine ⟨PE.wk (uU (Fi (cl:=cl) ng) (S.e _ _ h1).1 Ag hm) ?_,PT.wk (vE (Fi (cl:=cl) ng) (S.e _ _ h1).1 Ag hm) ?_⟩
         · rintro σ H Q ⟨m,st,ρ,r,en,q⟩
           simp only [xE] at q
           exact di r en q fun x st1 m1 H1 v g1 r1 en1 dv h1=>⟨m1,x,rfl,dv,Po.ok h1 r1 .bl⟩
         · rintro σ H Q ⟨m,st,ρ,r,en,q⟩
           simp only [xE] at q
           exact di r en q.po fun x st1 m1 H1 v g1 r1 en1 dv h1=>⟨m1,x,rfl,dv,Po.ok h1 r1 .bl⟩
       simp only [trE,stE.eq_def] at h
       split at h
       · simp only [Option.bind_eq_some_iff,Option.some.injEq] at h
         obtain ⟨a',h1,rfl⟩:=h
         exact isb false _ a' _ _ h1 rfl rfl
       · simp only [Option.bind_eq_some_iff,Option.some.injEq] at h
         obtain ⟨a',h1,rfl⟩:=h
         exact isb true _ a' _ _ h1 rfl rfl
       · simp only [Option.bind_eq_some_iff,Option.some.injEq] at h
         obtain ⟨a',h1,rfl⟩:=h
         exact isn false a' _ _ h1 rfl rfl
       · simp only [Option.bind_eq_some_iff,Option.some.injEq] at h
         obtain ⟨a',h1,rfl⟩:=h
         exact isn true a' _ _ h1 rfl rfl
       · exact cmp e h
     | [o,p],[b,c]=>
       simp only [trE,stE.eq_def,Option.bind_eq_some_iff,Option.some.injEq] at h
       obtain ⟨o',h0,p',h0',a',h1,b',h2,c',h3,rfl⟩:=h
       have hm:lastMarks [o,p] [b,c]=false:=AZ h3 p
       have core:∀ σ H Q,lE (zt X cl) Φ Ex (.chain o' p' a' b' c') σ H Q→zQ (rC (zt X cl) Ex o') (rC (zt X cl) Ex p') (lE (zt X cl) Φ Ex a') (lE (zt X cl) Φ Ex b') (lE (zt X cl) Φ Ex c') σ H Q:=by
         rintro σ H Q ⟨m,st,ρ,r,en,q⟩
         simp only [xE] at q
         refine di r en q fun x st1 m1 H1 v g1 r1 en1 dv q1=>di r1 en1 q1 fun y st2 m2 H2 u g2 r2 en2 du q2=>?_
         refine ⟨m2,st2,x,y,r2,dv.mono g2,du,?_⟩
         show Po _ _ _ _ _ (ofO (evC o' x y st2) st2)
         cases ho:evC o' x y st2 with
         | none=>rw [ho] at q2; exact q2.elim
         | some tt=>
           rw [ho] at q2
           intro m3 H3 w g3 r3 dw
           cases tt with
           | true=>
             refine ⟨true,jQ dw,sC (di r3 (en2.mono g3) (Po.sh q2 g3) fun z st4 m4 H4 w' g4 r4 en4 dw' q4=>?_)⟩
             exact ⟨m4,st4,y,z,r4,(du.mono g3).mono g4,dw',q4⟩
           | false=>exact ⟨false,jQ dw,tD (Po.ok (Po.sh q2 g3) r3 .bl)⟩
       refine ⟨PE.wk (E6 (ot (cl:=cl) (Ex:=Ex) B.room.units h0) (ot (cl:=cl) (Ex:=Ex) B.room.units h0') (S.e _ _ h1).1 (S.e _ _ h2).1 (S.e _ _ h3).1 hm) core,PT.wk (Eg (ot (cl:=cl) (Ex:=Ex) B.room.units h0) (ot (cl:=cl) (Ex:=Ex) B.room.units h0') (S.e _ _ h1).1 (S.e _ _ h2).1 (S.e _ _ h3).1 hm) ?_⟩
       rintro σ H Q ⟨m,st,ρ,r,en,q⟩
       exact core σ H _ ⟨m,st,ρ,r,en,q.po⟩
     | [],_=>exact bM (show (none:Option E)=some _ from h)
     | [_],[]=>exact bM (show (none:Option E)=some _ from h)
     | [_],_ :: _ :: _=>exact bM (show (none:Option E)=some _ from h)
     | [_,_],[]=>exact bM (show (none:Option E)=some _ from h)
     | [_,_],[_]=>exact bM (show (none:Option E)=some _ from h)
     | [_,_],_ :: _ :: _ :: _=>exact bM (show (none:Option E)=some _ from h)
     | _ :: _ :: _ :: _,_=>exact bM (show (none:Option E)=some _ from h)
   | IfExp c a b pos=>
     simp only [trE,stE.eq_def,Option.bind_eq_some_iff,Option.some.injEq] at h
     obtain ⟨c',h0,a',h1,b',h2,rfl⟩:=h
     have core:∀ σ H Q,lE (zt X cl) Φ Ex (.ite c' a' b') σ H Q→tIf (lT (zt X cl) Φ Ex c') (lE (zt X cl) Φ Ex a') (lE (zt X cl) Φ Ex b') σ H Q:=by
       rintro σ H Q ⟨m,st,ρ,r,en,q⟩
       simp only [xE] at q
       refine GY r en q (fun x st hx=>by cases x <;> first | rfl | exact absurd rfl (hx _)) fun bb st1 m1 H1 g1 r1 en1 q1=>?_
       cases bb with
       | true=>exact sC ⟨m1,st1,ρ,r1,en1,q1⟩
       | false=>exact tD ⟨m1,st1,ρ,r1,en1,q1⟩
     refine ⟨PE.wk (DU (S.e _ _ h0).2 (S.e _ _ h1).1 (S.e _ _ h2).1) core,?_⟩
     rintro pins s σ H Q I ⟨m,st,ρ,r,en,q⟩
     simp only [xE] at q
     show wpAny _ _ (do if ← isTrue c X.env (eval c X.env) then isTrue a X.env (eval a X.env) else isTrue b X.env (eval b X.env)) _ _ _
     have rd:lT (zt X cl) Φ Ex c' σ H (fun bb H1=>if bb=true then lT (zt X cl) Φ Ex a' σ H1 Q else lT (zt X cl) Φ Ex b' σ H1 Q):=by
       refine nD r en q (fun x st hx=>by cases x <;> first | rfl | exact absurd rfl (hx _)) fun bb st1 m1 H1 g1 r1 en1 q1=>?_
       cases bb with
       | true=>exact sC ⟨m1,st1,ρ,r1,en1,q1⟩
       | false=>exact tD ⟨m1,st1,ρ,r1,en1,q1⟩
     refine wpAny_bind (thn ((S.e _ _ h0).2 pins s σ H _ I rd) ?_)
     rintro bb s1 ⟨H1,I1,hq⟩
     cases bb with
     | true=>rw [if_pos rfl] at hq; exact (S.e _ _ h1).2 pins s1 σ H1 Q I1 hq
     | false=>rw [if_neg (by decide)] at hq; exact (S.e _ _ h2).2 pins s1 σ H1 Q I1 hq
   | Tuple es kk pos=>
     simp only [trE,stE.eq_def,Option.bind_eq_some_iff,Option.some.injEq] at h
     obtain ⟨es',h1,rfl⟩:=h
     refine val _ _ (PE.wk (NC (S.a _ _ h1)) ?_) (fun _=>rfl)
     rintro σ H Q ⟨m,st,ρ,r,en,q⟩
     simp only [xE] at q
     refine mS r en q fun xs st1 m1 H1 vs g1 r1 dv q1=>?_
     split at q1
     · exact ⟨by have:=dv.length; have:=Ev.dB; omega,fun p hp=>Po.tup q1 r1 dv hp⟩
     · exact q1.elim
   | List es pos=>
     simp only [trE,stE.eq_def,Option.bind_eq_some_iff,Option.some.injEq] at h
     obtain ⟨es',h1,rfl⟩:=h
     refine val _ _ (PE.wk (Li (S.a _ _ h1)) ?_) (fun _=>rfl)
     rintro σ H Q ⟨m,st,ρ,r,en,q⟩
     simp only [xE] at q
     refine mS r en q fun xs st1 m1 H1 vs g1 r1 dv q1=>?_
     split at q1
     · exact ⟨by have:=dv.length; have:=Ev.dB; omega,fun p hp=>Po.new q1 r1 dv hp⟩
     · exact q1.elim
   | Subscript a i pos=>
     have plain:(∀ l u st p,i ≠ .Slice l u st p)→PE X (.Subscript a i pos) (lE (zt X cl) Φ Ex e)∧PT X (.Subscript a i pos) (lT (zt X cl) Φ Ex e):=by
       intro hi
       have hps:Bp i:=fun o v=>by cases i <;> first | rfl | exact absurd rfl (hi _ _ _ _)
       have h':((trE T n a).bind fun a'=>(trE T n i).bind fun i'=>some (.ix a' i'))=some e:=by
         cases i <;> first | exact absurd rfl (hi _ _ _ _) | (simpa only [trE,stE.eq_def] using h)
       simp only [Option.bind_eq_some_iff,Option.some.injEq] at h'
       obtain ⟨a',h1,i',h2,rfl⟩:=h'
       refine val _ _ (PE.wk (OM (Nh (cl:=cl) (Ex:=Ex)) (S.e _ _ h1).1 (S.e _ _ h2).1 hps) ?_) (fun _=>rfl)
       rintro σ H Q ⟨m,st,ρ,r,en,q⟩
       simp only [xE] at q
       exact uz r en q
     cases i with
     | Slice lo hi st p2=>
       cases st with
       | some y=>exact bM (show (none:Option E)=some _ from h)
       | none=>
         simp only [trE,stE.eq_def,Option.bind_eq_some_iff,Option.some.injEq] at h
         obtain ⟨a',h1,l',h2,u',h3,rfl⟩:=h
         refine val _ _ (PE.wk (DL Ie (S.e _ _ h1).1 (S.p _ _ h2) (S.p _ _ h3)) ?_) (fun _=>rfl)
         rintro σ H Q ⟨m,st,ρ,r,en,q⟩
         simp only [xE] at q
         refine di r en q fun x st1 m1 H1 v g1 r1 en1 dv q1=>?_
         refine ⟨m1,st1,ρ,r1,en1,aq (az q1) (fun _ _ z=>z) fun y st2 _ q2=>?_⟩
         cases hy:vL l' y with
         | none=>rw [hy] at q2; exact q2.elim
         | some lo'=>
           rw [hy] at q2
           refine ⟨lo',rfl,fun m2 H2 g2 r2=>?_⟩
           refine ⟨m2,st2,ρ,r2,en1.mono g2,aq (az q2) (fun c s z=>kE.sh g2 c s z) fun z st3 _ q3=>?_⟩
           cases hz:vL u' z with
           | none=>rw [hz] at q3; exact q3.elim
           | some hi'=>
             rw [hz] at q3
             refine ⟨hi',rfl,fun m3 H3 g3 r3=>?_⟩
             dsimp only at q3
             unfold DD at q3
             split at q3
             · rename_i xs e1
               obtain ⟨p,vs,rfl,s1,d1⟩:=vy r3 (dv.mono (g2.trans g3)) e1
               exact ⟨p,vs,rfl,s1,fun p' hp'=>Po.new (Po.sh q3 (g2.trans g3)) r3 (Im d1 _ _) hp'⟩
             · exact q3.elim
     | _=>exact plain (fun _ _ _ _ z=>nomatch z)
   | Call f es ks pos=>
     obtain ⟨x,p,e0,es0,rfl,rfl,rfl⟩:∃ x p e0 es0,f=.Name x p∧es=e0 :: es0∧ks=[]:=by
       cases f with
       | Name x p=>
         cases es with
         | cons e0 es0=>
           cases ks with
           | nil=>exact ⟨_,_,_,_,rfl,rfl,rfl⟩
           | cons k ks=>exact bM (show (none:Option E)=some _ from h)
         | nil=>exact bM (show (none:Option E)=some _ from h)
       | _=>exact bM (show (none:Option E)=some _ from h)
     simp only [trE,stE.eq_def] at h
     split at h
     · rename_i hg
       have gl:=B.gl hg.1
       split at h
       · rename_i i hi
         simp only [Option.bind_eq_some_iff,Option.some.injEq] at h
         obtain ⟨es',h1,rfl⟩:=h
         exact val _ _ (Hb B hi gl hg.2 (S.a _ _ h1) (gW h1 _) (jl h1 _ _)) (fun _=>rfl)
       · split at h
         · rename_i hx
           subst hx
           split at h
           · rename_i t q
             split at h
             · rename_i hgt
               simp only [Option.bind_eq_some_iff,Option.some.injEq] at h
               obtain ⟨ty,h0,a',h1,rfl⟩:=h
               refine val _ _ (PE.wk (jf (JV (cl:=cl) ty) gl (B.blt _ (by simp [aP])) (by decide +kernel) (eL (S.e _ _ h1).1 (eL (Oo B.blt h0 (B.gl hgt)) ke rfl) (cY h1 _ _)) (by decide) hg.2 (cY h1 _ _) rfl) ?_) (fun _=>rfl)
               rintro σ H Q ⟨m,st,ρ,r,en,q⟩
               simp only [xE] at q
               refine di r en q fun x st1 m1 H1 v g1 r1 en1 dv q1=>?_
               have ne:(∀ c,x ≠ .exo c)∧Po (zt X cl) Ex m1 H1 Q (.ok (.bl (B7 ty x)) st1):=by
                 cases x <;> first | exact ⟨(by intro c z; cases z),q1⟩ | exact q1.elim
               exact ⟨m1,st1,v,x,r1,rfl,dv,ne.1,Po.ok ne.2 r1 .bl⟩
             · cases h
           · cases h
         · split at h
           · rename_i a ha
             obtain ⟨rfl,rfl,hgr,p,q,rfl⟩:=Dc ha
             simp only [Option.bind_eq_some_iff,Option.some.injEq] at h
             obtain ⟨es',h1,rfl⟩:=h
             refine val _ _ (PE.wk (MK (cl:=cl) (Ex:=Ex) B.calm B.blt gl (B.gl hgr) (S.a _ _ h1) (gW h1 _)) ?_) (fun _=>rfl)
             rintro σ H Q ⟨m,st,ρ,r,en,q⟩
             simp only [xE] at q
             exact mS r en q fun xs st1 m1 H1 vs g1 r1 dv q1=>⟨m1,st1,xs,r1,dv,q1⟩
           simp only [Option.bind_eq_some_iff,Option.some.injEq] at h
           obtain ⟨b,h0,es',h1,rfl⟩:=h
           refine val _ _ (PE.wk (NY (cl:=cl) (Ex:=Ex) B.calm B.blt h0 gl (S.a _ _ h1) (gW h1 _) (jl h1 _ _)) ?_) (fun _=>rfl)
           rintro σ H Q ⟨m,st,ρ,r,en,q⟩
           simp only [xE] at q
           exact mS r en q fun xs st1 m1 H1 vs g1 r1 dv q1=>⟨m1,st1,xs,r1,dv,q1⟩
     · cases h
   | ListComp elt gens scope pos=>
     match gens with
     | [⟨tg,iter,ifs,asy⟩]=>
       simp only [trE,stE.eq_def] at h
       split at h
       · rename_i hb0
         obtain ⟨rfl,hb⟩:=hb0
         simp only [Option.bind_eq_some_iff] at h
         obtain ⟨t,h1,it,h2,fs,h3,e',h4,h5⟩:=h
         split at h5
         · rename_i ho
           cases h5
           exact val _ _ (ER B S (fun B'=>jD n B') hb h1 h2 h3 h4 ho) (fun _=>rfl)
         · cases h5
       · cases h
     | []=>exact bM (show (none:Option E)=some _ from h)
     | ⟨_,_,_,_⟩ :: _ :: _=>exact bM (show (none:Option E)=some _ from h)
   | _=>exact bM (show (none:Option E)=some _ from h)
end
end Sv
namespace Sv
open PySem PySem.Spec PyProof.Rows L2
open Ev (D aL aT ag j7 kG eH slot slot_get je jX oE)
section
variable {X:Cx} {cl:Nat→Addr}
theorem Fh {α:Type}:∀ (its:List α) (k:Nat) (y:α),k≤its.length→its.insertIdx k y=its.take k++[y]++its.drop k
 | _,0,_,_=>rfl
 | a :: r,k + 1,y,h=>by
   rw [List.insertIdx_succ_cons,Fh r k y (by simpa using h)]
   rfl
theorem KP {its:List Value} {k:Nat} {y:Value} (h:k≤its.length):(its.toArray.extract 0 k).push y++its.toArray.extract k=(its.insertIdx k y).toArray:=by
 apply Array.toList_inj.mp
 simp only [Array.toList_append,Array.toList_push,Array.toList_extract,List.extract_eq_drop_take,List.drop_zero,Nat.sub_zero,List.size_toArray]
 rw [Fh its k y h]
 congr 1
 exact List.take_of_length_le (by rw [List.length_drop]; exact Nat.le_refl _)
noncomputable def IX:V→List V→Hp→VK→Prop:=fun x vs H Q=>∃ l xs,∃ i:Int,∃ y,x=.ref l∧vs=[.int i,y]∧H l=some (.lst xs)∧0≤i∧i.toNat≤xs.length∧xs.length < sizeLine∧Q .non (upd H l (.lst (xs.insertIdx i.toNat y)))
theorem Cs:MtM X "list.insert" IX:=by
 intro pins s σ H x vs v us Q I rx rv h
 obtain ⟨l,xs,i,y,rfl,rfl,hH,h0,h1,h2,q⟩:=h
 cases rx
 obtain ⟨u,w,rfl,ru,rw'⟩:=rv.two
 obtain ⟨t,rfl⟩:=ru
 obtain ⟨z,its,n,r,hl,e⟩:=I.Eo hH
 have hi:i < 2 ^ 63:=by have:=Int.toNat_of_nonneg h0; have:sizeLine < 2 ^ 62:=(by decide); omega
 have hf:Builtin.List.listFitsIndex i=true:=by
   unfold Builtin.List.listFitsIndex
   rw [Bool.and_eq_true]
   exact ⟨decide_eq_true (by omega),decide_eq_true hi⟩
 refine call_meets PySem.F.slot_list_insert ⟨_,e,rfl⟩ PySem.F.entry_list_insert (PySem.F.args_list_insert_3 _ _ _) (PySem.AutoSeq1.list_insert_list_int_val_1 l its.toArray n i t w (by simp [hf]) (by rw [List.size_toArray]; omega)) ⟨e,?_⟩
 have vi:∀ {xs:List V} {us:List Value} (k:Nat) {a:V} {b:Value},Vals xs us→RelV a b→Vals (xs.insertIdx k a) (us.insertIdx k b):=fun {xs us} k {a b} r ra=>by
   induction k generalizing xs us with
   | zero=>exact .cons ra r
   | succ k ih=>cases r with
     | nil=>exact .nil
     | cons r1 r2=>exact .cons r1 (ih r2)
 refine ⟨.non,_,I.Jn (its':=its.insertIdx i.toNat w) hH e ?_ (vi _ r rw') ?_,rfl,q⟩
 · show (its.toArray.extract 0 (if i < 0 then (i + (its.toArray.size:Int)).toNat else min i.toNat its.toArray.size)).push w++its.toArray.extract (if i < 0 then (i + (its.toArray.size:Int)).toNat else min i.toNat its.toArray.size)=_
   rw [if_neg (by omega),List.size_toArray,Nat.min_eq_left (by omega)]
   exact KP (by omega)
 · rw [List.length_insertIdx_of_le_length h1]; omega
noncomputable def rM (Z:Zt) (lm:Lm):V→List V→Hp→VK→Prop:=fun x vs H Q=>∃ m st a ds st',R Z m st H∧bt Z m H x a∧ar Z m H vs ds∧evM lm a ds st=some st'∧∀ v H',Go m H m H'→R Z m st' H'→Q v H'
theorem u9 {Z:Zt} {m:List Addr} {st:Sto} {H:Hp} (r:R Z m st H) {x:V} {l:Nat} {xs:List U} (d:bt Z m H x (.loc l)) (e:st[l]?=some (false,xs)):∃ a vs,x=.ref a∧m[l]?=some a∧H a=some (.lst vs)∧ar Z m H vs xs:=by
 obtain ⟨a,rfl,hl⟩:=jo d
 obtain ⟨b,vs,f1,f2,f3⟩:=r.at e
 rw [hl] at f1; cases f1
 unfold Lay at f2
 rw [if_neg (by decide)] at f2
 exact ⟨_,vs,rfl,hl,f2,f3⟩
theorem Em:MtR X "list.append" (rM (zt X cl) .append):=by
 rintro pins s σ H x vs v us Q I rx rv ⟨m,st,a,ds,st',r,dx,dn,e,q⟩
 match a,ds,e with
 | .loc l,[d],e=>
   simp only [evM.eq_def] at e
   split at e
   · rename_i xs hs
     split at e
     · rename_i hl
       cases e
       obtain ⟨p,ws,rfl,f1,f2,f3⟩:=u9 r dx hs
       obtain ⟨y,rfl,dy⟩:=yn dn
       obtain ⟨g,r'⟩:=r.put f1 hs (f3.append (.cons dy .nil))
       exact oH pins s σ H _ _ v us Q I rx rv ⟨p,ws,y,rfl,rfl,f2,by have:=f3.length; have:=Ev.dB; omega,q _ _ g r'⟩
     · cases e
   · cases e
theorem EA:MtR X "list.extend" (rM (zt X cl) .extend):=by
 rintro pins s σ H x vs v us Q I rx rv ⟨m,st,a,ds,st',r,dx,dn,e,q⟩
 match a,ds,e with
 | .loc l,[.loc j],e=>
   simp only [evM.eq_def] at e
   split at e
   · rename_i xs ys hs hs2
     split at e
     · rename_i hl
       cases e
       obtain ⟨p,ws,rfl,f1,f2,f3⟩:=u9 r dx hs
       obtain ⟨y,rfl,dy⟩:=yn dn
       obtain ⟨p2,ws2,rfl,k1,k2,k3⟩:=u9 r dy hs2
       obtain ⟨g,r'⟩:=r.put f1 hs (f3.append k3)
       exact CC pins s σ H _ _ v us Q I rx rv ⟨p,p2,ws,ws2,rfl,rfl,f2,k2,by have:=f3.length; have:=k3.length; have:=Ev.dB; omega,q _ _ g r'⟩
     · cases e
   · cases e
noncomputable def trM (m:Str) (n:Nat):Option Lm:=if m = "append" ∧ n=1 then some .append else if m = "extend" ∧ n=1 then some .extend else none
noncomputable def isNm:Expr→Bool
 | .Name _ _=>true
 | _=>false
noncomputable def uP:Expr→Bool
 | .Tuple _ _ _=>false
 | _=>true
noncomputable def MR:Expr→Str→List Expr→Option (Expr × Expr)
 | .Name g _,m,[a,.Call (.Attribute (.Name g2 _) m2 ap) [b] [] cp]=>if m = "insert" ∧ m2 = "pop" ∧ g2=g∧(ap.endLine == cp.line)=true then some (a,b) else none
 | _,_,_=>none
theorem Gk {o:Expr} {m:Str} {es:List Expr} {a b:Expr} (h:MR o m es=some (a,b)):m = "insert" ∧ ∃ g p p2 ap cp,o=.Name g p∧es=[a,.Call (.Attribute (.Name g p2) "pop" ap) [b] [] cp]∧(ap.endLine == cp.line)=true:=by
 unfold MR at h
 split at h
 · split at h
   · rename_i hc
     obtain ⟨rfl,rfl,rfl,hl⟩:=hc
     cases h
     exact ⟨rfl,_,_,_,_,_,rfl,rfl,hl⟩
   · cases h
 · cases h
noncomputable def Kb:E→Bool
 | .var _=>true
 | _=>false
noncomputable def stS (T:Tr) (rE:Expr→Option E) (rEs:List Expr→Option (List E)) (rI:Expr→Option It) (rS:List Stmt→Option (List S)):Stmt→Option S
 | .Assign [.Subscript a i p] e _=>if uP i=true then (rE e).bind fun e'=>(rE a).bind fun a'=>(rE i).bind fun i'=>some (.put a' i' e') else none
 | .Assign [tg] e _=>if uP e=true∨isNm tg=true then (nN T tg).bind fun t=>(rE e).bind fun e'=>some (.set t e') else none
 | .Return (some e) _=>(rE e).bind fun e'=>some (.ret e')
 | .If c a b _=>(rE c).bind fun c'=>(rS a).bind fun a'=>(rS b).bind fun b'=>some (.ite c' a' b')
 | .For tg it body [] _=>(nN T tg).bind fun t=>(rI it).bind fun it'=>(rS body).bind fun b'=>if vO tg it'=true then some (rowsOf t it' b') else none
 | .While c body [] _=>(rE c).bind fun c'=>(rS body).bind fun b'=>some (.while c' b')
 | .Expr (.Call (.Attribute o m apos) es [] cpos) _=>
   if (apos.endLine == cpos.line)=true then match MR o m es with
     | some (a,b)=>(rE o).bind fun o'=>(rE a).bind fun a'=>(rE b).bind fun b'=>if Kb o'=true then some (.mth .rot o' [a',b']) else none
     | none=>(trM m es.length).bind fun lm=>(rE o).bind fun o'=>(rEs es).bind fun es'=>some (.mth lm o' es')
   else none
 | .Expr (.Call (.Name f p) es ks q) _=>(rE (.Call (.Name f p) es ks q)).bind fun e'=>some (.expr e')
 | .Raise _ _ _=>some .nev
 | _=>none
mutual
noncomputable def trS (T:Tr):Nat→Stmt→Option S
 | 0,_=>none
 | n + 1,s=>stS T (fun e=>trE T n e) (fun es=>kh T n es) (fun i=>trI T n i) (fun ss=>cg T n ss) s
noncomputable def cg (T:Tr):Nat→List Stmt→Option (List S)
 | 0,_=>none
 | _ + 1,[]=>some []
 | n + 1,s :: ss=>(trS T n s).bind fun s'=>(cg T n ss).bind fun ss'=>some (s' :: ss')
end
end
end Sv
namespace Sv
open PySem PySem.Spec PyProof.Rows L2
open Ev (D aL aT ag j7 kG eH slot slot_get je jX oE)
noncomputable def kF (Z:Zt) (m:List Addr) (H:Hp) (D:Ends):Fl→Sto→Prop
 | .nx ρ,st'=>∀ m' H' σ',Go m H m' H'→R Z m' st' H'→cj Z m' H' σ' ρ→D.nx σ' H'
 | .rt d,st'=>∀ m' H' v,Go m H m' H'→R Z m' st' H'→bt Z m' H' v d→D.rt v H'
theorem kF.sh {Z:Zt} {m m1:List Addr} {H H1:Hp} {D:Ends} (g:Go m H m1 H1):∀ f st,kF Z m H D f st→kF Z m1 H1 D f st
 | .nx _,_,h=>fun m' H' σ' g'=>h m' H' σ' (g.trans g')
 | .rt _,_,h=>fun m' H' v g'=>h m' H' v (g.trans g')
noncomputable abbrev PoF (Z:Zt) (Ex:Nat→Hp→Prop) (m:List Addr) (H:Hp) (D:Ends) (x:Rs Fl):Prop:=post (kE Z Ex m H) (kF Z m H D) x
theorem PoF.sh {Z:Zt} {Ex:Nat→Hp→Prop} {m m1:List Addr} {H H1:Hp} {D:Ends} {x:Rs Fl} (h:PoF Z Ex m H D x) (g:Go m H m1 H1):PoF Z Ex m1 H1 D x:=aq h (kE.sh g) fun a st _=>kF.sh g a st
section
variable (Z:Zt) (Φ:Fn) (Ex:Nat→Hp→Prop) (n:Nat)
noncomputable def lS (s:S):TS:=fun D σ H=>∃ m st ρ,R Z m st H∧cj Z m H σ ρ∧PoF Z Ex m H D (xS Φ n s ρ st)
noncomputable def lSs (ss:List S):TS:=fun D σ H=>∃ m st ρ,R Z m st H∧cj Z m H σ ρ∧PoF Z Ex m H D (xSs Φ n ss ρ st)
end
section
variable {X:Cx} {T:Tr} {Φ:Fn} {cl:Nat→Addr} {CX:CXT} {Ex:Nat→Hp→Prop} {k:Nat}
theorem PS.wk {e:Stmt} {t t':TS} (h:PS X e t) (f:∀ E σ H,t' E σ H→t E σ H):PS X e t':=fun pins s σ H E I q=>h pins s σ H E I (f E σ H q)
theorem PSs.wk {e:List Stmt} {t t':TS} (h:PSs X e t) (f:∀ E σ H,t' E σ H→t E σ H):PSs X e t':=fun pins s σ H E I q=>h pins s σ H E I (f E σ H q)
theorem PS.nox {st:Stmt} {t:TS} (h:PS X.nox st t):PS X st t:=fun pins s σ H D I hw=>
 wpAny_mono (h pins s σ H D (I.q9 _) hw) (fun _ _ q=>q.jP) fun _ _ z=>False.elim z
theorem Bg.nox (B:Bg X T Φ cl CX Ex k):Bg X.nox T Φ cl CX (fun _ _=>False) k:=
 ⟨B.sc,B.nm,B.nd,B.calm,B.room,B.blt,B.cal,B.fn,B.cst,B.cxn,KI B.cxn⟩
theorem fT {Z:Zt} {m:List Addr} {st:Sto} {ρ:Env} {H:Hp} {σ:L2.St} {D:Ends} {Q1:VK} {a:E} {f:U→Sto→Rs Fl} (r:R Z m st H) (en:cj Z m H σ ρ) (h:PoF Z Ex m H D ((xE Φ a ρ st).bind f))
   (k:∀ x st1 m1 H1 v,Go m H m1 H1→R Z m1 st1 H1→cj Z m1 H1 σ ρ→bt Z m1 H1 v x→PoF Z Ex m1 H1 D (f x st1)→Q1 v H1):lE Z Φ Ex a σ H Q1:=
 ⟨m,st,ρ,r,en,aq (az h) (fun _ _ z=>z) fun x st1 _ hx m1 H1 v g1 r1 dv=>k x st1 m1 H1 v g1 r1 (en.mono g1) dv (PoF.sh hx g1)⟩
theorem Fz {Z:Zt} {m:List Addr} {st:Sto} {ρ:Env} {H:Hp} {σ:L2.St} {D:Ends} {Q1:List V→Hp→Prop} {es:List E} {f:List U→Sto→Rs Fl} (r:R Z m st H) (en:cj Z m H σ ρ) (h:PoF Z Ex m H D ((xEs Φ es ρ st).bind f))
   (k:∀ xs st1 m1 H1 vs,Go m H m1 H1→R Z m1 st1 H1→cj Z m1 H1 σ ρ→ar Z m1 H1 vs xs→PoF Z Ex m1 H1 D (f xs st1)→Q1 vs H1):lEs Z Φ Ex es σ H Q1:=
 ⟨m,st,ρ,r,en,aq (az h) (fun _ _ z=>z) fun xs st1 _ hx m1 H1 vs g1 r1 dv=>k xs st1 m1 H1 vs g1 r1 (en.mono g1) dv (PoF.sh hx g1)⟩
theorem Bm {Z:Zt} {m:List Addr} {st:Sto} {ρ:Env} {H:Hp} {σ:L2.St} {D:Ends} {Q1:Bool→Hp→Prop} {a:E} {f:U→Sto→Rs Fl} (r:R Z m st H) (en:cj Z m H σ ρ) (h:PoF Z Ex m H D ((xE Φ a ρ st).bind f)) (hf:∀ x st,(∀ b,x ≠ .bl b)→f x st=.bad)
   (k:∀ b st1 m1 H1,Go m H m1 H1→R Z m1 st1 H1→cj Z m1 H1 σ ρ→PoF Z Ex m1 H1 D (f (.bl b) st1)→Q1 b H1):lT Z Φ Ex a σ H Q1:=
 ⟨m,st,ρ,r,en,aq (az h) (fun _ _ z=>z) fun x st1 _ hx=>by
   cases x with
   | bl b=>exact ⟨b,rfl,fun m1 H1 g1 r1=>k b st1 m1 H1 g1 r1 (en.mono g1) (PoF.sh hx g1)⟩
   | _=>rw [hf _ _ (by intro b z; cases z)] at hx; exact hx.elim⟩
theorem GP {T:Tr} {n:Nat} {e:Expr} {e':E} (h:trE T n e=some e') (t:Option Expr) (l:Nat) (env:PySem.Env) (hs:∀ a b c d,e ≠ .ListComp a b c d):swapsWith e t l env=pure false:=by
 cases n with
 | zero=>rw [trE] at h; cases h
 | succ n=>
   cases e with
   | ListComp a b c d=>exact absurd rfl (hs _ _ _ _)
   | SetComp a b c d=>exact bM (show (none:Option E)=some _ from h)
   | DictComp a b c d e=>exact bM (show (none:Option E)=some _ from h)
   | _=>rfl
end
end Sv
namespace Ev
open PySem PySem.Spec PyProof.Rows L2
theorem vM {X:Cx} {gT:TG} {y:Str} {py spos:Pos} {elt tg iter:Expr} {ifs:List Expr} {scope:Scope} {N:List Str} {caps:List (Option Nat)} {pos:Pos} {wi:TI} {In:TG→TT→TE→Prop} (hT:PG X (.Name y py) gT) (hc:X.calm=true) (c:ny X scope N caps) (hi:PI X tg iter wi)
   (hs:∀ x,foldedSetIterable iter X.env x=pure x)
   (hin:∀ g tt te,In g tt te→∀ s H fp,PG (aS X s H scope N fp) tg g∧PTs (aS X s H scope N fp) ifs tt∧PE (aS X s H scope N fp) elt te)
   (hsw:swapsWith (.ListComp elt [⟨tg,iter,ifs,0⟩] scope pos) (some (.Name y py)) spos.line X.env=pure true) :
   PS X (.Assign [.Name y py] (.ListComp elt [⟨tg,iter,ifs,0⟩] scope pos) spos) (Lv (oZ In caps wi) gT):=by
 intro pins s σ H D I h
 rw [exec_Assign_Name_used _ _ _ _ hsw]
 refine wpAny_bind (wpAny_standAt (wpAny_bind ?_))
 show wpAny _ _ (do let _ ← comprehension (.ListComp elt [⟨tg,iter,ifs,0⟩] scope pos) scope X.env _ (newList []) false _ (some (assign (.Name y py) X.env))) _ _ s
 refine wpAny_bind ?_
 have hcl:=AG (mj I c)
 refine wpAny_comprehension_free (use:=some (assign (.Name y py) X.env)) (Q:=fun _ s'=>wpAny (model X.prog X.w) X.A (pure ()) (fun _ s''=>wpAny (model X.prog X.w) X.A (pure Flow.next) (SP X pins D) X.xe s'') X.xe s') (g:=⟨tg,iter,ifs,0⟩) (gs:=[]) rfl hs hcl c.kind c.loc ?_
 show wpAny _ _ (eval iter X.env) _ _ s
 refine thn (hi pins s σ H _ I h) fun v s1 h1=>thn h1 fun itv s2 h2=>?_
 obtain ⟨it,fp,tn,J,H2,e,I2,T,st2,f2,g,tt,te,hI,q⟩:=h2
 subst e
 obtain ⟨Z,⟨m0,z0⟩,turn⟩:=q s2.heap.objs.size (I2.hok.fresh (Nat.le_refl _))
 have ho:∀ b ∈ fp,∃ o,s2.heap.get? b=some o:=fun b hb=>let ⟨o,e,_⟩:=T.obj _ _ st2 b hb; ⟨o,e⟩
 have I4:=x6 (scope:=scope) (N:=N) (caps:=caps) I2 f2 ho c
 obtain ⟨hg,ht,he⟩:=hin g tt te hI s2 H2 fp
 refine wpAny_newObj_type (tO ?_) (by show 0≤sizeLine; decide)
 have hC:(s2.heap.push { cls:=.type "list",dict:=none,data:=.seq ([]:List Value).toArray }).objs.size=s2.heap.objs.size + 1:=Heap.size_push ..
 dsimp only
 rw [hC]
 have kp:∀ b o,s2.heap.get? b=some o→(pushCells ((s2.heap.push { cls:=.type "list",data:=.seq ([]:List Value).toArray }).push { cls:=.type "dict",data:=.dict #[] }) scope.names).get? b=some o:=fun b o e=>
   pushCells_keeps _ _ b o (Heap.get?_push_of_some _ (Heap.get?_push_of_some _ e))
 have st4:tn 0 (pushCells ((s2.heap.push { cls:=.type "list",data:=.seq ([]:List Value).toArray }).push { cls:=.type "dict",data:=.dict #[] }) scope.names):=T.keep _ _ _ st2 fun b _ o e=>kp b o e
 have stat:∀ {H':Hp},(∀ b ∈ fp,H' b=none)→∀ b ∈ fp,sT (aS X s2 H2 scope N fp) [] H' b:=fun hn b hb=>
   ⟨hn b hb,(I4.ok.exf b hb).1,I4.ok.exfs b hb,.inl hb,(I4.ok.exf b hb).2,fun p hp=>absurd (show p ∈ ([]:List (Addr × Obj)) from hp) (by simp)⟩
 have fr4:∀ b ∈ fp,(upd H2 s2.heap.objs.size (.lst [])) b=none:=fun b hb=>by
   obtain ⟨o,e⟩:=ho b hb
   rw [aF (Nat.ne_of_lt (Heap.lt_size e))]; exact (f2 b hb).1
 have loop:codeAny (model X.prog X.w) X.A (.compLoop (.ListComp elt [⟨tg,iter,ifs,0⟩] scope pos) 0 (.ref it) (.ref s2.heap.objs.size) (aS X s2 H2 scope N fp).env)
     (compPost (model X.prog X.w) X.A X.xe (some (assign (.Name y py) X.env)) (fun _ s'=>wpAny (model X.prog X.w) X.A (pure ()) (fun _ s''=>wpAny (model X.prog X.w) X.A (pure Flow.next) (SP X pins D) X.xe s'') X.xe s') (.ref s2.heap.objs.size) (s2.heap.objs.size + 1))
     { s2 with heap:=pushCells ((s2.heap.push { cls:=.type "list",data:=.seq ([]:List Value).toArray }).push { cls:=.type "dict",data:=.dict #[] }) scope.names }:=by
   refine qP (fun n s'=>∃ i σ' H',Inv (aS X s2 H2 scope N fp) [] σ' H' s'∧tn i s'.heap∧(∀ b ∈ fp,H' b=none)∧Z i n σ' H') ?_ m0 ⟨0,_,_,I4,st4,fr4,z0⟩
   rintro n s3 ⟨i,σ3,H3,I3,st3,fr3,w3⟩
   rcases turn i n σ3 H3 w3 with ⟨stop,qn⟩ | ⟨go,step⟩
   · refine thn (T.done (aS X s2 H2 scope N fp) rfl rfl rfl hc i [] s3 σ3 H3 _ I3 (stat fr3) st3 stop) fun r s5 ⟨hr,I5⟩=>?_
     subst hr
     obtain ⟨m,hn,_⟩:=id I5.loc
     have I6:Inv X pins σ H3 s5:=by
       have lt:∀ b o,s2.heap.get? b=some o→b ≠ s2.heap.objs.size + 1:=fun b o e=>Nat.ne_of_lt (Nat.lt_succ_of_lt (Heap.lt_size e))
       have u:=I5.base
       have u':Un (frs X.stack) fp H2 H3 s2.heap s5.heap:=⟨fun b o e n1 n2 n3=>u.keep b o e n1 n2 n3,fun b o e n1 n2 n3=>u.slot b o e n1 n2 n3,u.free,fun b o e n1=>u.there b o e n1,u.tups,u.frzs,u.tbls⟩
       exact I2.JA (s':=s5) I5.os u' I5.hok I5.bare fun b hb=>⟨(f2 b hb).2.2.2.1,(f2 b hb).2.1,(f2 b hb).2.2.2.2.1,(f2 b hb).2.2.2.2.2⟩
     have fC:H3 (s2.heap.objs.size + 1)=none:=I5.free
     have fk:sT X pins H3 (s2.heap.objs.size + 1):=I2.zO (Nat.le_succ _) fC
     obtain ⟨oC,es,ep,hoC,hdC,rC⟩:=id hn
     have hpin:=I6.pinned (fp:=[s2.heap.objs.size + 1]) (fun b hb=>by rw [List.mem_singleton.mp hb]; exact fk) (fun b hb=>by rw [List.mem_singleton.mp hb]; exact ⟨oC,hoC,fun v z=>by rw [hdC] at z; cases z⟩)
     have hmem:(s2.heap.objs.size + 1,oC) ∈ my [s2.heap.objs.size + 1] s5.heap:=eV (List.mem_singleton_self _) hoC
     refine thn (hT _ s5 σ H3 (.ref s2.heap.objs.size) (.ref s2.heap.objs.size) _ hpin rfl qn) fun _ s6 ⟨σ6,H6,I7,q7⟩=>?_
     obtain ⟨p1,p2,p3,p4,p5⟩:=I7.pin _ (List.mem_append_right _ (List.mem_append_right _ hmem))
     refine ⟨m,⟨oC,es,ep,p1,hdC,rC⟩,fun h' sb=>wpAny_pure (wpAny_pure ?_)⟩
     refine ⟨σ6,H6,?_,q7⟩
     exact (I7.ja).turned (t':=s6.toks) (it:=s2.heap.objs.size + 1) (fun b o hb e=>(sb.2 b hb).trans e) p2 p3 fk.2.2.2.1 fk.2.2.2.2.1 fk.2.2.2.2.2
   · refine thn (T.item (aS X s2 H2 scope N fp) rfl rfl rfl hc i [] s3 σ3 H3 _ I3 (stat fr3) st3 go) fun r s4 ⟨u,hr,h4⟩=>?_
     subst hr
     refine thn h4 fun _ s5 ⟨x,H5,I5,r5,y5,st5,fr5⟩=>?_
     have I5':=I5.pinned (stat fr5) (T.obj _ _ st5)
     refine thn (hg _ s5 σ3 H5 x u _ I5' r5 (step x H5 y5)) fun _ s6 ⟨σ6,H6,I6,q6⟩=>?_
     have again:∀ {s7:Shared} {σ7:L2.St} {H7:Hp} {m':Nat},Inv (aS X s2 H2 scope N fp) ([]++my fp s5.heap) σ7 H7 s7→m' < n→Z (i + 1) m' σ7 H7 →
         ∃ m,m < n∧∃ i σ' H',Inv (aS X s2 H2 scope N fp) [] σ' H' s7∧tn i s7.heap∧(∀ b ∈ fp,H' b=none)∧Z i m σ' H':=fun {s7 σ7 H7 m'} I7 hm z7=>by
       refine ⟨m',hm,i + 1,σ7,H7,I7.ja,T.keep _ _ _ st5 fun b hb o e=>(I7.pin (b,o) (List.mem_append_right _ (List.mem_append_right _ (eV hb e)))).1,fun b hb=>?_,z7⟩
       obtain ⟨o,e,d⟩:=T.obj _ _ st5 b hb
       exact (I7.pin (b,o) (List.mem_append_right _ (List.mem_append_right _ (eV hb e)))).2.1
     refine thn (ht _ s6 σ6 H6 _ I6 q6) fun ok s7 ⟨H7,I7,q7⟩=>?_
     cases ok with
     | false=>
       rw [if_neg (by decide)] at q7
       obtain ⟨m',hm,z7⟩:=q7
       exact again I7 hm z7
     | true=>
       rw [if_pos rfl] at q7
       refine thn (he _ s7 σ6 H7 _ I7 q7) fun v' s8 ⟨v,H8,I8,r8,vs,m',q8,l8,hm,z8⟩=>?_
       refine thn (oH (X:=aS X s2 H2 scope N fp) _ s8 σ6 H8 (.ref s2.heap.objs.size) [v] (.ref s2.heap.objs.size) [v'] (fun _ H9=>H9=upd H8 s2.heap.objs.size (.lst (vs++[v]))) I8 rfl (.cons r8 .nil) ⟨_,vs,v,rfl,rfl,q8,l8,rfl⟩) fun _ s9 ⟨_,H9,I9,_,e9⟩=>?_
       subst e9
       exact again I9 hm z8
 exact codeAny_compStart_list loop (T.self _ 0 _ _ _ st4 loop)
end Ev
namespace Sv
open PySem PySem.Spec PyProof.Rows L2
open Ev (D aL aT ag j7 kG eH slot slot_get je jX oE vM oZ PTs aS)
section
variable {Φ:Fn} {cl:Nat→Addr} {CX:CXT} {k:Nat}
structure Pw (X:Cx) (T:Tr) (Φ:Fn) (cl:Nat→Addr) (Ex:Nat→Hp→Prop) (m n:Nat):Prop where
 s:∀ ps s,trS T n ps=some s→PS X ps (lS (zt X cl) Φ Ex m s)
 ss:∀ ps s,cg T n ps=some s→PSs X ps (lSs (zt X cl) Φ Ex m s)
theorem DW {tg e:Expr} (h:uP e=true∨isNm tg=true) (env:PySem.Env):swappedStores [tg] e env=pure none:=by
 cases tg with
 | Tuple a b c=>
   rcases h with h | h
   · cases e <;> first | rfl | cases h
   · cases h
 | List a b=>
   rcases h with h | h
   · cases e <;> first | rfl | cases h
   · cases h
 | _=>rfl
theorem CN {X:Cx} {T:Tr} {Ex:Nat→Hp→Prop} {n:Nat} (B:Bg X T Φ cl CX Ex k) {elt tg iter:Expr} {ifs:List Expr} {scope:Scope} {pos:Pos} {e:E} {y:Str} {py spos:Pos} {t:Tg} {m:Nat} {asy:Int} (hT:nN T (.Name y py)=some t)
   (he:trE T n (.ListComp elt [⟨tg,iter,ifs,asy⟩] scope pos)=some e) (hsw:swapsWith (.ListComp elt [⟨tg,iter,ifs,asy⟩] scope pos) (some (.Name y py)) spos.line X.env=pure true) :
   PS X (.Assign [.Name y py] (.ListComp elt [⟨tg,iter,ifs,asy⟩] scope pos) spos) (lS (zt X cl) Φ Ex m (.set t e)):=by
 have hasg:=sk B hT
 cases n with
 | zero=>rw [trE] at he; cases he
 | succ n=>
   simp only [trE,stE.eq_def] at he
   split at he
   · rename_i hb0
     obtain ⟨rfl,hb⟩:=hb0
     simp only [Option.bind_eq_some_iff] at he
     obtain ⟨t',h1,it,h2,fs,h3,e',h4,h5⟩:=he
     split at h5
     · rename_i ho
       cases h5
       have b:=yA hb
       have S:=jD n B
       obtain ⟨hi,hs⟩:=S.i tg iter it h2 ho
       refine PS.wk (vM (In:=fun g tt te=>g=lG (zt X cl) t'∧tt=lIf (zt X cl) Φ (fun _ _=>False) fs∧te=lE (zt X cl) Φ (fun _ _=>False) e') hasg B.calm (EJ B b) hi hs ?_ hsw) ?_
       · rintro g tt te ⟨rfl,rfl,rfl⟩ s H fp
         have B':=Gq B b s H fp
         have S':=jD n B'
         exact ⟨sk B' h1,S'.f _ _ h3,(S'.e _ _ h4).1⟩
       · rintro D σ H ⟨m,st,ρ,r,en,h⟩
         simp only [xS] at h
         have key:lE (zt X cl) Φ Ex (.comp (iG T scope) t' it fs e') σ H (fun x H1=>lG (zt X cl) t x σ H1 D.nx):=by
           refine fT r en h fun x st1 m1 H1 v g1 r1 en1 dv q1=>?_
           split at q1
           · rename_i ρ' hset
             exact ⟨m1,st1,ρ,x,ρ',r1,en1,dv,hset,fun σ' en'=>q1 m1 H1 σ' (Go.refl _ _) r1 en'⟩
           · exact q1.elim
         exact AU h1 σ H _ key
     · cases h5
   · cases he
theorem kK {T:Tr} {n:Nat} {o:Expr} {o':E} {m:Str} (h:trE T n o=some o') (env:PySem.Env) (w:Sem Value):attributeBase o m env w=w:=by
 cases n with
 | zero=>rw [trE] at h; cases h
 | succ n=>
   cases o with
   | Call f es ks pos=>
     cases f with
     | Name x p=>
       cases es with
       | cons e0 es0=>rfl
       | nil=>
         cases ks with
         | cons k ks=>rfl
         | nil=>exact bM (show (none:Option E)=some _ from h)
     | _=>rfl
   | _=>rfl
theorem zP {Z:Zt} {m:List Addr} {H:Hp} {D:Ends} {Ex:Nat→Hp→Prop} {o:Option Sto} {ρ:Env} (h:PoF Z Ex m H D (ofS o ρ)):∃ st',o=some st'∧∀ m' H' σ',Go m H m' H'→R Z m' st' H'→cj Z m' H' σ' ρ→D.nx σ' H':=by
 cases o with
 | none=>exact h.elim
 | some st'=>exact ⟨st',rfl,h⟩
theorem u7 (m:Nat):∀ (n:Nat) {X:Cx} {T:Tr} {Ex:Nat→Hp→Prop},Bg X T Φ cl CX Ex k→Pw X T Φ cl Ex m n
 | 0,X,T,Ex,B=>⟨(fun _ _ h=>by exact bM (show (none:Option Sv.S)=some _ from h)),(fun _ _ h=>by simp [cg] at h)⟩
 | n + 1,X,T,Ex,B=>by
   have S:=u7 m n B
   have Z:=jD n B
   refine ⟨?_,?_⟩
   case refine_2=>
     intro ps s h
     cases ps with
     | nil=>
       simp only [cg,Option.some.injEq] at h
       subst h
       refine PSs.wk HV ?_
       rintro D σ H ⟨m,st,ρ,r,en,q⟩
       simp only [xSs] at q
       exact q m H σ (Go.refl m H) r en
     | cons p ps=>
       simp only [cg,Option.bind_eq_some_iff,Option.some.injEq] at h
       obtain ⟨s',h1,ss',h2,rfl⟩:=h
       refine PSs.wk (Fq (S.s _ _ h1) (S.ss _ _ h2)) ?_
       rintro D σ H ⟨m,st,ρ,r,en,q⟩
       simp only [xSs] at q
       refine ⟨m,st,ρ,r,en,aq (az q) (fun _ _ z=>z) fun f st1 _ hf=>?_⟩
       cases f with
       | nx ρ'=>exact fun m1 H1 σ1 g1 r1 en1=>⟨m1,st1,ρ',r1,en1,PoF.sh hf g1⟩
       | rt d=>exact hf
   case refine_1=>
     intro ps s h
     cases ps with
     | Assign ts e pos=>
       match ts with
       | []=>exact bM (show (none:Option Sv.S)=some _ from h)
       | t :: t2 :: rs=>cases t <;> exact bM (show (none:Option Sv.S)=some _ from h)
       | [tg]=>
         have gen:(∀ a i p,tg ≠ .Subscript a i p)→PS X (.Assign [tg] e pos) (lS (zt X cl) Φ Ex m s):=by
           intro hns
           have h':(if uP e=true∨isNm tg=true then (nN T tg).bind fun t=>(trE T n e).bind fun e'=>some (.set t e') else none)=some s:=by
             cases tg <;> first | (simpa only [trS,stS.eq_def] using h) | exact absurd rfl (hns _ _ _)
           split at h'
           · rename_i hnt
             simp only [Option.bind_eq_some_iff,Option.some.injEq] at h'
             obtain ⟨t,h1,e',h3,rfl⟩:=h'
             have rd:∀ D σ H,lS (zt X cl) Φ Ex m (.set t e') D σ H→Lv (lE (zt X cl) Φ Ex e') (lG (zt X cl) t) D σ H:=by
               rintro D σ H ⟨m,st,ρ,r,en,q⟩
               simp only [xS] at q
               refine fT r en q fun x st1 m1 H1 v g1 r1 en1 dv q1=>?_
               split at q1
               · rename_i ρ' hset
                 exact ⟨m1,st1,ρ,x,ρ',r1,en1,dv,hset,fun σ' en'=>q1 m1 H1 σ' (Go.refl _ _) r1 en'⟩
               · exact q1.elim
             have ord:swapsWithSole [tg] e pos.line X.env=pure false→PS X (.Assign [tg] e pos) (lS (zt X cl) Φ Ex m (.set t e')):=fun hsw=>by
               refine PS.wk (Df (Z.e _ _ h3).1 (sk B h1) hsw (DW hnt _) ?_) rd
               cases tg <;> first | rfl | (simp [nN] at h1)
             by_cases hl:∃ a b c d,e=.ListComp a b c d
             · obtain ⟨elt,gens,sc,lp,rfl⟩:=hl
               match gens,h3 with
               | [⟨tg',iter,ifs,asy⟩],h3=>
                 cases tg with
                 | Name y py=>
                   have hb:∃ b,swapsWith (.ListComp elt [⟨tg',iter,ifs,asy⟩] sc lp) (some (.Name y py)) pos.line X.env=pure b:=⟨_,rfl⟩
                   obtain ⟨b,hb⟩:=hb
                   cases b with
                   | true=>exact CN B h1 h3 hb
                   | false=>exact ord hb
                 | Tuple _ _ _=>exact ord rfl
                 | _=>simp [nN] at h1
               | [],h3=>cases n <;> exact bM (show (none:Option E)=some _ from h3)
               | ⟨_,_,_,_⟩ :: _ :: _,h3=>cases n <;> exact bM (show (none:Option E)=some _ from h3)
             · exact ord (GP h3 _ _ _ fun a b c d z=>hl ⟨a,b,c,d,z⟩)
           · cases h'
         cases tg with
         | Subscript a i p=>
           simp only [trS,stS.eq_def] at h
           split at h
           · rename_i hnt
             simp only [Option.bind_eq_some_iff,Option.some.injEq] at h
             obtain ⟨e',h1,a',h2,i',h3,rfl⟩:=h
             have hsw:swapsWithSole [.Subscript a i p] e pos.line X.env=pure false:=by cases e <;> rfl
             have hns:∀ l u st q,i ≠ .Slice l u st q:=by
               rintro l u st q rfl
               cases n <;> exact bM (show (none:Option E)=some _ from h3)
             refine PS.wk (Df (Z.e _ _ h1).1 (NG (Z.e _ _ h2).1 (Z.e _ _ h3).1 (Iy (cl:=cl)) (fun v=>by cases i <;> first | rfl | exact absurd rfl (hns _ _ _ _))) hsw (by cases e <;> rfl) rfl) ?_
             rintro D σ H ⟨m,st,ρ,r,en,q⟩
             simp only [xS] at q
             refine fT r en q fun z st1 m1 H1 w g1 r1 en1 dw q1=>fT r1 en1 q1 fun x st2 m2 H2 v g2 r2 en2 dv q2=>fT r2 en2 q2 fun y st3 m3 H3 u g3 r3 en3 du q3=>?_
             obtain ⟨st',e1,q4⟩:=zP q3
             exact ⟨m3,st3,x,y,z,r3,dv.mono g3,du,dw.mono (g2.trans g3),st',e1,fun H' g' r'=>q4 m3 H' σ g' r' (en3.mono g')⟩
           · cases h
         | _=>exact gen (fun _ _ _ z=>nomatch z)
     | Return v pos=>
       cases v with
       | none=>exact bM (show (none:Option Sv.S)=some _ from h)
       | some e=>
         simp only [trS,stS.eq_def,Option.bind_eq_some_iff,Option.some.injEq] at h
         obtain ⟨e',h1,rfl⟩:=h
         refine PS.wk (Mz (Z.e _ _ h1).1) ?_
         rintro D σ H ⟨m,st,ρ,r,en,q⟩
         simp only [xS] at q
         exact fT r en q fun x st1 m1 H1 v g1 r1 en1 dv q1=>q1 m1 H1 v (Go.refl _ _) r1 dv
     | If c a b pos=>
       simp only [trS,stS.eq_def,Option.bind_eq_some_iff,Option.some.injEq] at h
       obtain ⟨c',h1,a',h2,b',h3,rfl⟩:=h
       refine PS.wk (Oa (Z.e _ _ h1).2 (S.ss _ _ h2) (S.ss _ _ h3)) ?_
       rintro D σ H ⟨m,st,ρ,r,en,q⟩
       simp only [xS] at q
       refine Bm r en q (fun x st hx=>by cases x <;> first | rfl | exact absurd rfl (hx _)) fun b st1 m1 H1 g1 r1 en1 q1=>?_
       cases b with
       | true=>exact sC ⟨m1,st1,ρ,r1,en1,q1⟩
       | false=>exact tD ⟨m1,st1,ρ,r1,en1,q1⟩
     | For tg it body orelse pos=>
       cases orelse with
       | cons a r=>exact bM (show (none:Option Sv.S)=some _ from h)
       | nil=>
         simp only [trS,stS.eq_def,Option.bind_eq_some_iff] at h
         obtain ⟨t,h1,it',h2,b',h3,h4⟩:=h
         split at h4
         · rename_i ho
           cases h4
           have hro:lS (zt X cl) Φ Ex m (rowsOf t it' b')=lS (zt X cl) Φ Ex m (.for t it' b'):=by
             funext D σ H
             unfold lS
             simp only [Js]
           rw [hro]
           have BN:=B.nox
           have ZN:=jD n BN
           have SN:=u7 m n BN
           obtain ⟨hi,hs⟩:=ZN.i tg it it' h2 ho
           refine PS.wk (PS.nox (Kf PassesOwn.never B.calm hi (sk BN h1) (SN.ss _ _ h3) hs)) ?_
           rintro D σ H ⟨m0,st,ρ,r,en,q⟩
           simp only [xS] at q
           have q:=az (sf q)
           refine ⟨m0,st,ρ,r,en,aq q (fun _ _ z=>z.elim) fun sq st1 _ hq J m1 H1 g1 r1 yl=>?_⟩
           generalize hf:(fun (x:U) (ρ':Env) (st':Sto)=>match hR t x ρ' with | some ρ2=>xSs Φ m b' ρ2 st' | none=>(Rs.bad:Rs Fl))=f at hq
           refine ⟨fun i n σ' H'=>∃ m' st' ρ',R (zt X cl) m' st' H'∧cj (zt X cl) m' H' σ' ρ'∧Go m1 H1 m' H'∧post (fun _ _=>False) (kF (zt X cl) m' H' D) (loop f sq n i ρ' st'),⟨sq.len st1 + 1,m1,st1,ρ,r1,en.mono g1,Go.refl _ _,aq hq (fun _ _ z=>z) fun a s _=>kF.sh g1 a s⟩,?_⟩
           rintro i n σ' H' ⟨m',st',ρ',r',en',g',hc⟩
           cases n with
           | zero=>exact hc.elim
           | succ n=>
             rw [loop] at hc
             have yi:=yl m' st' H' g' r' i
             split at hc
             · exact hc.elim
             · rename_i hat
               rw [hat] at yi
               exact .inl ⟨yi,hc m' H' σ' (Go.refl _ _) r' en'⟩
             · rename_i x hat
               rw [hat] at yi
               refine .inr ⟨yi.1,fun σ3 H3=>∃ n',n' < n + 1∧∃ m' st' ρ',R (zt X cl) m' st' H3∧cj (zt X cl) m' H3 σ3 ρ'∧Go m1 H1 m' H3∧post (fun _ _=>False) (kF (zt X cl) m' H3 D) (loop f sq n' (i + 1) ρ' st'),fun _ _ z=>z,fun v H2 hy=>?_⟩
               obtain ⟨g2,r2,dv⟩:=yi.2 v H2 hy
               have hc:=az hc
               subst hf
               dsimp only at hc
               split at hc
               · rename_i ρ2 hset
                 refine ⟨m',st',ρ',x,ρ2,r2,en'.mono g2,dv,hset,fun σ2 en2=>⟨m',st',ρ2,r2,en2,aq hc (fun _ _ z=>z.elim) fun fl st3 _ hfl=>?_⟩⟩
                 cases fl with
                 | nx ρ3=>exact fun m3 H3 σ3 g3 r3 en3=>⟨n,Nat.lt_succ_self n,m3,st3,ρ3,r3,en3,g'.trans (g2.trans g3),aq hfl (fun _ _ z=>z) fun a s _=>kF.sh (g2.trans g3) a s⟩
                 | rt d=>exact fun m3 H3 v3 g3 r3 d3=>hfl m3 H3 v3 (g2.trans g3) r3 d3
               · exact hc.elim
         · cases h4
     | While c body orelse pos=>
       cases orelse with
       | cons a r=>exact bM (show (none:Option Sv.S)=some _ from h)
       | nil=>
         simp only [trS,stS.eq_def,Option.bind_eq_some_iff,Option.some.injEq] at h
         obtain ⟨c',h1,b',h3,rfl⟩:=h
         have BN:=B.nox
         have ZN:=jD n BN
         have SN:=u7 m n BN
         refine PS.wk (PS.nox (ET PassesOwn.never (ZN.e _ _ h1).2 (SN.ss _ _ h3))) ?_
         rintro D σ H ⟨m0,st,ρ,r,en,q⟩
         simp only [xS] at q
         have q:PoF (zt X cl) (fun _ _=>False) m0 H D _:=aq (sf q) (fun _ _ z=>z.elim) fun _ _ _ z=>z
         refine ⟨fun j σ H=>∃ m' st' ρ',R (zt X cl) m' st' H∧cj (zt X cl) m' H σ ρ'∧PoF (zt X cl) (fun _ _=>False) m' H D (qC (fun ρ' st'=>xE Φ c' ρ' st') (fun ρ' st'=>xSs Φ m b' ρ' st') j ρ' st'),⟨m,m0,st,ρ,r,en,q⟩,?_⟩
         rintro j σ' H' ⟨m',st',ρ',r',en',hc⟩
         cases j with
         | zero=>exact hc.elim
         | succ j=>
           rw [qC] at hc
           refine Bm r' en' hc (fun x st hx=>by cases x <;> first | rfl | exact absurd rfl (hx _)) fun b st1 m1 H1 g1 r1 en1 q1=>?_
           cases b with
           | false=>exact tD (q1 m1 H1 σ' (Go.refl _ _) r1 en1)
           | true=>
             refine sC ⟨fun σ' H'=>∃ n',n' < j + 1∧∃ m' st' ρ',R (zt X cl) m' st' H'∧cj (zt X cl) m' H' σ' ρ'∧PoF (zt X cl) (fun _ _=>False) m' H' D (qC (fun ρ' st'=>xE Φ c' ρ' st') (fun ρ' st'=>xSs Φ m b' ρ' st') n' ρ' st'),fun _ _ z=>z,m1,st1,ρ',r1,en1,?_⟩
             refine aq (az q1) (fun _ _ z=>z) fun fl st3 _ hfl=>?_
             cases fl with
             | nx ρ3=>exact fun m3 H3 σ3 g3 r3 en3=>⟨j,Nat.lt_succ_self j,m3,st3,ρ3,r3,en3,PoF.sh hfl g3⟩
             | rt d=>exact hfl
     | Expr v pos=>
       cases v with
       | Call f es ks cpos=>
         cases f with
         | Name x p=>
           simp only [trS,stS.eq_def,Option.bind_eq_some_iff,Option.some.injEq] at h
           obtain ⟨e',h1,rfl⟩:=h
           refine PS.wk (qa (Z.e _ _ h1).1 rfl) ?_
           rintro D σ H ⟨m,st,ρ,r,en,q⟩
           simp only [xS] at q
           exact fT r en q fun x st1 m1 H1 v g1 r1 en1 dv q1=>q1 m1 H1 σ (Go.refl _ _) r1 en1
         | Attribute o mm apos=>
           cases ks with
           | cons a r=>exact bM (show (none:Option Sv.S)=some _ from h)
           | nil=>
             simp only [trS,stS.eq_def] at h
             split at h
             · rename_i hline
               split at h
               · rename_i a b hr
                 obtain ⟨rfl,g,p,p2,ap,cp,rfl,rfl,hl2⟩:=Gk hr
                 simp only [Option.bind_eq_some_iff] at h
                 obtain ⟨o',h1,a',h2,b',h3,h⟩:=h
                 split at h
                 · rename_i hv
                   cases h
                   have h1':trE T n (.Name g p2)=some o':=by rw [← h1]; cases n <;> rfl
                   have sb:starEach [b] X.env=[(false,eval b X.env)]:=cY h3 [] _
                   have sa:∀ x,starEach (a :: x) X.env=(false,eval a X.env) :: starEach x X.env:=fun x=>cY h2 x _
                   have pp:=AL (apos:=ap) (cpos:=cp) PySem.F.plainAttrs_list PySem.F.slot_list_pop PySem.F.type_list_pop DG (Z.e _ _ h1').1 (eL (Z.e _ _ h3).1 ke sb) (kK h1' _ _) (by rw [sb]; rfl) hl2 sb rfl
                   refine PS.wk (qa (AL PySem.F.plainAttrs_list PySem.F.slot_list_insert PySem.F.type_list_insert Cs (Z.e _ _ h1).1 (eL (Z.e _ _ h2).1 (eL pp ke rfl) (sa _)) (kK h1 _ _) (by rw [sa]; rfl) hline (sa _) rfl) rfl) ?_
                   rintro D σ H ⟨m,st,ρ,r,en,q⟩
                   cases o' with
                   | var i=>
                     simp only [xS,xEs] at q
                     have as:∀ {α β γ:Type} (x:Rs α) (f:α→Sto→Rs β) (g:β→Sto→Rs γ),(x.bind f).bind g=x.bind fun y s=>(f y s).bind g:=fun x f g=>by cases x <;> rfl
                     have xv:∀ st,xE Φ (.var i) ρ st=lF ρ i st:=fun st=>by rw [xE]
                     rw [xv,lF] at q
                     split at q
                     · rename_i d hρ
                       have lv:∀ {m:List Addr} {st:Sto} {H:Hp} {Q1:VK},R (zt X cl) m st H→cj (zt X cl) m H σ ρ→(∀ m1 H1 v,Go m H m1 H1→R (zt X cl) m1 st H1→bt (zt X cl) m1 H1 v d→Q1 v H1)→lE (zt X cl) Φ Ex (.var i) σ H Q1:=fun {m st H Q1} r en k=>⟨m,st,ρ,r,en,by rw [xv,lF,hρ]; exact k⟩
                       refine lv r en fun m1 H1 v g1 r1 dv=>?_
                       have q1:=PoF.sh q g1
                       have en1:=en.mono g1
                       cases d with
                       | loc l=>
                         rw [Rs.aa] at q1
                         dsimp only at q1
                         split at q1
                         · obtain ⟨a0,rfl,hl⟩:=jo dv
                           obtain ⟨fz,ds,vs,_,ly,_⟩:=r1.loc hl
                           refine ⟨.inl ⟨rfl,_,ly.sq⟩,?_⟩
                           rw [as] at q1
                           refine fT r1 en1 q1 fun xa st2 m2 H2 va g2 r2 en2 da q2=>?_
                           refine lv r2 en2 fun m3 H3 v3 g3 r3 dv3=>?_
                           have en3:=en2.mono g3
                           obtain ⟨a3,rfl,hl3⟩:=jo dv3
                           obtain ⟨fz3,ds3,vs3,_,ly3,_⟩:=r3.loc hl3
                           refine ⟨.inl ⟨rfl,_,ly3.sq⟩,?_⟩
                           have q3:=PoF.sh q2 g3
                           rw [as,as] at q3
                           refine fT r3 en3 q3 fun xb st4 m4 H4 vb g4 r4 en4 db q4=>?_
                           obtain ⟨st',e1,q5⟩:=zP (o:=evM .rot (.loc l) [xa,xb] st4) (ρ:=ρ) q4
                           match xa,xb,e1,da,db with
                           | .int i0,.int j0,e1,da,db=>
                             simp only [evM.eq_def] at e1
                             split at e1
                             · rename_i xs hs
                               split at e1
                               · rename_i hc
                                 obtain ⟨x,hx,rfl⟩:=Option.map_eq_some_iff.mp e1
                                 obtain ⟨p',ws,hp',f1,f2,f3⟩:=u9 r4 (dv3.mono g4) hs
                                 cases hp'
                                 have l3:=f3.length
                                 obtain ⟨y,hy,dy⟩:=f3.get hx
                                 cases da
                                 cases db
                                 have e0:a0=a3:=by
                                   have z1:=(dv.mono (g2.trans g3))
                                   obtain ⟨b1,hb1,hb2⟩:=jo z1
                                   cases hb1
                                   rw [hl3] at hb2
                                   cases hb2
                                   rfl
                                 subst e0
                                 have hm:=Ev.dB
                                 have l62:ag < 2 ^ 62:=by decide
                                 obtain ⟨g',r'⟩:=r4.put f1 hs ((f3.erase j0.toNat).insert i0.toNat dy)
                                 have le:(ws.eraseIdx j0.toNat).length=ws.length - 1:=by rw [List.length_eraseIdx,if_pos (by omega)]
                                 refine ⟨a0,ws,j0,j0.toNat,y,rfl,rfl,f2,by omega,by omega,?_,hy,?_⟩
                                 · exact seqIndex_of hc.2.2.2.1 (by omega)
                                 · refine ⟨a0,ws.eraseIdx j0.toNat,i0,y,rfl,rfl,cV,hc.2.1,by omega,by omega,?_⟩
                                   rw [HQ]
                                   exact q5 m4 _ σ g' r' (en4.mono g')
                               · cases e1
                             · cases e1
                         · exact q1.elim
                       | _=>exact q1.elim
                     · exact q.elim
                   | _=>cases hv
                 · cases h
               simp only [Option.bind_eq_some_iff,Option.some.injEq] at h
               obtain ⟨lm,h0,o',h1,es',h2,rfl⟩:=h
               have hbase:attributeBase o mm X.env (eval o X.env)=eval o X.env:=kK h1 _ _
               have rd1:∀ D σ H,lS (zt X cl) Φ Ex m (.mth lm o' es') D σ H→JL (tBM X.K "list" (rM (zt X cl) lm) (lE (zt X cl) Φ Ex o') (lEs (zt X cl) Φ Ex es')) D σ H:=by
                 rintro D σ H ⟨m,st,ρ,r,en,q⟩
                 simp only [xS] at q
                 refine fT r en q fun x st1 m1 H1 v g1 r1 en1 dv q1=>?_
                 match x,q1 with
                 | .loc l,q1=>
                   dsimp only at q1
                   split at q1
                   · obtain ⟨a,rfl,hl⟩:=jo dv
                     obtain ⟨fz,ds,vs,_,ly,_⟩:=r1.loc hl
                     refine ⟨.inl ⟨rfl,_,ly.sq⟩,Fz r1 en1 q1 fun xs st2 m2 H2 vs g2 r2 en2 dvs q2=>?_⟩
                     obtain ⟨st',e1,q4⟩:=zP q2
                     exact ⟨m2,st2,.loc l,xs,st',r2,dv.mono g2,dvs,e1,fun v' H' g' r'=>q4 m2 H' σ g' r' (en2.mono g')⟩
                   · exact q1.elim
               have few1:∀ {e:Expr} {es0:List Expr},es=e :: es0→es0.length≤1→((backTo cpos (starEach es X.env)).all (fun x=>!x.1) && (backToKw cpos (keywordEach [] X.env)).all (fun x=>x.1.isSome) && decide (es.length + ([]:List Keyword).length + (if ([]:List Keyword).isEmpty then 0 else 1) < 30))=true:=by
                 intro e es0 he hl
                 subst he
                 have t1:=gW h2 X.env
                 have t2:=jl h2 X.env cpos
                 rw [t1]
                 have:(backTo cpos ((false,eval e X.env) :: starEach es0 X.env)).all (fun x=>!x.1)=true:=by
                   unfold backTo at t2 ⊢
                   rw [List.map_cons,List.all_cons]
                   rw [Bool.and_eq_true]
                   refine ⟨rfl,?_⟩
                   rw [List.all_eq_true]
                   rw [List.any_eq_false] at t2
                   intro x hx
                   have:=t2 x hx
                   simpa using this
                 rw [this]
                 have:decide ((e :: es0).length + ([]:List Keyword).length + (if ([]:List Keyword).isEmpty then 0 else 1) < 30)=true:=decide_eq_true (by simp only [List.length_cons,List.length_nil,List.isEmpty_nil,if_true]; omega)
                 rw [this]; rfl
               unfold trM at h0
               split at h0
               · rename_i hc
                 obtain ⟨rfl,hn⟩:=hc
                 cases h0
                 match es,hn with
                 | [e],_=>exact PS.wk (qa (AL PySem.F.plainAttrs_list PySem.F.slot_list_append PySem.F.type_list_append (Em (cl:=cl)) (Z.e _ _ h1).1 (Z.a _ _ h2) hbase (few1 rfl (Nat.zero_le _)) hline (gW h2 _) (jl h2 _ _)) rfl) rd1
               split at h0
               · rename_i hc
                 obtain ⟨rfl,hn⟩:=hc
                 cases h0
                 match es,hn with
                 | [e],_=>exact PS.wk (qa (AL PySem.F.plainAttrs_list PySem.F.slot_list_extend PySem.F.type_list_extend (EA (cl:=cl)) (Z.e _ _ h1).1 (Z.a _ _ h2) hbase (few1 rfl (Nat.zero_le _)) hline (gW h2 _) (jl h2 _ _)) rfl) rd1
               · cases h0
             · cases h
         | _=>exact bM (show (none:Option Sv.S)=some _ from h)
       | _=>exact bM (show (none:Option Sv.S)=some _ from h)
     | Raise a b pos=>
       simp only [trS,stS.eq_def,Option.some.injEq] at h
       subst h
       refine PS.wk Ge ?_
       rintro D σ H ⟨m,st,ρ,r,en,q⟩
       simp only [xS] at q
       exact q.elim
     | _=>exact bM (show (none:Option Sv.S)=some _ from h)
end
end Sv
namespace Sv
open PySem PySem.Spec PyProof.Rows L2
open Ev (D ag)
theorem CH {Z:Zt} {m:List Addr} {H:Hp} {N:List Str} {vs:List V} {ds:List U} (dn:ar Z m H vs ds) (hl:ds.length≤N.length) :
   cj Z m H (L2.start N vs) (ds.map some++List.replicate (N.length - ds.length) none):=by
 have lv:=dn.length
 refine ⟨by unfold L2.start; simp only [List.length_append,List.length_map,List.length_replicate]; omega,fun i d e=>?_⟩
 by_cases q:i < ds.length
 · rw [List.getElem?_append_left (by rw [List.length_map]; exact q),List.getElem?_map] at e
   cases z:ds[i]? with
   | none=>rw [z] at e; cases e
   | some y=>
     rw [z] at e; cases e
     obtain ⟨v,h1,h2⟩:=dn.get z
     refine ⟨v,?_,h2⟩
     unfold L2.start
     rw [List.getElem?_append_left (by rw [List.length_map]; omega),List.getElem?_map,h1]
     rfl
 · rw [List.getElem?_append_right (by rw [List.length_map]; omega)] at e
   have:=List.mem_of_getElem? e
   rw [List.mem_replicate] at this
   cases this.2
theorem N3 {us:List Value} {q:Prop} (h:us.length=0) (k:us=[]→q):q:=k (List.length_eq_zero_iff.mp h)
theorem AX {us:List Value} {n:Nat} {q:Prop} (h:us.length=n + 1) (k:∀ a r,us=a :: r→r.length=n→q):q:=by
 cases us with
 | nil=>cases h
 | cons a r=>exact k a r rfl (Nat.succ.inj h)
theorem e7 {p:List Value→Prop} (h:∀ a,p [a]) (us:List Value) (e:us.length=1):p us:=
 AX e fun a r e1 e2=>N3 e2 fun e3=>by rw [e1,e3]; exact h a
theorem gw {p:List Value→Prop} (h:∀ a b,p [a,b]) (us:List Value) (e:us.length=2):p us:=
 AX e fun a r e1 e2=>by rw [e1]; exact e7 (p:=fun r=>p (a :: r)) (fun b=>h a b) r e2
theorem As {p:List Value→Prop} (h:∀ a b c,p [a,b,c]) (us:List Value) (e:us.length=3):p us:=
 AX e fun a r e1 e2=>by rw [e1]; exact gw (p:=fun r=>p (a :: r)) (fun b c=>h a b c) r e2
theorem Fy {p:List Value→Prop} (h:∀ a b c d,p [a,b,c,d]) (us:List Value) (e:us.length=4):p us:=
 AX e fun a r e1 e2=>by rw [e1]; exact As (p:=fun r=>p (a :: r)) (fun b c d=>h a b c d) r e2
theorem OI:∀ outer H s E e s',(∀ C a H',¬ E C a H')→¬ CX0 outer H s E e s':=fun _ _ _ _ _ _ _ h=>h
theorem fnU {P:Program} {w:World} {K:PySem.W.Frag} {mg:Str→Option Value} {base:Heap} {x qual:Str} {st:Stmt} {f:Addr} {fd:FuncData} {N ps:List Str} {k n:Nat} {Fs:List Str} {cst:List (Str × Int)} {Φ:Fn} {cl:Nat→Addr} {ir:List S}
   (F:Fun K x qual st f fd) (S:aB N ps (ae st)) (tr:cg ⟨ae st,N,Fs,[],cst⟩ n (af st)=some ir) (hb:∀ x ∈ aP,mg x=none) (hcst:∀ x i,cst.lookup x=some i→∃ t,mg x=some (.int i t))
   (hc:∀ i x,Fs[i]?=some x→Cal P w K mg base CX0 cl k x (Φ i)):bK P w K mg base CX0 (k + 1) f fd ps (spU ⟨K,cl⟩ (mk Φ ir ps.length N.length)):=by
 have hpl:ps.length≤N.length:=by
   have:=congrArg List.length S.pre
   rw [List.length_take] at this
   omega
 refine F.ok S (fun vs H Q E h=>?_) (fun cdv A outer s H vs Q E hr h=>?_)
 · obtain ⟨m,st,ds,r,dn,e⟩:=h
   rw [dn.length]
   unfold mk at e
   split at e
   · assumption
   · exact e.elim
 · obtain ⟨m,st,ds,r,dn,e⟩:=h
   unfold mk at e
   split at e
   · rename_i hl
     have B:Bg (Ad CX0 P w K mg base N qual (ae _) f cdv A outer s H E).nox ⟨ae _,N,Fs,[],cst⟩ Φ cl CX0 (fun _ _=>False) k:=
       ⟨rfl,rfl,S.nd,rfl,hr,hb,hc,fun _ _ _ _ _=>rfl,hcst,OI,KI OI⟩
     refine ⟨_,(u7 (fuel ds) n B).ss _ _ tr,?_⟩
     refine ⟨m,st,_,r,CH dn (by omega),?_⟩
     rw [← hl] at e
     generalize hr':xSs Φ (fuel ds) ir (ds.map some++List.replicate (N.length - ds.length) none) st=rs at e
     match rs,e with
     | .ok (.rt d') st',e=>exact fun m' H' v g r dv=>e m' H' v g r dv
     | .ok (.nx ρ) st',e=>exact fun m' H' σ' g r en=>e m' H' .non g r .non
   · exact e.elim
theorem Cal.mono {P:Program} {w:World} {K:PySem.W.Frag} {mg:Str→Option Value} {base:Heap} {CX:CXT} {cl:Nat→Addr} {j k:Nat} {x:Str} {F:List U→Sto→Rs U} (c:Cal P w K mg base CX cl j x F) (h:j≤k):Cal P w K mg base CX cl k x F:=by
 obtain ⟨f,fd,ps,G,F,r⟩:=c.ex
 exact ⟨⟨f,fd,ps,G,F.mono h,r⟩⟩
noncomputable def cy (P:Program) (w:World) (K:PySem.W.Frag) (mg:Str→Option Value) (base:Heap) (CX:CXT) (cl:Nat→Addr) (k:Nat) (Fs:List Str) (fs:List (List U→Sto→Rs U)):Prop:=∀ i x,Fs[i]?=some x→Cal P w K mg base CX cl k x (tab fs i)
theorem cy.nil {P:Program} {w:World} {K:PySem.W.Frag} {mg:Str→Option Value} {base:Heap} {CX:CXT} {cl:Nat→Addr} {k:Nat}:cy P w K mg base CX cl k [] []:=fun i x h=>by simp at h
theorem cy.snoc {P:Program} {w:World} {K:PySem.W.Frag} {mg:Str→Option Value} {base:Heap} {CX:CXT} {cl:Nat→Addr} {k:Nat} {Fs:List Str} {fs:List (List U→Sto→Rs U)} {x:Str} {F:List U→Sto→Rs U} (c:cy P w K mg base CX cl k Fs fs) (hl:Fs.length=fs.length) (n:Cal P w K mg base CX cl (k + 1) x F) :
   cy P w K mg base CX cl (k + 1) (Fs++[x]) (fs++[F]):=fun i y h=>by
 by_cases q:i < Fs.length
 · rw [List.getElem?_append_left q] at h
   have:=(c i y h).mono (Nat.le_succ k)
   have e:tab (fs++[F]) i=tab fs i:=by
     unfold tab
     rw [List.getD_eq_getElem?_getD,List.getD_eq_getElem?_getD,List.getElem?_append_left (by omega)]
   rw [e]; exact this
 · rw [List.getElem?_append_right (by omega)] at h
   have e0:i - Fs.length=0:=by
     have:=(List.getElem?_eq_some_iff.mp h).1
     simp at this
     omega
   rw [e0] at h
   cases h
   have e:tab (fs++[F]) i=F:=by
     unfold tab
     rw [List.getD_eq_getElem?_getD,List.getElem?_append_right (by omega),show i - fs.length=0 by omega]
     rfl
   rw [e]; exact n
theorem aV {P:Program} {w:World} {K:PySem.W.Frag} {mg:Str→Option Value} {base:Heap} {CX:CXT} {cl:Nat→Addr} {k:Nat} {x:Str} {f:Addr} {fd:FuncData} {ps:List Str} {F:List U→Sto→Rs U} (h:bK P w K mg base CX k f fd ps (spU ⟨K,cl⟩ F)) (hm:mg x=some (.ref f)) (hk:PySem.W.keepIn K (.ref f)=true) (hb:Binds K fd ps []) :
   Cal P w K mg base CX cl k x F
 := ⟨⟨f,fd,ps,F,h,hm,hk,fun _=>⟨[],[],[],hb,.nil,fun _ _=>.nil,fun ds st _=>by rw [List.append_nil]⟩⟩⟩
noncomputable def dfU (n:Nat) (i:Int) (F:List U→Sto→Rs U):List U→Sto→Rs U:=fun ds st=>if ds.length=n then F (ds++[.int i]) st else F ds st
theorem Mb {P:Program} {w:World} {K:PySem.W.Frag} {mg:Str→Option Value} {base:Heap} {CX:CXT} {cl:Nat→Addr} {k n:Nat} {x:Str} {f:Addr} {fd:FuncData} {ps:List Str} {i:Int} {t:Tok} {F:List U→Sto→Rs U} (h:bK P w K mg base CX k f fd ps (spU ⟨K,cl⟩ F)) (hm:mg x=some (.ref f)) (hk:PySem.W.keepIn K (.ref f)=true) (hb:Binds K fd ps []) (hb1:Binds K fd ps [.int i t]) :
   Cal P w K mg base CX cl k x (dfU n i F):=⟨⟨f,fd,ps,F,h,hm,hk,fun j=>by
     by_cases e:j=n
     · subst e
       exact ⟨[.int i],[.int i t],[.int i],hb1,.cons ⟨t,rfl⟩ .nil,fun _ _=>.cons .int .nil,fun ds st hl=>if_pos hl⟩
     · exact ⟨[],[],[],hb,.nil,fun _ _=>.nil,fun ds st hl=>by rw [List.append_nil]; exact if_neg (by rw [hl]; exact e)⟩⟩⟩
end Sv
namespace Sv
open PySem PySem.Spec L2
open Ev (D aL aT ag)
inductive T where
 | non | bl (b:Bool) | int (i:Int) | str (x:Str) | tup (xs:List T) | lst (xs:List T) | exo (c:Nat)
 deriving Inhabited
inductive Ou (α:Type) where
 | ok (a:α) | exc (c:Nat) | bad
noncomputable def Ou.bind {α β:Type}:Ou α→(α→Ou β)→Ou β
 | .ok a,f=>f a
 | .exc c,_=>.exc c
 | .bad,_=>.bad
noncomputable def Ou.noX {α:Type}:Ou α→Ou α
 | .exc _=>.bad
 | x=>x
theorem Ou.aa {α β:Type} (a:α) (f:α→Ou β):(Ou.ok a).bind f=f a:=rfl
theorem Ou.ip {α:Type} (a:α):(Ou.ok a).noX=.ok a:=rfl
theorem Ou.bw {α β:Type} {x:Ou α} {f:α→Ou β} {b:β}:x.bind f=.ok b ↔ ∃ a,x=.ok a∧f a=.ok b:=by
 cases x <;> simp [Ou.bind]
noncomputable abbrev ao:=List (Option T)
mutual
noncomputable def eqT:T→T→Bool
 | .non,.non=>true
 | .bl a,.bl b=>a == b
 | .bl a,.int j=>(if a then 1 else 0) == j
 | .int i,.bl b=>i == (if b then 1 else 0)
 | .int a,.int b=>a == b
 | .str a,.str b=>a == b
 | .tup xs,.tup ys=>sD xs ys
 | .lst xs,.lst ys=>sD xs ys
 | _,_=>false
noncomputable def sD:List T→List T→Bool
 | [],[]=>true
 | x :: xs,y :: ys=>eqT x y && sD xs ys
 | _,_=>false
end
mutual
noncomputable def clT:T→Bool
 | .str x=>Ev.cln (.str x)
 | .tup xs=>mM xs
 | .lst xs=>mM xs
 | .exo _=>false
 | .non | .bl _ | .int _=>true
noncomputable def mM:List T→Bool
 | []=>true
 | x :: xs=>clT x && mM xs
end
mutual
noncomputable def dpT:T→Nat
 | .tup xs=>sH xs + 1
 | .lst xs=>sH xs + 1
 | _=>0
noncomputable def sH:List T→Nat
 | []=>0
 | x :: xs=>max (dpT x) (sH xs)
end
noncomputable def eqK (x:T):Prop:=clT x=true∧dpT x≤64
noncomputable instance (x:T):Decidable (eqK x):=inferInstanceAs (Decidable (_∧_))
noncomputable def z2:Op2→T→T→Ou T
 | .add,.int i,.int j=>.ok (.int (i + j))
 | .add,.lst xs,.lst ys=>if xs.length + ys.length < ag then .ok (.lst (xs++ys)) else .bad
 | .sub,.int i,.int j=>.ok (.int (i - j))
 | .mul,.int i,.int j=>if aL i j then .ok (.int (i * j)) else .bad
 | .fdiv,.int i,.int j=>if aT j then .ok (.int (i.fdiv j)) else .bad
 | .mod,.int i,.int j=>if j ≠ 0 then .ok (.int (i.fmod j)) else .bad
 | .pow,.int i,.int j=>if 0≤j∧j≤1000000∧i.natAbs < 2 ^ 64 then .ok (.int (i ^ j.toNat)) else .bad
 | _,_,_=>.bad
noncomputable def rL:List T→Option (List Int)
 | []=>some []
 | .int i :: r=>(rL r).map (i :: ·)
 | _=>none
noncomputable def zC:Cm→T→T→Option Bool
 | .eq,x,y=>if eqK x∧eqK y then some (eqT x y) else none
 | .ne,x,y=>if eqK x∧eqK y then some (!eqT x y) else none
 | .lt,.int i,.int j=>some (decide (i < j))
 | .le,.int i,.int j=>some (decide (i≤j))
 | .gt,.int i,.int j=>some (decide (j < i))
 | .ge,.int i,.int j=>some (decide (j≤i))
 | .nin,.int x,.lst ys=>(rL ys).map fun l=>!l.any (· == x)
 | _,_,_=>none
noncomputable def ofB:Option Bool→Ou T
 | some b=>.ok (.bl b)
 | none=>.bad
noncomputable def ju:Ty→T→Bool
 | .int,.int _=>true
 | .int,.bl _=>true
 | .bool,.bl _=>true
 | .tuple,.tup _=>true
 | .list,.lst _=>true
 | .str,.str _=>true
 | _,_=>false
noncomputable def uF:List T→Option Bool
 | []=>some true
 | .bl b :: r=>(uF r).map (b && ·)
 | _=>none
noncomputable def KG (xs:List T) (lo hi:Option Int):List T:=(xs.drop (HT.sIx xs.length 0 lo)).take (HT.sIx xs.length xs.length hi - HT.sIx xs.length 0 lo)
noncomputable def Ef:E→T→Option (Option Int)
 | .cN,_=>some none
 | _,.int i=>some (some i)
 | _,_=>none
noncomputable def zSl:T→Option Int→Option Int→Ou T
 | .lst xs,lo,hi=>.ok (.lst (KG xs lo hi))
 | _,_,_=>.bad
noncomputable def ON (b:Bool):T→Bool
 | .bl c=>c == b
 | _=>false
noncomputable def Jp:T→Bool
 | .non=>true
 | _=>false
noncomputable def zB:Bi→List T→Ou T
 | .len,[.lst xs]=>.ok (.int xs.length)
 | .len,[.tup xs]=>.ok (.int xs.length)
 | .abs,[.int i]=>.ok (.int (if i < 0 then -i else i))
 | .max,[.int i,.int j]=>.ok (.int (if j > i then j else i))
 | .min,[.int i,.int j]=>.ok (.int (if j < i then j else i))
 | .list,[.lst xs]=>.ok (.lst xs)
 | .list,[.tup xs]=>.ok (.lst xs)
 | .all,[.lst xs]=>ofB (uF xs)
 | .lrg,[.int n]=>if 0≤n∧n.toNat < ag then .ok (.lst ((List.range n.toNat).map fun (k:Nat)=>.int (k:Int))) else .bad
 | _,_=>.bad
noncomputable def zI:T→T→Ou T
 | .lst xs,.int i=>match atI xs i with | some d=>.ok d | none=>.bad
 | .tup xs,.int i=>match atI xs i with | some d=>.ok d | none=>.bad
 | _,_=>.bad
noncomputable def aH (τ:ao) (i:Nat):Ou T:=match τ[i]? with | some (some d)=>.ok d | _=>.bad
noncomputable def sr:List Nat→List T→ao→Option ao
 | [],[],ρ=>some ρ
 | i :: is,x :: xs,ρ=>sr is xs (ρ.set i (some x))
 | _,_,_=>none
noncomputable def aW:Tg→T→ao→Option ao
 | .nm i,d,ρ=>some (ρ.set i (some d))
 | .tp is,.tup xs,ρ=>sr is xs ρ
 | _,_,_=>none
noncomputable def rangeT (lo:Int) (n:Nat):List T:=(List.range n).map fun k=>T.int (lo + (k:Nat))
noncomputable def mB (k:Nat):List T→List T
 | []=>[]
 | x :: xs=>.tup [.int (k:Nat),x] :: mB (k + 1) xs
noncomputable def mq:List T→List T→List T
 | x :: xs,y :: ys=>.tup [x,y] :: mq xs ys
 | _,_=>[]
noncomputable def zpT:T→T→Ou (List T)
 | .lst xs,.lst ys=>.ok (mq xs ys)
 | _,_=>.bad
noncomputable def jw (τ:ao) (caps:List (Option Nat)):ao:=caps.map fun o=>o.bind fun i=>(τ[i]?).join
noncomputable def cb (f:T→Ou (Option T)):List T→Ou (List T)
 | []=>.ok []
 | x :: xs=>(f x).bind fun o=>(cb f xs).bind fun ys=>.ok (match o with | some y=>y :: ys | none=>ys)
noncomputable abbrev FnT:=Nat→List T→Ou T
mutual
noncomputable def yE (Ψ:FnT):E→ao→Ou T
 | .var i,τ=>aH τ i
 | .cN,_=>.ok .non
 | .cB b,_=>.ok (.bl b)
 | .cI i,_=>.ok (.int i)
 | .cS x,_=>.ok (.str x)
 | .op o a b,τ=>(yE Ψ a τ).bind fun x=>(yE Ψ b τ).bind fun y=>z2 o x y
 | .neg a,τ=>(yE Ψ a τ).bind fun x=>match x with | .int i=>.ok (.int (-i)) | _=>.bad
 | .not a,τ=>(yE Ψ a τ).bind fun x=>match x with | .bl b=>.ok (.bl (!b)) | _=>.bad
 | .cmp o a b,τ=>(yE Ψ a τ).bind fun x=>(yE Ψ b τ).bind fun y=>ofB (zC o x y)
 | .chain o o' a b c,τ=>(yE Ψ a τ).bind fun x=>(yE Ψ b τ).bind fun y=>match zC o x y with
   | some true=>(yE Ψ c τ).bind fun u=>ofB (zC o' y u)
   | some false=>.ok (.bl false)
   | none=>.bad
 | .and a b,τ=>(yE Ψ a τ).bind fun x=>match x with | .bl true=>yE Ψ b τ | .bl false=>.ok (.bl false) | _=>.bad
 | .or a b,τ=>(yE Ψ a τ).bind fun x=>match x with | .bl true=>.ok (.bl true) | .bl false=>yE Ψ b τ | _=>.bad
 | .ite c a b,τ=>(yE Ψ c τ).bind fun x=>match x with | .bl true=>yE Ψ a τ | .bl false=>yE Ψ b τ | _=>.bad
 | .tup es,τ=>(yEs Ψ es τ).bind fun xs=>if xs.length < ag then .ok (.tup xs) else .bad
 | .lst es,τ=>(yEs Ψ es τ).bind fun xs=>if xs.length < ag then .ok (.lst xs) else .bad
 | .ix a i,τ=>(yE Ψ a τ).bind fun x=>(yE Ψ i τ).bind fun y=>zI x y
 | .sl a l h,τ=>(yE Ψ a τ).bind fun x=>(yE Ψ l τ).bind fun y=>match Ef l y with
   | none=>.bad
   | some lo=>(yE Ψ h τ).bind fun z=>match Ef h z with | none=>.bad | some hi=>zSl x lo hi
 | .call f es,τ=>(yEs Ψ es τ).bind fun xs=>Ψ f xs
 | .bi b es,τ=>(yEs Ψ es τ).bind fun xs=>zB b xs
 | .isi a t,τ=>(yE Ψ a τ).bind fun x=>match x with | .exo _=>.bad | x=>.ok (.bl (ju t x))
 | .isB n a b,τ=>(yE Ψ a τ).bind fun x=>.ok (.bl (n ^^ ON b x))
 | .isN n a,τ=>(yE Ψ a τ).bind fun x=>.ok (.bl (n ^^ Jp x))
 | .comp caps t it ifs elt,τ=>(yIt Ψ it τ).bind fun xs=>if xs.length < ag then
     ((cb (fun x=>match aW t x (jw τ caps++[none]) with
         | none=>.bad
         | some τ1=>(yIf Ψ ifs τ1).bind fun b=>if b then (yE Ψ elt τ1).bind fun y=>.ok (some y) else .ok none) xs).bind fun ys=>.ok (.lst ys)).noX
   else .bad
noncomputable def yEs (Ψ:FnT):List E→ao→Ou (List T)
 | [],_=>.ok []
 | e :: es,τ=>(yE Ψ e τ).bind fun x=>(yEs Ψ es τ).bind fun xs=>.ok (x :: xs)
noncomputable def yIf (Ψ:FnT):List E→ao→Ou Bool
 | [],_=>.ok true
 | c :: cs,τ=>(yE Ψ c τ).bind fun x=>match x with | .bl true=>yIf Ψ cs τ | .bl false=>.ok false | _=>.bad
noncomputable def yIt (Ψ:FnT):It→ao→Ou (List T)
 | .seq e,τ=>(yE Ψ e τ).bind fun x=>match x with | .lst xs=>.ok xs | .tup xs=>.ok xs | _=>.bad
 | .rng e,τ=>(yE Ψ e τ).bind fun x=>match x with | .int j=>if -(2 ^ 62)≤j∧j < 2 ^ 62 then .ok (rangeT 0 j.toNat) else .bad | _=>.bad
 | .rng2 a b,τ=>(yE Ψ a τ).bind fun x=>(yE Ψ b τ).bind fun y=>match x,y with
   | .int i,.int j=>if (-(2 ^ 62)≤i∧i < 2 ^ 62)∧-(2 ^ 62)≤j∧j < 2 ^ 62 then .ok (rangeT i (j - i).toNat) else .bad
   | _,_=>.bad
 | .enu e,τ=>(yE Ψ e τ).bind fun x=>match x with | .lst xs=>.ok (mB 0 xs) | _=>.bad
 | .zip a b,τ=>(yE Ψ a τ).bind fun x=>(yE Ψ b τ).bind fun y=>zpT x y
end
end Sv
namespace Sv
open PySem PySem.Spec L2
open Ev (D aL aT ag)
mutual
inductive Rep (st:Sto):U→T→Prop where
 | non:Rep st .non .non
 | bl {b:Bool}:Rep st (.bl b) (.bl b)
 | int {i:Int}:Rep st (.int i) (.int i)
 | str {x:Str}:Rep st (.str x) (.str x)
 | tup {us:List U} {ds:List T} (r:aK st us ds):Rep st (.tup us) (.tup ds)
 | loc {l:Nat} {fz:Bool} {us:List U} {ds:List T} (e:st[l]?=some (fz,us)) (r:aK st us ds):Rep st (.loc l) (.lst ds)
 | exo {c:Nat}:Rep st (.exo c) (.exo c)
 | kl {us:List U} {ds:List T} (r:aK st us ds):Rep st (.kl us) (.lst ds)
inductive aK (st:Sto):List U→List T→Prop where
 | nil:aK st [] []
 | cons {u:U} {d:T} {us:List U} {ds:List T} (h:Rep st u d) (r:aK st us ds):aK st (u :: us) (d :: ds)
end
mutual
noncomputable def locs:U→List Nat
 | .loc l=>[l]
 | .tup us=>kn us
 | .kl us=>kn us
 | _=>[]
noncomputable def kn:List U→List Nat
 | []=>[]
 | u :: us=>locs u++kn us
end
structure Hd where
 h:Nat→Prop
 g:Nat→Prop
 sub:∀ l,g l→h l
noncomputable def Av (h:Hd) (n:Nat) (u:U):Prop:=∀ l ∈ locs u,l < n∧¬ h.h l
structure Wf (h:Hd) (st:Sto):Prop where
 av:∀ (k:Nat) fz us,¬ h.g k→st[k]?=some (fz,us)→∀ u ∈ us,Av h st.length u
 lt:∀ l,h.h l→l < st.length
theorem Av.mono {h:Hd} {n n':Nat} {u:U} (a:Av h n u) (e:n≤n'):Av h n' u:=fun l hl=>⟨Nat.lt_of_lt_of_le (a l hl).1 e,(a l hl).2⟩
theorem Av.imp {h h':Hd} {n:Nat} {u:U} (a:Av h n u) (e:∀ l,l < n→h'.h l→h.h l):Av h' n u:=fun l hl=>⟨(a l hl).1,fun z=>(a l hl).2 (e l (a l hl).1 z)⟩
theorem Av.int {h:Hd} {n:Nat} {i:Int}:Av h n (.int i):=fun l hl=>by simp [locs] at hl
theorem Av.bl {h:Hd} {n:Nat} {b:Bool}:Av h n (.bl b):=fun l hl=>by simp [locs] at hl
theorem Av.non {h:Hd} {n:Nat}:Av h n .non:=fun l hl=>by simp [locs] at hl
theorem Av.str {h:Hd} {n:Nat} {x:Str}:Av h n (.str x):=fun l hl=>by simp [locs] at hl
theorem Av.exo {h:Hd} {n:Nat} {c:Nat}:Av h n (.exo c):=fun l hl=>by simp [locs] at hl
theorem Av.loc {h:Hd} {n l:Nat} (h1:l < n) (h2:¬ h.h l):Av h n (.loc l):=fun k hk=>by simp [locs] at hk; subst hk; exact ⟨h1,h2⟩
theorem fu {us:List U} {l:Nat}:l ∈ kn us ↔ ∃ u ∈ us,l ∈ locs u:=by
 induction us with
 | nil=>simp [kn]
 | cons u us ih=>simp [kn,ih]
theorem Av.kl {h:Hd} {n:Nat} {us:List U}:Av h n (.kl us) ↔ ∀ u ∈ us,Av h n u:=by
 constructor
 · intro a u hu l hl
   exact a l (by simp only [locs]; exact fu.mpr ⟨u,hu,hl⟩)
 · intro a l hl
   simp only [locs] at hl
   obtain ⟨u,hu,hl⟩:=fu.mp hl
   exact a u hu l hl
theorem Av.tup {h:Hd} {n:Nat} {us:List U}:Av h n (.tup us) ↔ ∀ u ∈ us,Av h n u:=by
 constructor
 · intro a u hu l hl
   exact a l (by simp only [locs]; exact fu.mpr ⟨u,hu,hl⟩)
 · intro a l hl
   simp only [locs] at hl
   obtain ⟨u,hu,hl⟩:=fu.mp hl
   exact a u hu l hl
section
variable {st st':Sto}
mutual
theorem Rep.pre (e:∀ (k:Nat) c,st[k]?=some c→st'[k]?=some c):∀ {u:U} {d:T},Rep st u d→Rep st' u d
 | _,_,.non=>.non
 | _,_,.bl=>.bl
 | _,_,.int=>.int
 | _,_,.str=>.str
 | _,_,.exo=>.exo
 | _,_,.tup r=>.tup (aK.pre e r)
 | _,_,.loc h r=>.loc (e _ _ h) (aK.pre e r)
 | _,_,.kl r=>.kl (aK.pre e r)
theorem aK.pre (e:∀ (k:Nat) c,st[k]?=some c→st'[k]?=some c):∀ {us:List U} {ds:List T},aK st us ds→aK st' us ds
 | _,_,.nil=>.nil
 | _,_,.cons h r=>.cons (Rep.pre e h) (aK.pre e r)
end
mutual
theorem Rep.keep {h:Hd} (w:Wf h st) (e:∀ (k:Nat) c,¬ h.h k→st[k]?=some c→st'[k]?=some c):∀ {u:U} {d:T},Rep st u d→(∀ l ∈ locs u,¬ h.h l)→Rep st' u d
 | _,_,.non,_=>.non
 | _,_,.bl,_=>.bl
 | _,_,.int,_=>.int
 | _,_,.str,_=>.str
 | _,_,.exo,_=>.exo
 | _,_,.tup r,a=>.tup (aK.keep w e r fun u hu l hl=>a l (by simp only [locs]; exact fu.mpr ⟨u,hu,hl⟩))
 | _,_,.kl r,a=>.kl (aK.keep w e r fun u hu l hl=>a l (by simp only [locs]; exact fu.mpr ⟨u,hu,hl⟩))
 | _,_,.loc (l:=l) q r,a=>.loc (e _ _ (a l (by simp [locs])) q) (aK.keep w e r fun u hu k hk=>(w.av _ _ _ (fun z=>a l (by simp [locs]) (h.sub l z)) q u hu k hk).2)
theorem aK.keep {h:Hd} (w:Wf h st) (e:∀ (k:Nat) c,¬ h.h k→st[k]?=some c→st'[k]?=some c):∀ {us:List U} {ds:List T},aK st us ds→(∀ u ∈ us,∀ l ∈ locs u,¬ h.h l)→aK st' us ds
 | _,_,.nil,_=>.nil
 | _,_,.cons h r,a=>.cons (Rep.keep w e h (a _ (List.mem_cons_self ..))) (aK.keep w e r fun u hu=>a u (List.mem_cons_of_mem _ hu))
end
end
theorem i5 {st st':Sto} (e:st <+: st'):∀ (k:Nat) c,st[k]?=some c→st'[k]?=some c:=fun k c h=>by
 obtain ⟨r,rfl⟩:=e
 rw [List.getElem?_append_left (List.getElem?_eq_some_iff.mp h).1]; exact h
theorem Rep.ext {st st':Sto} {u:U} {d:T} (r:Rep st u d) (e:st <+: st'):Rep st' u d:=r.pre (i5 e)
theorem aK.ext {st st':Sto} {u:List U} {d:List T} (r:aK st u d) (e:st <+: st'):aK st' u d:=r.pre (i5 e)
theorem aK.length {st:Sto}:∀ {us:List U} {ds:List T},aK st us ds→us.length=ds.length
 | _,_,.nil=>rfl
 | _,_,.cons _ r=>congrArg (· + 1) r.length
theorem aK.get {st:Sto}:∀ {us:List U} {ds:List T} {i:Nat} {d:T},aK st us ds→ds[i]?=some d→∃ u,us[i]?=some u∧Rep st u d
 | _,_,_,_,.nil,e=>by simp at e
 | _,_,0,_,.cons h _,e=>by simp at e; subst e; exact ⟨_,rfl,h⟩
 | _,_,i + 1,d,.cons _ r,e=>by
   obtain ⟨v,h1,h2⟩:=aK.get (i:=i) (d:=d) r (by simpa using e)
   exact ⟨v,by simpa using h1,h2⟩
theorem aK.append {st:Sto}:∀ {xs ys:List U} {ds es:List T},aK st xs ds→aK st ys es→aK st (xs++ys) (ds++es)
 | _,_,_,_,.nil,s=>s
 | _,_,_,_,.cons h r,s=>.cons h (aK.append r s)
theorem aK.take {st:Sto}:∀ {xs:List U} {ds:List T} (n:Nat),aK st xs ds→aK st (xs.take n) (ds.take n)
 | _,_,0,_=>.nil
 | _,_,_ + 1,.nil=>.nil
 | _,_,n + 1,.cons h r=>.cons h (aK.take n r)
theorem aK.drop {st:Sto}:∀ {xs:List U} {ds:List T} (n:Nat),aK st xs ds→aK st (xs.drop n) (ds.drop n)
 | _,_,0,r=>r
 | _,_,_ + 1,.nil=>.nil
 | _,_,n + 1,.cons _ r=>aK.drop n r
theorem aK.set {st:Sto}:∀ {xs:List U} {ds:List T} (n:Nat) {v:U} {d:T},aK st xs ds→Rep st v d→aK st (xs.set n v) (ds.set n d)
 | _,_,_,_,_,.nil,_=>.nil
 | _,_,0,_,_,.cons _ r,h=>.cons h r
 | _,_,n + 1,_,_,.cons h r,h'=>.cons h (aK.set n r h')
theorem aK.erase {st:Sto}:∀ {xs:List U} {ds:List T} (n:Nat),aK st xs ds→aK st (xs.eraseIdx n) (ds.eraseIdx n)
 | _,_,_,.nil=>.nil
 | _,_,0,.cons _ r=>r
 | _,_,n + 1,.cons h r=>.cons h (aK.erase n r)
theorem aK.insert {st:Sto}:∀ {xs:List U} {ds:List T} (n:Nat) {v:U} {d:T},aK st xs ds→Rep st v d→aK st (xs.insertIdx n v) (ds.insertIdx n d)
 | _,_,0,_,_,r,h=>.cons h r
 | _,_,_ + 1,_,_,.nil,_=>.nil
 | _,_,n + 1,_,_,.cons h r,h'=>.cons h (aK.insert n r h')
theorem Rep.int_inv {st:Sto} {u:U} {i:Int} (r:Rep st u (.int i)):u=.int i:=by cases r; rfl
theorem Rep.jH {st:Sto} {u:U} {b:Bool} (r:Rep st u (.bl b)):u=.bl b:=by cases r; rfl
theorem Rep.Jq {st:Sto} {u:U} {ds:List T} (r:Rep st u (.tup ds)):∃ us,u=.tup us∧aK st us ds:=by cases r; exact ⟨_,rfl,by assumption⟩
theorem Rep.lst_inv {st:Sto} {u:U} {ds:List T} (r:Rep st u (.lst ds)):(∃ l fz us,u=.loc l∧st[l]?=some (fz,us)∧aK st us ds)∨∃ us,u=.kl us∧aK st us ds:=by
 cases r with
 | loc e r=>exact .inl ⟨_,_,_,rfl,e,r⟩
 | kl r=>exact .inr ⟨_,rfl,r⟩
mutual
noncomputable def toD:T→D
 | .non=>.non
 | .bl b=>.bl b
 | .int i=>.int i
 | .str x=>.str x
 | .tup xs=>.tup (nq xs)
 | .lst xs=>.lst (nq xs)
 | .exo _=>.non
noncomputable def nq:List T→List D
 | []=>[]
 | x :: xs=>toD x :: nq xs
end
mutual
theorem nk {st:Sto}:∀ {u:U} {d:T} (n:Nat),Rep st u d→clT d=true→dpT d≤n→rsv st n u=some (toD d)
 | _,_,n,.non,_,_=>by cases n <;> rfl
 | _,_,n,.bl,_,_=>by cases n <;> rfl
 | _,_,n,.int,_,_=>by cases n <;> rfl
 | _,_,n,.str,_,_=>by cases n <;> rfl
 | _,_,n,.exo,h,_=>by simp [clT] at h
 | _,_,0,.tup _,_,h=>by simp [dpT] at h
 | _,_,n + 1,.tup r,h1,h2=>by
   rw [rsv,nj n r (by simpa [clT] using h1) (by simpa [dpT] using h2)]; rfl
 | _,_,0,.kl _,_,h=>by simp [dpT] at h
 | _,_,n + 1,.kl r,h1,h2=>by
   rw [rsv,nj n r (by simpa [clT] using h1) (by simpa [dpT] using h2)]; rfl
 | _,_,0,.loc _ _,_,h=>by simp [dpT] at h
 | _,_,n + 1,.loc e r,h1,h2=>by
   rw [rsv,e]
   dsimp only
   rw [nj n r (by simpa [clT] using h1) (by simpa [dpT] using h2)]; rfl
theorem nj {st:Sto}:∀ {us:List U} {ds:List T} (n:Nat),aK st us ds→mM ds=true→sH ds≤n→vN (rsv st n) us=some (nq ds)
 | _,_,_,.nil,_,_=>rfl
 | _,_,n,.cons h r,h1,h2=>by
   rw [mM,Bool.and_eq_true] at h1
   rw [sH] at h2
   rw [vN,nk n h h1.1 (by omega),nj n r h1.2 (by omega)]; rfl
end
mutual
theorem Bs:∀ d:T,clT d=true→Ev.cln (toD d)=true
 | .non,_=>rfl
 | .bl _,_=>rfl
 | .int _,_=>rfl
 | .str x,h=>by simpa [clT,toD] using h
 | .tup xs,h=>by simp only [toD,Ev.cln]; exact qF xs (by simpa [clT] using h)
 | .lst xs,h=>by simp only [toD,Ev.cln]; exact qF xs (by simpa [clT] using h)
 | .exo _,h=>by simp [clT] at h
theorem qF:∀ d:List T,mM d=true→Ev.wW (nq d)=true
 | [],_=>rfl
 | x :: xs,h=>by
   rw [mM,Bool.and_eq_true] at h
   simp only [nq,Ev.wW,Bs x h.1,qF xs h.2,Bool.and_self]
end
mutual
theorem AQ:∀ d:T,Ev.dep (toD d)=dpT d
 | .non=>rfl
 | .bl _=>rfl
 | .int _=>rfl
 | .str x=>rfl
 | .tup xs=>by simp only [toD,Ev.dep,dpT,qr xs]
 | .lst xs=>by simp only [toD,Ev.dep,dpT,qr xs]
 | .exo _=>rfl
theorem qr:∀ d:List T,Ev.xK (nq d)=sH d
 | []=>rfl
 | x :: xs=>by simp only [nq,Ev.xK,sH,AQ x,qr xs]
end
mutual
theorem uX:∀ a b:T,clT a=true→clT b=true→Ev.eqD (toD a) (toD b)=eqT a b
 | .tup xs,b,h1,h2=>by
   cases b with
   | tup ys=>simp only [toD,Ev.eqD,eqT]; exact rb xs ys (by simpa [clT] using h1) (by simpa [clT] using h2)
   | exo c=>simp [clT] at h2
   | _=>simp [toD,Ev.eqD,eqT]
 | .lst xs,b,h1,h2=>by
   cases b with
   | lst ys=>simp only [toD,Ev.eqD,eqT]; exact rb xs ys (by simpa [clT] using h1) (by simpa [clT] using h2)
   | exo c=>simp [clT] at h2
   | _=>simp [toD,Ev.eqD,eqT]
 | .exo _,b,h1,_=>by simp [clT] at h1
 | .non,b,_,h2=>by cases b <;> first | (simp [clT] at h2; done) | simp [toD,Ev.eqD,eqT]
 | .bl _,b,_,h2=>by cases b <;> first | (simp [clT] at h2; done) | simp [toD,Ev.eqD,eqT]
 | .int _,b,_,h2=>by cases b <;> first | (simp [clT] at h2; done) | simp [toD,Ev.eqD,eqT]
 | .str _,b,_,h2=>by cases b <;> first | (simp [clT] at h2; done) | simp [toD,Ev.eqD,eqT]
theorem rb:∀ a b:List T,mM a=true→mM b=true→Ev.ou (nq a) (nq b)=sD a b
 | [],[],_,_=>by simp [nq,Ev.ou,sD]
 | [],_ :: _,_,_=>by simp [nq,Ev.ou,sD]
 | _ :: _,[],_,_=>by simp [nq,Ev.ou,sD]
 | x :: xs,y :: ys,h1,h2=>by
   rw [mM,Bool.and_eq_true] at h1 h2
   simp only [nq,Ev.ou,sD,uX x y h1.1 h2.1,rb xs ys h1.2 h2.2]
end
theorem qg {d:T} (h:eqK d):Ev.zH (toD d):=⟨Bs d h.1,by rw [AQ]; exact h.2⟩
theorem oN {st:Sto}:∀ {us:List U} {ds:List T},aK st us ds→pD us=rL ds
 | _,_,.nil=>rfl
 | _,_,.cons h r=>by
   have ih:=oN r
   cases h <;> first | rfl | (simp only [pD,rL,ih])
theorem uE {st:Sto} {x y:U} {a b:T} (h1:Rep st x a) (h2:Rep st y b) {o:Cm} {r:Bool} (e:zC o a b=some r):evC o x y st=some r:=by
 cases o
 case eq=>
   simp only [zC.eq_def] at e
   split at e
   · rename_i c
     cases e
     simp only [evC.eq_def,nk 64 h1 c.1.1 c.1.2,nk 64 h2 c.2.1 c.2.2]
     rw [if_pos ⟨qg c.1,qg c.2⟩,uX a b c.1.1 c.2.1]
   · cases e
 case ne=>
   simp only [zC.eq_def] at e
   split at e
   · rename_i c
     cases e
     simp only [evC.eq_def,nk 64 h1 c.1.1 c.1.2,nk 64 h2 c.2.1 c.2.2]
     rw [if_pos ⟨qg c.1,qg c.2⟩,uX a b c.1.1 c.2.1]
   · cases e
 case nin=>
   cases h1 with
   | int=>
     cases h2 with
     | loc f1 r2=>
       simp only [zC] at e
       simp only [evC,pT,f1,Option.map_some,oN r2]
       exact e
     | kl r2=>
       simp only [zC] at e
       simp only [evC,pT,oN r2]
       exact e
     | _=>simp [zC] at e
   | _=>simp [zC] at e
 all_goals
   cases a with
   | int i=>
     cases b with
     | int j=>
       have:=h1.int_inv; subst this
       have:=h2.int_inv; subst this
       exact e
     | _=>cases e
   | _=>cases e
end Sv
namespace Sv
open PySem PySem.Spec L2
open Ev (D aL aT ag)
structure Md where
 sc:Bool:=false
 lv:Nat:=0
 mv:Nat:=0
mutual
noncomputable def flat:T→Bool
 | .lst _=>false
 | .tup xs=>o2 xs
 | _=>true
noncomputable def o2:List T→Bool
 | []=>true
 | x :: xs=>flat x && o2 xs
end
noncomputable def D3:T→Bool
 | .lst ys=>o2 ys
 | d=>flat d
noncomputable def t7 (lv:Nat):T→Bool
 | .lst xs=>if lv=1 then o2 xs else if lv=2 then xs.all D3 else false
 | d=>flat d
noncomputable def spc:List (Option Nat)→Tg→It→List E→E→Bool
 | [none],.nm 0,.seq (.var _),[],.isi (.var 0) _=>true
 | _,_,_,_,_=>false
theorem vn {caps:List (Option Nat)} {t:Tg} {it:It} {ifs:List E} {elt:E} (h:spc caps t it ifs elt=true):∃ v ty,caps=[none]∧t=.nm 0∧it=.seq (.var v)∧ifs=[]∧elt=.isi (.var 0) ty:=by
 unfold spc at h
 split at h
 · exact ⟨_,_,rfl,rfl,rfl,rfl,rfl⟩
 · cases h
mutual
noncomputable def gts (μ:Nat→Md) (i lv:Nat):Nat→E→Bool
 | k,.var j=>decide (k < lv) && i == j
 | _,.cN | _,.cB _ | _,.cI _ | _,.cS _=>false
 | _,.op _ a b=>gts μ i lv 1 a || gts μ i lv 1 b
 | _,.neg a=>gts μ i lv 2 a
 | _,.not a=>gts μ i lv 2 a
 | _,.cmp _ a b=>gts μ i lv 2 a || gts μ i lv 2 b
 | _,.chain _ _ a b c=>gts μ i lv 2 a || gts μ i lv 2 b || gts μ i lv 2 c
 | k,.and a b=>gts μ i lv 2 a || gts μ i lv k b
 | k,.or a b=>gts μ i lv 2 a || gts μ i lv k b
 | k,.ite c a b=>gts μ i lv 2 c || gts μ i lv k a || gts μ i lv k b
 | _,.tup es=>dz μ i lv 0 es
 | _,.lst es=>dz μ i lv 0 es
 | k,.ix a b=>gts μ i lv (k + 1) a || gts μ i lv 2 b
 | _,.sl a b c=>gts μ i lv 1 a || gts μ i lv 2 b || gts μ i lv 2 c
 | _,.call f es=>dz μ i lv (if (μ f).sc then 2 else 0) es
 | _,.bi o es=>dz μ i lv (match o with | .len=>2 | _=>1) es
 | _,.isi a _=>gts μ i lv 2 a
 | _,.isB _ a _=>gts μ i lv 2 a
 | _,.isN _ a=>gts μ i lv 2 a
 | _,.comp caps t it ifs elt=>caps.contains (some i) || gG μ i lv (if spc caps t it ifs elt then 2 else 1) it
noncomputable def dz (μ:Nat→Md) (i lv:Nat):Nat→List E→Bool
 | _,[]=>false
 | k,e :: es=>gts μ i lv k e || dz μ i lv k es
noncomputable def gG (μ:Nat→Md) (i lv:Nat):Nat→It→Bool
 | k,.seq e=>gts μ i lv k e
 | _,.rng e=>gts μ i lv 2 e
 | _,.rng2 a b=>gts μ i lv 2 a || gts μ i lv 2 b
 | k,.enu e=>gts μ i lv k e
 | k,.zip a b=>gts μ i lv k a || gts μ i lv k b
end
noncomputable abbrev Own:=List (Nat × Nat)
noncomputable def dn (g:Nat→Nat→Bool):Own→Own
 | []=>[]
 | (i,lv) :: r=>if g i lv then (if lv=2∧g i 1=false then (i,1) :: dn g r else dn g r) else (i,lv) :: dn g r
noncomputable def cJ (own:Own) (i:Nat):Nat:=(own.lookup i).getD 0
noncomputable def dm (μ:Nat→Md):E→Nat
 | .lst _=>1
 | .comp _ _ _ _ e=>if dm μ e=0 then 1 else 2
 | .sl _ _ _=>1
 | .op .add _ _=>1
 | .bi .list _=>1
 | .call f _=>(μ f).lv
 | _=>0
noncomputable def isL:T→Bool
 | .lst _=>true
 | _=>false
noncomputable def lvT:T→Nat
 | .lst xs=>if xs.all isL then 2 else 1
 | _=>0
noncomputable def tgN:Tg→List Nat
 | .nm i=>[i]
 | .tp is=>is
noncomputable def frg (t:Tg):Nat→Nat→Bool:=fun k _=>(tgN t).contains k
inductive FlT where
 | nx (τ:ao) (own:Own) | rt (d:T)
noncomputable def zM:Lm→List T→List T→Option (List T)
 | .append,xs,[x]=>if xs.length < ag then some (xs++[x]) else none
 | .rot,xs,[.int i,.int j]=>if xs.length < ag∧0≤i∧i.toNat < xs.length∧0≤j∧j.toNat < xs.length then (xs[j.toNat]?).map fun x=>(xs.eraseIdx j.toNat).insertIdx i.toNat x else none
 | _,_,_=>none
noncomputable def bN (f:T→ao→Own→Ou FlT):List T→ao→Own→Ou FlT
 | [],τ,own=>.ok (.nx τ own)
 | x :: xs,τ,own=>(f x τ own).bind fun r=>match r with
   | .nx τ' own'=>bN f xs τ' own'
   | .rt d=>.ok (.rt d)
noncomputable def i3 (c:ao→Ou T) (g:Nat→Nat→Bool) (f:ao→Own→Ou FlT):Nat→ao→Own→Ou FlT
 | 0,_,_=>.bad
 | n + 1,τ,own=>(c τ).bind fun x=>match x with
   | .bl true=>(f τ (dn g own)).bind fun r=>match r with
     | .nx τ' own'=>i3 c g f n τ' own'
     | .rt d=>.ok (.rt d)
   | .bl false=>.ok (.nx τ (dn g own))
   | _=>.bad
noncomputable def gB {α β:Type}:Option α→(α→Ou β)→Ou β
 | some a,f=>f a
 | none,_=>.bad
noncomputable def hU:Ou T→Option (List T)
 | .ok (.lst xs)=>some xs
 | _=>none
noncomputable def intOf:T→Option Int
 | .int i=>some i
 | _=>none
noncomputable def sX (o:Option ao) (own:Own):Ou FlT:=match o with
 | some τ'=>.ok (.nx τ' own)
 | none=>.bad
structure Fx where
 μ:Nat→Md
 need:List Nat
 lv:Nat
noncomputable def fF (X:Fx) (own:Own) (t:Tg) (e:E) (x:T) (τ:ao):Own:=match t with
 | .nm i=>if X.need.contains i && (τ[i]?).isSome then (if min (dm X.μ e) (lvT x)=0 then dn (frg t) own else (i,min (dm X.μ e) (lvT x)) :: dn (frg t) own) else dn (frg t) own
 | .tp _=>dn (frg t) own
noncomputable def DB (τ:ao) (own:Own) (v:Nat) (xs:List T) (y z:T):Ou FlT:=gB (intOf y) fun k=>gB (L2.ixN xs.length k) fun j=>
 if 0 < cJ own v then .ok (.nx (τ.set v (some (.lst (xs.set j z)))) (dn (fun i lv=>i == v && lv == 2) own)) else .bad
noncomputable def Bf:Lm→Bool
 | .extend=>true
 | _=>false
noncomputable def Na (τ:ao) (own:Own) (v:Nat) (xs:List T):List T→Ou FlT
 | [.lst ys]=>if xs.length + ys.length < ag then .ok (.nx (τ.set v (some (.lst (xs++ys)))) (dn (fun i lv=>i == v && lv == 2) own)) else .bad
 | _=>.bad
noncomputable def Dt (μ:Nat→Md) (τ:ao) (own:Own) (v:Nat) (es:List E) (r:Ou (List T)):Ou FlT:=match es with
 | [e]=>if 1≤dm μ e then gB (hU (aH τ v)) fun xs=>if 0 < cJ (dn (fun k lv=>dz μ k lv 0 es) own) v then r.bind fun ds=>Na τ (dn (fun k lv=>dz μ k lv 0 es) own) v xs ds else .bad else .bad
 | _=>.bad
noncomputable def lW (τ:ao) (r v:Nat):E→Option Int
 | .cI k=>some k
 | .var j=>if j=r∨j=v then none else match τ[j]? with | some (some (.int k))=>some k | _=>none
 | _=>none
noncomputable def Er (k:Int) (z:T):T→Option T
 | .lst ys=>(L2.ixN ys.length k).map fun j=>.lst (ys.set j z)
 | _=>none
noncomputable def lh (k:Int) (z:T):Nat→List T→Option (List T)
 | 0,xs=>some xs
 | _ + 1,[]=>none
 | m + 1,x :: xs=>(Er k z x).bind fun x'=>(lh k z m xs).map (x' :: ·)
noncomputable def vP (τ:ao) (own:Own) (r v:Nat) (c:Bool) (i:E) (a b:Int):Ou FlT:=if cJ own v=2∧r ≠ v∧r < τ.length then
   gB (hU (aH τ v)) fun xs=>gB (lW τ r v i) fun k=>gB (lh k (.tup [.int a,.int b]) (if c then xs.length - 1 else xs.length) xs) fun xs'=>.ok (.nx ((τ.set r none).set v (some (.lst xs'))) own)
 else .bad
noncomputable def wG (m:Lm) (τ:ao) (own:Own) (v:Nat) (xs ds:List T):Ou FlT:=gB (zM m xs ds) fun ys=>.ok (.nx (τ.set v (some (.lst ys))) (dn (fun i lv=>i == v && lv == 2) own))
mutual
noncomputable def yS (Ψ ΨM:FnT) (X:Fx) (n:Nat):S→ao→Own→Ou FlT
 | .set t e,τ,own=>match e with
   | .call f (.var v :: es)=>if 0 < (X.μ f).mv then
       (if (X.μ f).mv≤cJ (dn (fun i lv=>dz X.μ i lv 0 es) own) v then
         (aH τ v).bind fun x=>(yEs Ψ es τ).bind fun xs=>(ΨM f (x :: xs)).bind fun d=>sX (aW t d (τ.set v none)) (fF X (dn (fun i _=>i == v) (dn (fun i lv=>dz X.μ i lv 0 es) own)) t (.call f (.var v :: es)) d (τ.set v none))
       else .bad)
     else (yE Ψ (.call f (.var v :: es)) τ).bind fun x=>sX (aW t x τ) (fF X (dn (fun i lv=>gts X.μ i lv 0 (.call f (.var v :: es))) own) t (.call f (.var v :: es)) x τ)
   | e=>(yE Ψ e τ).bind fun x=>sX (aW t x τ) (fF X (dn (fun i lv=>gts X.μ i lv 0 e) own) t e x τ)
 | .put (.var v) i e,τ,own=>(yE Ψ e τ).bind fun z=>gB (hU (aH τ v)) fun xs=>(yE Ψ i τ).bind fun y=>DB τ (dn (fun k lv=>gts X.μ k lv 0 e || gts X.μ k lv 2 i) own) v xs y z
 | .put _ _ _,_,_=>.bad
 | .mth m (.var v) es,τ,own=>if Bf m=true then Dt X.μ τ own v es (yEs Ψ es τ) else gB (hU (aH τ v)) fun xs=>if 0 < cJ (dn (fun k lv=>dz X.μ k lv 0 es) own) v then (yEs Ψ es τ).bind fun ds=>wG m τ (dn (fun k lv=>dz X.μ k lv 0 es) own) v xs ds else .bad
 | .mth _ _ _,_,_=>.bad
 | .ret e,τ,own=>(yE Ψ e τ).bind fun x=>if X.lv=0∨isL x=false then .ok (.rt x) else match e with
   | .var i=>if X.lv≤cJ own i then .ok (.rt x) else .bad
   | e=>if X.lv≤min (dm X.μ e) (lvT x) then .ok (.rt x) else .bad
 | .ite c a b,τ,own=>(yE Ψ c τ).bind fun x=>match x with
   | .bl true=>ySs Ψ ΨM X n a τ (dn (fun k lv=>gts X.μ k lv 2 c) own)
   | .bl false=>ySs Ψ ΨM X n b τ (dn (fun k lv=>gts X.μ k lv 2 c) own)
   | _=>.bad
 | .for t it body,τ,own=>((yIt Ψ it τ).bind fun xs=>bN (fun x τ' own'=>match aW t x τ' with
     | some τ2=>ySs Ψ ΨM X n body τ2 (dn (frg t) own')
     | none=>.bad) xs τ (dn (fun k lv=>gG X.μ k lv 0 it) own)).noX
 | .while c body,τ,own=>(i3 (fun τ'=>yE Ψ c τ') (fun k lv=>gts X.μ k lv 2 c) (fun τ' own'=>ySs Ψ ΨM X n body τ' own') n τ own).noX
 | .rows r v c i a b,τ,own=>vP τ (dn (frg (.nm r)) own) r v c i a b
 | .expr e,τ,own=>match e with
   | .call f (.var v :: es)=>if 0 < (X.μ f).mv then
       (if (X.μ f).mv≤cJ (dn (fun i lv=>dz X.μ i lv 0 es) own) v then
         (aH τ v).bind fun x=>(yEs Ψ es τ).bind fun xs=>(ΨM f (x :: xs)).bind fun _=>.ok (.nx (τ.set v none) (dn (fun i _=>i == v) (dn (fun i lv=>dz X.μ i lv 0 es) own)))
       else .bad)
     else (yE Ψ (.call f (.var v :: es)) τ).bind fun _=>.ok (.nx τ (dn (fun i lv=>gts X.μ i lv 0 (.call f (.var v :: es))) own))
   | e=>(yE Ψ e τ).bind fun _=>.ok (.nx τ (dn (fun k lv=>gts X.μ k lv 0 e) own))
 | .nev,_,_=>.bad
noncomputable def ySs (Ψ ΨM:FnT) (X:Fx) (n:Nat):List S→ao→Own→Ou FlT
 | [],τ,own=>.ok (.nx τ own)
 | s :: ss,τ,own=>(yS Ψ ΨM X n s τ own).bind fun r=>match r with
   | .nx τ' own'=>ySs Ψ ΨM X n ss τ' own'
   | r=>.ok r
end
end Sv
namespace Sv
open PySem PySem.Spec L2
open Ev (D aL aT ag)
structure Gr (h:Hd) (st:Sto) (h':Hd) (st':Sto):Prop where
 pre:st <+: st'
 hm:∀ l,h.h l→h'.h l
 gm:∀ l,h.g l→h'.g l
 hn:∀ l,l < st.length→h'.h l→h.h l
 gn:∀ l,l < st.length→h'.g l→h.g l
 wf:Wf h' st'
theorem Gr.refl {h:Hd} {st:Sto} (w:Wf h st):Gr h st h st:=⟨List.prefix_refl _,fun _ z=>z,fun _ z=>z,fun _ _ z=>z,fun _ _ z=>z,w⟩
theorem Gr.same {h:Hd} {st st':Sto} (p:st <+: st') (w:Wf h st'):Gr h st h st':=⟨p,fun _ z=>z,fun _ z=>z,fun _ _ z=>z,fun _ _ z=>z,w⟩
theorem Gr.trans {h h1 h2:Hd} {st st1 st2:Sto} (a:Gr h st h1 st1) (b:Gr h1 st1 h2 st2):Gr h st h2 st2:=
 ⟨a.pre.trans b.pre,fun l z=>b.hm l (a.hm l z),fun l z=>b.gm l (a.gm l z),fun l hl z=>a.hn l hl (b.hn l (Nat.lt_of_lt_of_le hl a.pre.length_le) z),fun l hl z=>a.gn l hl (b.gn l (Nat.lt_of_lt_of_le hl a.pre.length_le) z),b.wf⟩
theorem Gr.av {h h':Hd} {st st':Sto} {u:U} (g:Gr h st h' st') (a:Av h st.length u):Av h' st'.length u:=fun l hl=>⟨Nat.lt_of_lt_of_le (a l hl).1 g.pre.length_le,fun z=>(a l hl).2 (g.hn l (a l hl).1 z)⟩
noncomputable def Gd {α β:Type} (h:Hd) (st:Sto) (P:Hd→Sto→α→β→Prop) (x:Rs α):Ou β→Prop
 | .bad=>True
 | .ok d=>∃ u st' h',x=.ok u st'∧Gr h st h' st'∧P h' st' u d
 | .exc c=>∃ st' h',x=.exc c st'∧Gr h st h' st'
theorem Gd.imp {α β:Type} {h:Hd} {st:Sto} {P Q:Hd→Sto→α→β→Prop} {x:Rs α} {r:Ou β} (g:Gd h st P x r) (f:∀ h' st' u d,P h' st' u d→Q h' st' u d):Gd h st Q x r:=by
 cases r with
 | bad=>trivial
 | ok d=>obtain ⟨u,st',h',e,p,q⟩:=g; exact ⟨u,st',h',e,p,f _ _ _ _ q⟩
 | exc c=>exact g
theorem Gd.bind {α β γ δ:Type} {h:Hd} {st:Sto} {P:Hd→Sto→α→β→Prop} {Q:Hd→Sto→γ→δ→Prop} {x:Rs α} {r:Ou β} {f:α→Sto→Rs γ} {k:β→Ou δ} (g:Gd h st P x r)
   (n:∀ u d st' h',Gr h st h' st'→P h' st' u d→Gd h' st' Q (f u st') (k d)):Gd h st Q (x.bind f) (r.bind k):=by
 cases r with
 | bad=>trivial
 | exc c=>obtain ⟨st',h',e,p⟩:=g; subst e; exact ⟨st',h',rfl,p⟩
 | ok d=>
   obtain ⟨u,st',h',e,p,q⟩:=g
   subst e
   have:=n u d st' h' p q
   show Gd h st Q (f u st') (k d)
   generalize k d=y at this
   cases y with
   | bad=>trivial
   | exc c=>obtain ⟨st2,h2,e,p2⟩:=this; exact ⟨st2,h2,e,p.trans p2⟩
   | ok d'=>obtain ⟨u',st2,h2,e,p2,q2⟩:=this; exact ⟨u',st2,h2,e,p.trans p2,q2⟩
theorem Gd.ok {α β:Type} {h:Hd} {st:Sto} {P:Hd→Sto→α→β→Prop} {u:α} {d:β} (w:Wf h st) (p:P h st u d):Gd h st P (.ok u st) (.ok d):=⟨u,st,h,rfl,.refl w,p⟩
theorem Gd.noX {α β:Type} {h:Hd} {st:Sto} {P:Hd→Sto→α→β→Prop} {x:Rs α} {r:Ou β} (g:Gd h st P x r):Gd h st P x.noX r.noX:=by
 cases r with
 | bad=>trivial
 | exc c=>trivial
 | ok d=>obtain ⟨u,st',h',e,p,q⟩:=g; subst e; exact ⟨u,st',h',rfl,p,q⟩
theorem Gd.inv {α β:Type} {h:Hd} {st:Sto} {P:Hd→Sto→α→β→Prop} {x:Rs α} {r:Ou β} {d:β} (g:Gd h st P x r) (e:r=.ok d):∃ u st' h',x=.ok u st'∧Gr h st h' st'∧P h' st' u d:=by
 subst e; exact g
noncomputable def Dp (h:Hd) (st:Sto) (l:Nat):Prop:=∃ fz us,st[l]?=some (fz,us)∧∀ u ∈ us,∃ c,u=.loc c∧c < st.length∧¬ h.g c
noncomputable def Kd (h:Hd) (k:Nat) (st:Sto) (u:U):Prop:=Av h st.length u∨(1≤k∧∃ l,u=.loc l∧l < st.length∧¬ h.g l)∨(2≤k∧∃ l,u=.loc l∧Dp h st l)
theorem Dp.lt {h:Hd} {st:Sto} {l:Nat} (d:Dp h st l):l < st.length:=by obtain ⟨_,_,e,_⟩:=d; exact (List.getElem?_eq_some_iff.mp e).1
theorem Kd.mono {h:Hd} {k k':Nat} {st:Sto} {u:U} (a:Kd h k st u) (e:k≤k'):Kd h k' st u:=a.imp id (Or.imp (fun ⟨x,y⟩=>⟨Nat.le_trans x e,y⟩) fun ⟨x,y⟩=>⟨Nat.le_trans x e,y⟩)
theorem Dp.gr {h h':Hd} {st st':Sto} {l:Nat} (d:Dp h st l) (g:Gr h st h' st'):Dp h' st' l:=by
 obtain ⟨fz,us,e,q⟩:=d
 exact ⟨fz,us,i5 g.pre _ _ e,fun u hu=>let ⟨c,e1,e2,e3⟩:=q u hu; ⟨c,e1,Nat.lt_of_lt_of_le e2 g.pre.length_le,fun z=>e3 (g.gn c e2 z)⟩⟩
theorem Kd.gr {h h':Hd} {k:Nat} {st st':Sto} {u:U} (a:Kd h k st u) (g:Gr h st h' st'):Kd h' k st' u:=by
 rcases a with a | ⟨x,l,e,hl,ng⟩ | ⟨x,l,e,d⟩
 · exact .inl (g.av a)
 · exact .inr (.inl ⟨x,l,e,Nat.lt_of_lt_of_le hl g.pre.length_le,fun z=>ng (g.gn l hl z)⟩)
 · exact .inr (.inr ⟨x,l,e,d.gr g⟩)
theorem Kd.zero {h:Hd} {st:Sto} {u:U} (a:Kd h 0 st u):Av h st.length u:=by
 rcases a with a | ⟨x,_⟩ | ⟨x,_⟩
 · exact a
 · omega
 · omega
noncomputable def PX (k:Nat) (h:Hd) (st:Sto) (u:U) (d:T):Prop:=Rep st u d∧Kd h k st u
noncomputable def PXs (k:Nat) (h:Hd) (st:Sto) (us:List U) (ds:List T):Prop:=aK st us ds∧∀ u ∈ us,Kd h k st u
theorem PX.of {k:Nat} {h:Hd} {st:Sto} {u:U} {d:T} (r:Rep st u d) (a:Av h st.length u):PX k h st u d:=⟨r,.inl a⟩
theorem PX.gr {k:Nat} {h h':Hd} {st st':Sto} {u:U} {d:T} (p:PX k h st u d) (g:Gr h st h' st'):PX k h' st' u d:=⟨p.1.ext g.pre,p.2.gr g⟩
theorem PXs.gr {k:Nat} {h h':Hd} {st st':Sto} {u:List U} {d:List T} (p:PXs k h st u d) (g:Gr h st h' st'):PXs k h' st' u d:=⟨p.1.ext g.pre,fun u hu=>(p.2 u hu).gr g⟩
theorem PX.mono {k k':Nat} {h:Hd} {st:Sto} {u:U} {d:T} (p:PX k h st u d) (e:k≤k'):PX k' h st u d:=⟨p.1,p.2.mono e⟩
theorem PX.weak {k:Nat} {h:Hd} {st:Sto} {u:U} {d:T} (p:PX 0 h st u d):PX k h st u d:=p.mono (Nat.zero_le _)
theorem PX.av {h:Hd} {st:Sto} {u:U} {d:T} (p:PX 0 h st u d):Av h st.length u:=p.2.zero
structure WE (h:Hd) (st:Sto) (ρ:Env) (τ:ao) (own:Own):Prop where
 len:ρ.length=τ.length
 val:∀ (i:Nat) d,τ[i]?=some (some d)→∃ u,ρ[i]?=some (some u)∧Rep st u d∧(Av h st.length u∨∃ lv,(i,lv) ∈ own∧Kd h lv st u)
theorem WE.gr {h h':Hd} {st st':Sto} {ρ:Env} {τ:ao} {own:Own} (w:WE h st ρ τ own) (g:Gr h st h' st'):WE h' st' ρ τ own:=
 ⟨w.len,fun i d q=>let ⟨u,h1,h2,h3⟩:=w.val i d q; ⟨u,h1,h2.ext g.pre,h3.imp g.av fun ⟨lv,a,b⟩=>⟨lv,a,b.gr g⟩⟩⟩
theorem fD {st:Sto} {c:Bool × List U}:st <+: st++[c]:=List.prefix_append _ _
theorem Wf.new {h:Hd} {st:Sto} {us:List U} (w:Wf h st) (a:∀ u ∈ us,Av h st.length u):Wf h (st++[(false,us)]):=by
 refine ⟨fun k fz vs hk e u hu=>?_,fun l hl=>by rw [List.length_append]; exact Nat.lt_add_right _ (w.lt l hl)⟩
 rw [List.length_append]
 rcases Nat.lt_or_ge k st.length with q | q
 · rw [List.getElem?_append_left q] at e
   exact (w.av k fz vs hk e u hu).mono (Nat.le_add_right _ _)
 · rw [List.getElem?_append_right q] at e
   have:=List.mem_of_getElem? e
   rw [List.mem_singleton] at this
   cases this
   exact (a u hu).mono (Nat.le_add_right _ _)
theorem uC {h:Hd} {st:Sto} {us:List U} {ds:List T} (w:Wf h st) (r:aK st us ds):Rep (st++[(false,us)]) (.loc st.length) (.lst ds)∧Av h (st++[(false,us)]).length (.loc st.length):=by
 refine ⟨.loc (fz:=false) (us:=us) ?_ (r.ext fD),.loc (by rw [List.length_append]; exact Nat.lt_succ_self _) fun z=>Nat.lt_irrefl _ (w.lt _ z)⟩
 rw [List.getElem?_append_right (Nat.le_refl _),Nat.sub_self]; rfl
theorem ko {k:Nat} {h:Hd} {st:Sto} {us:List U} {ds:List T} (w:Wf h st) (p:PXs 0 h st us ds):Gd h st (PX k) (new st us) (.ok (.lst ds)):=by
 obtain ⟨r1,r2⟩:=uC w p.1
 exact ⟨_,_,h,rfl,.same fD (w.new fun u hu=>(p.2 u hu).zero),.of r1 r2⟩
theorem iS {k:Nat} {h:Hd} {st:Sto} {u:U} {ds:List T} (w:Wf h st) (p:PX k h st u (.lst ds)):∃ us,((∃ l fz,u=.loc l∧st[l]?=some (fz,us))∨u=.kl us)∧PXs (k - 1) h st us ds:=by
 rcases p.1.lst_inv with ⟨l,fz,us,rfl,e,r⟩ | ⟨us,rfl,r⟩
 · refine ⟨us,.inl ⟨l,fz,rfl,e⟩,r,fun u hu=>?_⟩
   rcases p.2 with a | ⟨x,l',z,hl,ng⟩ | ⟨x,l',z,fz',us',e',q⟩
   · exact .inl (w.av _ _ _ (fun q=>(a l (by simp [locs])).2 (h.sub l q)) e u hu)
   · cases z; exact .inl (w.av _ _ _ ng e u hu)
   · cases z
     rw [e] at e'; cases e'
     obtain ⟨c,e1,e2,e3⟩:=q u hu
     exact .inr (.inl ⟨by omega,c,e1,e2,e3⟩)
 · refine ⟨us,.inr rfl,r,fun u hu=>.inl ?_⟩
   rcases p.2 with a | ⟨_,l,z,_⟩ | ⟨_,l,z,_⟩
   · exact Av.kl.mp a u hu
   · cases z
   · cases z
theorem ni {k:Nat} {h:Hd} {st:Sto} {u:U} {ds:List T} (w:Wf h st) (p:PX k h st u (.lst ds)):∃ us,pT st u=some us∧seq? st u=some us∧PXs (k - 1) h st us ds:=by
 obtain ⟨us,⟨l,fz,rfl,e⟩ | rfl,q⟩:=iS w p
 · exact ⟨us,by simp [pT,e],by simp [seq?,e],q⟩
 · exact ⟨us,rfl,rfl,q⟩
theorem PXs.mono {k k':Nat} {h:Hd} {st:Sto} {u:List U} {d:List T} (p:PXs k h st u d) (e:k≤k'):PXs k' h st u d:=⟨p.1,fun u hu=>(p.2 u hu).mono e⟩
theorem kL {k k':Nat} {h:Hd} {st:Sto} {u:U} {ds:List T} (p:PX k h st u (.tup ds)):∃ us,u=.tup us∧PXs k' h st us ds:=by
 obtain ⟨us,rfl,r⟩:=p.1.Jq
 refine ⟨us,rfl,r,fun u hu=>.inl ?_⟩
 rcases p.2 with a | ⟨_,l,z,_⟩ | ⟨_,l,z,_⟩
 · exact Av.tup.mp a u hu
 · cases z
 · cases z
theorem DI {k:Nat} {h:Hd} {st:Sto} {us:List U} {ds:List T} (p:PXs k h st us ds) {i:Int} {d:T} (e:atI ds i=some d):∃ u,atI us i=some u∧PX k h st u d:=by
 unfold atI at e ⊢
 rw [p.1.length]
 obtain ⟨j,h1,h2⟩:=Option.bind_eq_some_iff.mp e
 obtain ⟨u,h3,h4⟩:=p.1.get h2
 exact ⟨u,by rw [h1]; exact h3,h4,(p.2 u (List.mem_of_getElem? h3))⟩
theorem PXs.append {k:Nat} {h:Hd} {st:Sto} {us vs:List U} {ds es:List T} (p:PXs k h st us ds) (q:PXs k h st vs es):PXs k h st (us++vs) (ds++es):=
 ⟨p.1.append q.1,fun u hu=>(List.mem_append.mp hu).elim (p.2 u) (q.2 u)⟩
theorem PXs.sub {k:Nat} {h:Hd} {st:Sto} {us vs:List U} {ds es:List T} (p:PXs k h st us ds) (r:aK st vs es) (s:∀ u ∈ vs,u ∈ us):PXs k h st vs es:=⟨r,fun u hu=>p.2 u (s u hu)⟩
theorem PXs.cut {k:Nat} {h:Hd} {st:Sto} {us:List U} {ds:List T} (p:PXs k h st us ds) (lo hi:Option Int):PXs k h st (zE us lo hi) (KG ds lo hi):=by
 unfold zE KG
 rw [p.1.length]
 exact p.sub (.take _ (.drop _ p.1)) fun u hu=>List.mem_of_mem_drop (List.mem_of_mem_take hu)
theorem PXs.nil {k:Nat} {h:Hd} {st:Sto}:PXs k h st [] []:=⟨.nil,fun _ z=>nomatch z⟩
theorem PXs.cons {k:Nat} {h:Hd} {st:Sto} {u:U} {d:T} {us:List U} {ds:List T} (p:PX k h st u d) (q:PXs k h st us ds):PXs k h st (u :: us) (d :: ds):=
 ⟨.cons p.1 q.1,fun v hv=>by
   rcases List.mem_cons.mp hv with rfl | hv
   · exact p.2
   · exact q.2 v hv⟩
theorem PD {k:Nat} {h:Hd} {st:Sto} {us:List U} {ds:List T} (w:Wf h st) (p:PXs 0 h st us ds):Gd h st (PX k) (.ok (.tup us) st) (.ok (.tup ds)):=
 .ok w (.of (.tup p.1) (Av.tup.mpr fun u hu=>(p.2 u hu).zero))
theorem AS {st:Sto} {x y:U} {us vs:List U} (c1:(∃ l fz,x=.loc l∧st[l]?=some (fz,us))∨x=.kl us) (c2:(∃ l fz,y=.loc l∧st[l]?=some (fz,vs))∨y=.kl vs) :
   ev2 .add x y st=if us.length + vs.length < ag then new st (us++vs) else .bad:=by
 rcases c1 with ⟨l,fz,rfl,f1⟩ | rfl <;> rcases c2 with ⟨k,fz2,rfl,f2⟩ | rfl <;> simp only [ev2.eq_def, *]
theorem IU {h:Hd} {st:Sto} {x y:U} {a d:T} (w:Wf h st) (p:PX 1 h st x a) (q:PX 1 h st y d) (o:Op2):Gd h st (PX 0) (ev2 o x y st) (z2 o a d):=by
 cases a with
 | int i=>
   have:=p.1.int_inv; subst this
   cases d with
   | int j=>
     have:=q.1.int_inv; subst this
     cases o <;> simp only [ev2.eq_def,z2.eq_def] <;> (try split) <;> first | exact .ok w (.of .int .int) | trivial
   | _=>cases o <;> trivial
 | lst xs=>
   cases d with
   | lst ys=>
     obtain ⟨us,c1,r1⟩:=iS w p
     obtain ⟨vs,c2,r2⟩:=iS w q
     cases o <;> try trivial
     have e1:=r1.1.length
     have e2:=r2.1.length
     rw [AS c1 c2]
     simp only [z2.eq_def]
     rw [← e1,← e2]
     split
     · exact ko w (r1.append r2)
     · trivial
   | _=>cases o <;> trivial
 | _=>cases o <;> trivial
theorem Ii {k:Nat} {h:Hd} {st:Sto} {x y:U} {a d:T} (w:Wf h st) (p:PX (k + 1) h st x a) (q:PX 2 h st y d):Gd h st (PX k) (evI x y st) (zI a d):=by
 cases d with
 | int i=>
   have:=q.1.int_inv; subst this
   cases a with
   | lst xs=>
     obtain ⟨us,_,e2,p'⟩:=ni w p
     simp only [zI.eq_def,evI.eq_def,e2]
     cases e:atI xs i with
     | some d'=>
       obtain ⟨u,e3,r⟩:=DI p' e
       rw [e3]; exact .ok w (r.mono (Nat.le_of_eq (Nat.add_sub_cancel k 1)))
     | none=>trivial
   | tup xs=>
     obtain ⟨us,rfl,p'⟩:=kL (k':=0) p
     simp only [zI.eq_def,evI.eq_def,seq?]
     cases e:atI xs i with
     | some d'=>
       obtain ⟨u,e3,r⟩:=DI p' e
       rw [e3]; exact .ok w r.weak
     | none=>trivial
   | _=>trivial
 | _=>cases a <;> trivial
theorem Ap {st:Sto}:∀ {us:List U} {ds:List T} {b:Bool},aK st us ds→uF ds=some b→allB us=some b
 | _,_,_,.nil,e=>e
 | _,_,b,.cons h r,e=>by
   cases h <;> first | (simp [uF] at e; done) | skip
   simp only [uF,Option.map_eq_some_iff] at e
   obtain ⟨c,e1,e2⟩:=e
   simp only [allB,Ap r e1,Option.map_some,e2]
theorem IZ {k:Nat} {h:Hd} {st:Sto}:∀ ns:List Int,PXs k h st (ns.map U.int) (ns.map T.int):=fun ns=>by
 induction ns with
 | nil=>exact ⟨.nil,fun u hu=>by cases hu⟩
 | cons n ns ih=>exact PXs.cons (.of .int .int) ih
noncomputable def biK:Bi→Nat
 | .len=>2
 | _=>1
theorem Hx {h:Hd} {st:Sto} {us:List U} {ds:List T} (w:Wf h st) (o:Bi) (p:PXs (biK o) h st us ds):Gd h st (PX 0) (evB o us st) (zB o ds):=by
 match ds,p with
 | [],_=>cases o <;> trivial
 | [a],⟨.cons r .nil,hp⟩=>
   rename_i x
   have px:PX (biK o) h st x a:=⟨r,hp x (List.mem_singleton_self x)⟩
   cases a with
   | int i=>
     have:=r.int_inv; subst this
     cases o <;> first | trivial | exact .ok w (.of .int .int) | skip
     simp only [evB.eq_def,zB.eq_def]
     by_cases hl:0≤i∧i.toNat < ag
     · rw [if_pos hl,if_pos hl,show (List.range i.toNat).map (fun (k:Nat)=>U.int (k:Int))=((List.range i.toNat).map fun (k:Nat)=>(k:Int)).map U.int by rw [List.map_map]; rfl,show (List.range i.toNat).map (fun (k:Nat)=>T.int (k:Int))=((List.range i.toNat).map fun (k:Nat)=>(k:Int)).map T.int by rw [List.map_map]; rfl]
       exact ko w (IZ _)
     · rw [if_neg hl,if_neg hl]; trivial
   | bl c=>
     have:=r.jH; subst this
     cases o <;> trivial
   | lst xs=>
     obtain ⟨vs,e1,e2,p'⟩:=ni w px
     cases o <;> try trivial
     · simp only [evB.eq_def,zB.eq_def,e2,p'.1.length]; exact .ok w (.of .int .int)
     · simp only [evB.eq_def,zB.eq_def,e2]; exact ko w p'
     · simp only [evB.eq_def,zB.eq_def,e1]
       cases z:uF xs with
       | none=>trivial
       | some c=>rw [Ap p'.1 z]; exact .ok w (.of .bl .bl)
   | tup xs=>
     obtain ⟨vs,rfl,p'⟩:=kL (k':=0) px
     cases o <;> try trivial
     · simp only [evB.eq_def,zB.eq_def,seq?,p'.1.length]; exact .ok w (.of .int .int)
     · simp only [evB.eq_def,zB.eq_def,seq?]; exact ko w p'
   | _=>cases o <;> trivial
 | [a,d],⟨.cons r (.cons r2 .nil),hp⟩=>
   cases a with
   | int i=>
     have:=r.int_inv; subst this
     cases d with
     | int j=>
       have:=r2.int_inv; subst this
       cases o <;> first | trivial | exact .ok w (.of .int .int)
     | _=>cases o <;> trivial
   | _=>cases o <;> trivial
 | a :: b :: c :: r,_=>
   have:zB o (a :: b :: c :: r)=.bad:=by cases o <;> cases a <;> first | rfl | (cases b <;> rfl)
   rw [this]; trivial
theorem vY {st:Sto} {u:U} {d:T} (r:Rep st u d) (t:Ty):B7 t u=ju t d:=by cases r <;> cases t <;> rfl
theorem Il {st:Sto} {u:U} {d:T} (r:Rep st u d) (t:Bool):B4 t u=ON t d:=by cases r <;> rfl
theorem IF {st:Sto} {u:U} {d:T} (r:Rep st u d):Cg u=Jp d:=by cases r <;> rfl
theorem p8 {st:Sto} {u:U} {d:T} (r:Rep st u d) (e:E) {o:Option Int} (h:Ef e d=some o):vL e u=some o:=by
 cases r <;> cases e <;> first | exact h | (cases h; done)
noncomputable def SqR (h:Hd) (st:Sto):Sq→List T→Prop
 | .vals us,xs=>PXs 0 h st us xs
 | .lst l,xs=>¬ h.g l∧∃ fz us,st[l]?=some (fz,us)∧aK st us xs
 | .enu l,ys=>¬ h.g l∧∃ fz us xs,st[l]?=some (fz,us)∧aK st us xs∧ys=mB 0 xs
 | .zip p q,zs=>∃ xs ys,SqR h st p xs∧SqR h st q ys∧zs=mq xs ys
noncomputable def SqN (h:Hd):Sq→Prop
 | .lst l=>¬ h.h l
 | .enu l=>¬ h.h l
 | .vals _=>True
 | .zip p q=>SqN h p∧SqN h q
noncomputable def DF:Option T→Option T→Option T
 | some x,some y=>some (.tup [x,y])
 | _,_=>none
theorem wN:∀ (xs ys:List T) (i:Nat),(mq xs ys)[i]?=DF xs[i]? ys[i]?
 | [],ys,i=>by simp [mq,DF]
 | x :: xs,[],i=>by
   simp only [mq,List.getElem?_nil]
   cases (x :: xs)[i]? <;> rfl
 | x :: xs,y :: ys,0=>by simp [mq,DF]
 | x :: xs,y :: ys,i + 1=>by simp only [mq,List.getElem?_cons_succ,wN xs ys i]
theorem pj:∀ (xs ys:List T),(mq xs ys).length=min xs.length ys.length
 | [],ys=>by simp [mq]
 | x :: xs,[]=>by simp [mq]
 | x :: xs,y :: ys=>by simp only [mq,List.length_cons,pj xs ys]; omega
theorem xi:∀ (xs:List T) (k i:Nat),(mB k xs)[i]?=(xs[i]?).map fun x=>.tup [.int ((k + i:Nat):Int),x]
 | [],_,_=>by simp [mB]
 | x :: xs,k,0=>by simp [mB]
 | x :: xs,k,i + 1=>by
   simp only [mB,List.getElem?_cons_succ]
   rw [xi xs (k + 1) i,show k + 1 + i=k + (i + 1) by omega]
theorem pd:∀ (xs:List T) (k:Nat),(mB k xs).length=xs.length
 | [],_=>rfl
 | x :: xs,k=>by simp [mB,pd xs]
theorem aK.get' {st:Sto} {us:List U} {ds:List T} (r:aK st us ds) (i:Nat):(∃ u d,us[i]?=some u∧ds[i]?=some d∧Rep st u d)∨(us[i]?=none∧ds[i]?=none):=by
 cases e:ds[i]? with
 | some d=>obtain ⟨u,h1,h2⟩:=r.get e; exact .inl ⟨u,d,h1,rfl,h2⟩
 | none=>exact .inr ⟨by rw [List.getElem?_eq_none_iff,r.length]; exact List.getElem?_eq_none_iff.mp e,rfl⟩
theorem SqR.at {h:Hd} {st:Sto} {q:Sq} {xs:List T} (s:SqR h st q xs) (w:Wf h st) (i:Nat):(xs[i]?=none∧q.at st i=some none)∨∃ x u,xs[i]?=some x∧q.at st i=some (some u)∧PX 0 h st u x:=by
 induction q generalizing xs with
 | vals us=>
   rcases s.1.get' i with ⟨u,d,h1,h2,h3⟩ | ⟨h1,h2⟩
   · exact .inr ⟨d,u,h2,by simp only [Sq.at,h1],h3,s.2 u (List.mem_of_getElem? h1)⟩
   · exact .inl ⟨h2,by simp only [Sq.at,h1]⟩
 | lst l=>
   obtain ⟨ng,fz,us,e,r⟩:=s
   rcases r.get' i with ⟨u,d,h1,h2,h3⟩ | ⟨h1,h2⟩
   · exact .inr ⟨d,u,h2,by simp only [Sq.at,e,Option.map_some,h1],.of h3 (w.av _ _ _ ng e u (List.mem_of_getElem? h1))⟩
   · exact .inl ⟨h2,by simp only [Sq.at,e,Option.map_some,h1]⟩
 | enu l=>
   obtain ⟨ng,fz,us,ys,e,r,rfl⟩:=s
   rw [xi,Nat.zero_add]
   rcases r.get' i with ⟨u,d,h1,h2,h3⟩ | ⟨h1,h2⟩
   · refine .inr ⟨_,.tup [.int (i:Nat),u],by rw [h2]; rfl,by simp only [Sq.at,e,Option.map_some,h1],.of (.tup (.cons .int (.cons h3 .nil))) ?_⟩
     refine Av.tup.mpr fun v hv=>?_
     simp only [List.mem_cons,List.not_mem_nil,or_false] at hv
     rcases hv with rfl | rfl
     · exact .int
     · exact w.av _ _ _ ng e _ (List.mem_of_getElem? h1)
   · exact .inl ⟨by rw [h2]; rfl,by simp only [Sq.at,e,Option.map_some,h1,Option.map_none]⟩
 | zip p q ihp ihq=>
   obtain ⟨as,bs,s1,s2,rfl⟩:=s
   rw [wN]
   rcases ihp s1 with ⟨a1,a2⟩ | ⟨x,u,a1,a2,a3⟩
   · rcases ihq s2 with ⟨b1,b2⟩ | ⟨y,v,b1,b2,b3⟩
     · exact .inl ⟨by rw [a1]; rfl,by simp only [Sq.at,a2,b2,Option.bind_some,Option.map_some]; rfl⟩
     · exact .inl ⟨by rw [a1]; rfl,by simp only [Sq.at,a2,b2,Option.bind_some,Option.map_some]; rfl⟩
   · rcases ihq s2 with ⟨b1,b2⟩ | ⟨y,v,b1,b2,b3⟩
     · exact .inl ⟨by rw [a1,b1]; rfl,by simp only [Sq.at,a2,b2,Option.bind_some,Option.map_some]; rfl⟩
     · refine .inr ⟨.tup [x,y],.tup [u,v],by rw [a1,b1]; rfl,by simp only [Sq.at,a2,b2,Option.bind_some,Option.map_some]; rfl,.of (.tup (.cons a3.1 (.cons b3.1 .nil))) ?_⟩
       refine Av.tup.mpr fun w hw=>?_
       simp only [List.mem_cons,List.not_mem_nil,or_false] at hw
       rcases hw with rfl | rfl
       · exact a3.2.zero
       · exact b3.2.zero
theorem SqR.len {h:Hd} {st:Sto} {q:Sq} {xs:List T} (s:SqR h st q xs):q.len st=xs.length:=by
 induction q generalizing xs with
 | vals us=>exact s.1.length
 | lst l=>
   obtain ⟨ng,fz,us,e,r⟩:=s
   simp only [Sq.len,e,Option.map_some,Option.getD_some,r.length]
 | enu l=>
   obtain ⟨ng,fz,us,ys,e,r,rfl⟩:=s
   simp only [Sq.len,e,Option.map_some,Option.getD_some,r.length,pd]
 | zip p q ihp ihq=>
   obtain ⟨as,bs,s1,s2,rfl⟩:=s
   simp only [Sq.len,ihp s1,ihq s2,pj]
theorem SqR.gr {h h':Hd} {st st':Sto} {q:Sq} {xs:List T} (s:SqR h st q xs) (g:Gr h st h' st'):SqR h' st' q xs:=by
 induction q generalizing xs with
 | vals us=>exact PXs.gr s g
 | lst l=>
   obtain ⟨ng,fz,us,e1,r⟩:=s
   exact ⟨fun z=>ng (g.gn l (List.getElem?_eq_some_iff.mp e1).1 z),fz,us,i5 g.pre _ _ e1,r.ext g.pre⟩
 | enu l=>
   obtain ⟨ng,fz,us,ys,e1,r,rfl⟩:=s
   exact ⟨fun z=>ng (g.gn l (List.getElem?_eq_some_iff.mp e1).1 z),fz,us,ys,i5 g.pre _ _ e1,r.ext g.pre,rfl⟩
 | zip p q ihp ihq=>
   obtain ⟨as,bs,s1,s2,rfl⟩:=s
   exact ⟨as,bs,ihp s1,ihq s2,rfl⟩
noncomputable def PO (h:Hd) (st:Sto):Option U→Option T→Prop
 | some u,some d=>PX 0 h st u d
 | none,none=>True
 | _,_=>False
theorem PO.gr {h h':Hd} {st st':Sto} {o:Option U} {p:Option T} (s:PO h st o p) (g:Gr h st h' st'):PO h' st' o p:=by
 cases o <;> cases p <;> first | exact s | exact PX.gr s g
theorem uq {R:Hd→Sto→Option U→Option T→Prop} {Q:Hd→Sto→List U→List T→Prop} {f:U→Sto→Rs (Option U)} {g:T→Ou (Option T)} {q:Sq} {xs:List T} {st0:Sto} {h0:Hd}
   (hf:∀ u x st' h',Gr h0 st0 h' st'→PX 0 h' st' u x→Gd h' st' R (f u st') (g x))
   (hn:∀ h st,Q h st [] []) (hc:∀ h st h' st' h2 st2 o o' ys ys',Gr h st h' st'→Gr h' st' h2 st2→R h' st' o o'→Q h2 st2 ys ys'→(st'=st'→True)→Q h2 st2 (match o with | some y=>y :: ys | none=>ys) (match o' with | some y=>y :: ys' | none=>ys')) :
   ∀ (n i:Nat) (st:Sto) (h:Hd),Gr h0 st0 h st→SqR h st q xs→i≤xs.length→i + n=xs.length + 1→Gd h st Q (iJ f q n i st) (cb g (xs.drop i))
 | 0,i,st,h,_,_,hi,e=>by omega
 | n + 1,i,st,h,p,s,hi,e=>by
   rw [iJ]
   rcases s.at p.wf i with ⟨e1,e2⟩ | ⟨x,u,e1,e2,px⟩
   · rw [e2]
     dsimp only
     rw [List.drop_eq_nil_of_le (List.getElem?_eq_none_iff.mp e1),cb]
     exact .ok p.wf (hn _ _)
   · rw [e2]
     dsimp only
     have hl:=(List.getElem?_eq_some_iff.mp e1).1
     have e3:xs.drop i=x :: xs.drop (i + 1):=by
       rw [List.drop_eq_getElem_cons hl]
       rw [(List.getElem?_eq_some_iff.mp e1).2]
     rw [e3,cb]
     refine (hf u x st h p px).bind fun o o' st1 h1 g1 ho=>?_
     refine (uq hf hn hc n (i + 1) st1 h1 (p.trans g1) (s.gr g1) hl (by omega)).bind fun ys ys' st2 h2 g2 hy=>?_
     exact .ok g2.wf (hc _ _ _ _ _ _ _ _ _ _ g1 g2 ho hy fun _=>trivial)
theorem um {f:U→Sto→Rs (Option U)} {g:T→Ou (Option T)} {q:Sq} {xs:List T} {st0:Sto} {h0:Hd}
   (hf:∀ u x st' h',Gr h0 st0 h' st'→PX 0 h' st' u x→Gd h' st' PO (f u st') (g x)) (w:Wf h0 st0) (s:SqR h0 st0 q xs):Gd h0 st0 (PXs 0) (iJ f q (xs.length + 1) 0 st0) (cb g xs):=by
 have:=uq (R:=PO) (Q:=PXs 0) hf (fun _ _=>.nil) (fun h st h' st' h2 st2 o o' ys ys' g1 g2 ho hy _=>by
   have ho2:=ho.gr g2
   cases o <;> cases o' <;> first | exact ho2.elim | exact hy | exact .cons ho2 hy) (xs.length + 1) 0 st0 h0 (.refl w) s (Nat.zero_le _) (Nat.zero_add _)
 rwa [List.drop_zero] at this
end Sv
namespace Sv
open PySem PySem.Spec L2
open Ev (D aL aT ag)
structure Ent (h:Hd) (st:Sto) (l:Nat) (cs:List Nat) (lv:Nat):Prop where
 hl:h.h l
 one:lv=1→¬ h.g l∧cs=[]∧∃ us,st[l]?=some (false,us)
 two:lv ≠ 1→lv=2∧h.g l∧st[l]?=some (false,cs.map .loc)∧∀ c ∈ cs,h.h c∧¬ h.g c∧∃ ws,st[c]?=some (false,ws)
 nd:(l :: cs).Nodup
noncomputable def FrR (lv:Nat) (st:Sto) (h':Hd) (st':Sto) (u:U) (d:T):Prop:=
 if lv=0∨isL d=false then PX 0 h' st' u d else Rep st' u d∧∃ l cs,u=.loc l∧Ent h' st' l cs lv∧∀ k ∈ l :: cs,st.length≤k
noncomputable def Pure (md:Md) (F:List U→Sto→Rs U) (G:List T→Ou T):Prop:=
 (md.sc=true→∀ ds d,G ds=.ok d→t7 md.lv d=true)∧∀ h st us ds,Wf h st→PXs 0 h st us ds→Gd h st (FrR md.lv st) (F us st) (G ds)
noncomputable def Hd.less (h:Hd) (X:Nat→Prop):Hd:=⟨fun k=>h.h k∧¬ X k,fun k=>h.g k∧¬ X k,fun k z=>⟨h.sub k z.1,z.2⟩⟩
theorem Av.less {h:Hd} {X:Nat→Prop} {n:Nat} {u:U} (a:Av h n u):Av (h.less X) n u:=a.imp fun _ _ z=>z.1
theorem Ent.lt {h:Hd} {st:Sto} {l:Nat} {cs:List Nat} {lv:Nat} (e:Ent h st l cs lv):∀ k ∈ l :: cs,k < st.length:=by
 intro k hk
 by_cases z:lv=1
 · obtain ⟨_,rfl,us,e1⟩:=e.one z
   rw [List.mem_singleton] at hk
   subst hk
   exact (List.getElem?_eq_some_iff.mp e1).1
 · obtain ⟨_,_,e1,e2⟩:=e.two z
   rcases List.mem_cons.mp hk with rfl | hk
   · exact (List.getElem?_eq_some_iff.mp e1).1
   · obtain ⟨_,_,ws,e3⟩:=e2 k hk
     exact (List.getElem?_eq_some_iff.mp e3).1
theorem Ent.hid {h:Hd} {st:Sto} {l:Nat} {cs:List Nat} {lv:Nat} (e:Ent h st l cs lv):∀ k ∈ l :: cs,h.h k:=by
 intro k hk
 rcases List.mem_cons.mp hk with rfl | hk
 · exact e.hl
 · by_cases z:lv=1
   · obtain ⟨_,rfl,_⟩:=e.one z; cases hk
   · obtain ⟨_,_,e1,e2⟩:=e.two z
     exact (e2 k hk).1
theorem Wf.less {h:Hd} {st:Sto} {l:Nat} {cs:List Nat} {lv:Nat} (w:Wf h st) (e:Ent h st l cs lv):Wf (h.less fun k=>k ∈ l :: cs) st∧Av (h.less fun k=>k ∈ l :: cs) st.length (.loc l):=by
 refine ⟨⟨fun k fz us hk q u hu=>?_,fun k z=>w.lt k z.1⟩,.loc (e.lt l (List.mem_cons_self ..)) fun z=>z.2 (List.mem_cons_self ..)⟩
 by_cases hg:h.g k
 · have hx:k ∈ l :: cs:=Classical.byContradiction fun z=>hk ⟨hg,z⟩
   by_cases z:lv=1
   · obtain ⟨ng,rfl,_⟩:=e.one z
     rw [List.mem_singleton] at hx
     subst hx
     exact absurd hg ng
   · obtain ⟨_,gl,e1,e2⟩:=e.two z
     rcases List.mem_cons.mp hx with rfl | hx
     · rw [e1] at q; cases q
       obtain ⟨c,hc,rfl⟩:=List.mem_map.mp hu
       exact .loc (e.lt c (List.mem_cons_of_mem _ hc)) fun z=>z.2 (List.mem_cons_of_mem _ hc)
     · exact absurd hg (e2 k hx).2.1
 · exact (w.av k fz us hg q u hu).less
theorem FrR.out {lv:Nat} {h h':Hd} {st st':Sto} {u:U} {d:T} (w:Wf h st) (g:Gr h st h' st') (f:FrR lv st h' st' u d):∃ h'',Gr h st h'' st'∧PX 0 h'' st' u d:=by
 unfold FrR at f
 split at f
 · exact ⟨h',g,f⟩
 · obtain ⟨r,l,cs,rfl,e,n⟩:=f
   obtain ⟨w1,a1⟩:=g.wf.less e
   exact ⟨h'.less fun k=>k ∈ l :: cs,⟨g.pre,fun k z=>⟨g.hm k z,fun q=>absurd (w.lt k z) (Nat.not_lt.mpr (n k q))⟩,fun k z=>⟨g.gm k z,fun q=>absurd (w.lt k (h.sub k z)) (Nat.not_lt.mpr (n k q))⟩,fun k hk z=>g.hn k hk z.1,fun k hk z=>g.gn k hk z.1,w1⟩,r,.inl a1⟩
theorem Pure.plain {md:Md} {F:List U→Sto→Rs U} {G:List T→Ou T} (p:Pure md F G) {h:Hd} {st:Sto} {us:List U} {ds:List T} (w:Wf h st) (q:PXs 0 h st us ds):Gd h st (PX 0) (F us st) (G ds):=by
 have:=p.2 h st us ds w q
 cases e:G ds with
 | bad=>trivial
 | exc c=>rw [e] at this; exact this
 | ok d=>
   rw [e] at this
   obtain ⟨u,st',h',e1,g,f⟩:=this
   obtain ⟨h2,g2,px⟩:=f.out w g
   exact ⟨u,st',h2,e1,g2,px⟩
mutual
theorem ug {st:Sto}:∀ {u:U} {d:T},Rep st u d→flat d=true→locs u=[]
 | _,_,.non,_=>rfl
 | _,_,.bl,_=>rfl
 | _,_,.int,_=>rfl
 | _,_,.str,_=>rfl
 | _,_,.exo,_=>rfl
 | _,_,.tup r,h=>by simp only [locs]; exact jL r (by simpa [flat] using h)
 | _,_,.loc _ _,h=>by simp [flat] at h
 | _,_,.kl _,h=>by simp [flat] at h
theorem jL {st:Sto}:∀ {us:List U} {ds:List T},aK st us ds→o2 ds=true→kn us=[]
 | _,_,.nil,_=>rfl
 | _,_,.cons h r,e=>by
   rw [o2,Bool.and_eq_true] at e
   simp only [kn,ug h e.1,jL r e.2,List.append_nil]
end
theorem Pure.E9 {md:Md} {F:List U→Sto→Rs U} {G:List T→Ou T} (p:Pure md F G) (hs:md.sc=true) {h:Hd} {st:Sto} {us:List U} {ds:List T} (w:Wf h st) (q:PXs 2 h st us ds):Gd h st (FrR md.lv st) (F us st) (G ds):=by
 let X:Nat→Prop:=fun k=>∃ u ∈ us,k ∈ locs u∨∃ l fz vs,u=.loc l∧st[l]?=some (fz,vs)∧U.loc k ∈ vs
 have avl:∀ u ∈ us,Av (h.less X) st.length u:=fun u hu=>by
   rcases q.2 u hu with a | ⟨_,l,rfl,hl,_⟩ | ⟨_,l,rfl,d⟩
   · exact a.less
   · exact .loc hl fun z=>z.2 ⟨_,hu,.inl (by simp [locs])⟩
   · exact .loc d.lt fun z=>z.2 ⟨_,hu,.inl (by simp [locs])⟩
 have w1:Wf (h.less X) st:=by
   refine ⟨fun k fz vs hk e v hv=>?_,fun k z=>w.lt k z.1⟩
   by_cases hg:h.g k
   · have hx:X k:=Classical.byContradiction fun z=>hk ⟨hg,z⟩
     obtain ⟨u,hu,hx⟩:=hx
     rcases q.2 u hu with a | ⟨_,l,rfl,hl,ng⟩ | ⟨_,l,rfl,d⟩
     · rcases hx with hx | ⟨l,fz',vs',rfl,e',hm⟩
       · exact absurd (h.sub k hg) (a k hx).2
       · exact absurd (h.sub k hg) (w.av l fz' vs' (fun z=>(a l (by simp [locs])).2 (h.sub l z)) e' _ hm k (by simp [locs])).2
     · rcases hx with hx | ⟨l',fz',vs',z,e',hm⟩
       · have:k=l:=by simpa [locs] using hx
         subst this; exact absurd hg ng
       · cases z
         exact absurd (h.sub k hg) (w.av l fz' vs' ng e' _ hm k (by simp [locs])).2
     · obtain ⟨fz2,us2,e2,c2⟩:=d
       rcases hx with hx | ⟨l',fz',vs',z,e',hm⟩
       · have:k=l:=by simpa [locs] using hx
         subst this
         rw [e] at e2; cases e2
         obtain ⟨c,rfl,hc,_⟩:=c2 v hv
         exact .loc hc fun z=>z.2 ⟨_,hu,.inr ⟨k,fz,vs,rfl,e,hv⟩⟩
       · cases z
         rw [e'] at e2; cases e2
         obtain ⟨c,z,_,ng⟩:=c2 _ hm
         cases z
         exact absurd hg ng
   · exact (w.av k fz vs hg e v hv).less
 have g:=p.2 (h.less X) st us ds w1 ⟨q.1,fun u hu=>.inl (avl u hu)⟩
 have grow:∀ {h1:Hd} {st':Sto} (S:Nat→Prop),Gr (h.less X) st h1 st'→(∀ k fz vs,S k→st'[k]?=some (fz,vs)→kn vs=[])→∃ h2,Gr h st h2 st'∧(∀ k,st.length≤k→k < st'.length→h2.h k)∧∀ k,st.length≤k→k < st'.length→(h2.g k ↔ ¬ S k):=fun {h1 st'} S g hS=>by
   refine ⟨⟨fun k=>h.h k∨(st.length≤k∧k < st'.length),fun k=>h.g k∨(st.length≤k∧k < st'.length∧¬ S k),fun k z=>z.imp (h.sub k) fun q=>⟨q.1,q.2.1⟩⟩,⟨g.pre,fun k z=>.inl z,fun k z=>.inl z,fun k hk z=>z.elim id fun q=>absurd hk (Nat.not_lt.mpr q.1),fun k hk z=>z.elim id fun q=>absurd hk (Nat.not_lt.mpr q.1),⟨fun k fz vs hk e v hv=>?_,fun k z=>z.elim (fun z=>Nat.lt_of_lt_of_le (w.lt k z) g.pre.length_le) fun q=>q.2⟩⟩,fun k h1 h2=>.inr ⟨h1,h2⟩,fun k h1 h2=>⟨fun z=>z.elim (fun z=>absurd (w.lt k (h.sub k z)) (Nat.not_lt.mpr h1)) fun z=>z.2.2,fun z=>.inr ⟨h1,h2,z⟩⟩⟩
   by_cases kl:k < st.length
   · have ng:¬ h.g k:=fun z=>hk (.inl z)
     obtain ⟨r,rfl⟩:=g.pre
     rw [List.getElem?_append_left kl] at e
     exact fun l hl=>⟨Nat.lt_of_lt_of_le (w.av k fz vs ng e v hv l hl).1 (by rw [List.length_append]; exact Nat.le_add_right _ _),fun z=>z.elim (w.av k fz vs ng e v hv l hl).2 fun q=>absurd (w.av k fz vs ng e v hv l hl).1 (Nat.not_lt.mpr q.1)⟩
   · have hk2:S k:=Classical.byContradiction fun z=>hk (.inr ⟨Nat.not_lt.mp kl,(List.getElem?_eq_some_iff.mp e).1,z⟩)
     have hv0:=hS k fz vs hk2 e
     exact fun l hl=>by
       have:l ∈ kn vs:=fu.mpr ⟨v,hv,hl⟩
       rw [hv0] at this; cases this
 cases e:G ds with
 | bad=>trivial
 | exc c=>
   rw [e] at g
   obtain ⟨st',h1,e1,g1⟩:=g
   obtain ⟨h2,g2,_⟩:=grow (fun _=>False) g1 (fun _ _ _ z=>z.elim)
   exact ⟨st',h2,e1,g2⟩
 | ok d=>
   rw [e] at g
   have fl:=p.1 hs ds d e
   obtain ⟨u,st',h1,e1,g1,f⟩:=g
   unfold FrR at f
   split at f
   · rename_i hc
     obtain ⟨h2,g2,_⟩:=grow (fun _=>False) g1 (fun _ _ _ z=>z.elim)
     have fd:flat d=true:=by
       cases d with
       | lst xs=>
         rcases hc with hc | hc
         · rw [hc] at fl; simp [t7] at fl
         · simp [isL] at hc
       | _=>exact fl
     refine ⟨u,st',h2,e1,g2,?_⟩
     unfold FrR
     rw [if_pos hc]
     refine ⟨f.1,.inl fun l hl=>?_⟩
     rw [ug f.1 fd] at hl
     cases hl
   · rename_i hc
     obtain ⟨r,l,cs,rfl,en,nl⟩:=f
     cases r with
     | loc e2 r2=>
       rename_i fz' us' ds'
       simp only [t7] at fl
       by_cases z1:md.lv=1
       · rw [if_pos z1] at fl
         obtain ⟨h2,g2,a2,b2⟩:=grow (fun k=>k=l) g1 (fun k fz vs z q=>by
           subst z; rw [e2] at q; cases q; exact jL r2 fl)
         have lt:=en.lt l (List.mem_cons_self ..)
         have ge:=nl l (List.mem_cons_self ..)
         obtain ⟨_,c0,us0,e0⟩:=en.one z1
         refine ⟨.loc l,st',h2,e1,g2,?_⟩
         unfold FrR
         rw [if_neg hc]
         exact ⟨.loc e2 r2,l,cs,rfl,⟨a2 l ge lt,fun _=>⟨fun z=>(b2 l ge lt).mp z rfl,c0,us0,e0⟩,fun z=>absurd z1 z,en.nd⟩,nl⟩
       · obtain ⟨z2,_,e3,e4⟩:=en.two z1
         rw [if_neg z1,if_pos z2] at fl
         rw [e2] at e3; cases e3
         have key:∀ c ∈ cs,∀ fz vs,st'[c]?=some (fz,vs)→kn vs=[]:=fun c hc' fz vs q=>by
           obtain ⟨i,hi,hi'⟩:=List.getElem_of_mem hc'
           have hl:i < ds'.length:=by rw [← r2.length,List.length_map]; exact hi
           obtain ⟨u,hu,ru⟩:=r2.get (List.getElem?_eq_getElem hl)
           rw [List.getElem?_map,List.getElem?_eq_getElem hi,Option.map_some] at hu
           cases hu
           have fx:=List.all_eq_true.mp fl _ (List.getElem_mem hl)
           rw [hi'] at ru
           generalize ds'[i]=x at ru fx
           cases ru with
           | loc e5 r5=>
             rw [e5] at q; cases q
             exact jL r5 (by simpa only [D3] using fx)
         obtain ⟨h2,g2,a2,b2⟩:=grow (fun k=>k ∈ cs) g1 (fun k fz vs z q=>key k z fz vs q)
         have lt:=en.lt
         refine ⟨.loc l,st',h2,e1,g2,?_⟩
         unfold FrR
         rw [if_neg hc]
         refine ⟨.loc e2 r2,l,cs,rfl,⟨a2 l (nl l (List.mem_cons_self ..)) (lt l (List.mem_cons_self ..)),fun z=>absurd z z1,fun _=>⟨z2,(b2 l (nl l (List.mem_cons_self ..)) (lt l (List.mem_cons_self ..))).mpr (List.nodup_cons.mp en.nd).1,e2,fun c hc'=>?_⟩,en.nd⟩,nl⟩
         have h1c:=nl c (List.mem_cons_of_mem _ hc')
         have h2c:=lt c (List.mem_cons_of_mem _ hc')
         exact ⟨a2 c h1c h2c,fun z=>(b2 c h1c h2c).mp z hc',(e4 c hc').2.2⟩
theorem Pure.PK {md:Md} {F:List U→Sto→Rs U} {G:List T→Ou T} (p:Pure md F G) (hs:md.sc=true) {h:Hd} {st:Sto} {us:List U} {ds:List T} (w:Wf h st) (q:PXs 2 h st us ds):Gd h st (PX 0) (F us st) (G ds):=by
 have:=p.E9 hs w q
 cases e:G ds with
 | bad=>trivial
 | exc c=>rw [e] at this; exact this
 | ok d=>
   rw [e] at this
   obtain ⟨u,st',h',e1,g,f⟩:=this
   obtain ⟨h2,g2,px⟩:=f.out w g
   exact ⟨u,st',h2,e1,g2,px⟩
theorem WE.set {h:Hd} {st:Sto} {ρ:Env} {τ:ao} {own:Own} (w:WE h st ρ τ own) {u:U} {d:T} (p:PX 0 h st u d) (i:Nat):WE h st (ρ.set i (some u)) (τ.set i (some d)) own:=by
 refine ⟨by rw [List.length_set,List.length_set]; exact w.len,fun j e q=>?_⟩
 by_cases z:i=j
 · subst z
   by_cases hl:i < τ.length
   · rw [List.getElem?_set_self hl] at q
     cases q
     exact ⟨u,List.getElem?_set_self (by rw [w.len]; exact hl),p.1,.inl p.av⟩
   · rw [List.getElem?_eq_none (by rw [List.length_set]; omega)] at q; cases q
 · rw [List.getElem?_set_ne z] at q
   rw [List.getElem?_set_ne z]
   exact w.val j e q
theorem yw {h:Hd} {st:Sto} {own:Own}:∀ {is:List Nat} {us:List U} {ds:List T} {ρ:Env} {τ τ':ao},WE h st ρ τ own→PXs 0 h st us ds→sr is ds τ=some τ'→∃ ρ',mz is us ρ=some ρ'∧WE h st ρ' τ' own
 | [],_,_,ρ,τ,τ',w,⟨.nil,_⟩,e=>by cases e; exact ⟨ρ,rfl,w⟩
 | [],_,_,ρ,τ,τ',w,⟨.cons _ _,_⟩,e=>by cases e
 | i :: is,_,_,ρ,τ,τ',w,⟨.nil,_⟩,e=>by cases e
 | i :: is,_,_,ρ,τ,τ',w,⟨.cons (u:=u) (d:=d) r rs,a⟩,e=>by
   rw [sr] at e
   rw [mz]
   exact yw (w.set ⟨r,a u (List.mem_cons_self ..)⟩ i) ⟨rs,fun v hv=>a v (List.mem_cons_of_mem _ hv)⟩ e
theorem xY {h:Hd} {st:Sto} {own:Own} {t:Tg} {u:U} {d:T} {ρ:Env} {τ τ':ao} (w:WE h st ρ τ own) (p:PX 0 h st u d) (e:aW t d τ=some τ'):∃ ρ',hR t u ρ=some ρ'∧WE h st ρ' τ' own:=by
 cases t with
 | nm i=>cases e; exact ⟨_,rfl,w.set p i⟩
 | tp is=>
   cases d with
   | tup ds=>
     obtain ⟨us,rfl,p'⟩:=kL (k':=0) p
     exact yw w p' e
   | _=>cases e
theorem WE.cap {h:Hd} {st:Sto} {ρ:Env} {τ:ao} {own:Own} (w:WE h st ρ τ own) {caps:List (Option Nat)} (hc:∀ i lv,(i,lv) ∈ own→some i ∉ caps):WE h st (ky ρ caps++[none]) (jw τ caps++[none]) []:=by
 refine ⟨by simp [ky,jw],fun i d e=>?_⟩
 by_cases hi:i < caps.length
 · rw [List.getElem?_append_left (by simp [jw]; exact hi)] at e
   unfold jw at e
   rw [List.getElem?_map] at e
   have hg:caps[i]?=some caps[i]:=List.getElem?_eq_getElem hi
   rw [hg] at e
   simp only [Option.map_some,Option.some.injEq] at e
   obtain ⟨j,e1,e2⟩:=Option.bind_eq_some_iff.mp e
   have e3:τ[j]?=some (some d):=by
     cases z:τ[j]? with
     | none=>rw [z] at e2; cases e2
     | some o=>rw [z] at e2; exact congrArg some e2
   obtain ⟨u,h1,h2,h3⟩:=w.val j d e3
   refine ⟨u,?_,h2,?_⟩
   · rw [List.getElem?_append_left (by simp [ky]; exact hi)]
     unfold ky
     rw [List.getElem?_map,hg,e1]
     simp [h1]
   · rcases h3 with h3 | ⟨lv,h3,_⟩
     · exact .inl h3
     · exact absurd (by rw [← e1]; exact List.getElem_mem hi) (hc j lv h3)
 · rw [List.getElem?_append_right (by simp [jw]; omega)] at e
   have:=List.mem_of_getElem? e
   simp at this
theorem M0 {k:Nat} {h:Hd} {st:Sto} {l:Nat} {d:T} (hk:k≤1) (p:PX k h st (.loc l) d):¬ h.g l:=by
 rcases p.2 with a | ⟨_,k,z,_,ng⟩ | ⟨z,_⟩
 · exact fun q=>(a l (by simp [locs])).2 (h.sub l q)
 · cases z; exact ng
 · omega
theorem bQ {a b:Bool} (h:(a || b)=false):a=false∧b=false:=by cases a <;> cases b <;> simp_all
theorem ue {k:Nat} {h:Hd} {st:Sto} (lo:Int) (n:Nat):PXs k h st (mF lo n) (rangeT lo n):=by
 unfold mF rangeT
 induction List.range n with
 | nil=>exact .nil
 | cons k ks ih=>exact .cons (.of .int .int) ih
theorem AO {k:Nat} {h:Hd} {st:Sto} {u:U} {xs:List T} (hk:k≤1) (w:Wf h st) (hx:PX k h st u (.lst xs)):∃ p,src st u=some p∧(k=0→SqN h p)∧SqR h st p xs:=by
 obtain ⟨us,⟨l,fz,rfl,e1⟩ | rfl,r⟩:=iS w hx
 · refine ⟨.lst l,?_,fun hb=>?_,M0 hk hx,fz,us,e1,r.1⟩
   · simp only [src]
     rw [if_pos (List.getElem?_eq_some_iff.mp e1).1]
   · subst hb
     exact (hx.av l (by simp [locs])).2
 · exact ⟨.vals us,rfl,fun _=>trivial,r.mono (by omega)⟩
theorem Ay {h:Hd} {st:Sto}:∀ (k:Nat) {us:List U} {ds:List T},PXs 0 h st us ds→PXs 0 h st (xg k us) (mB k ds)
 | _,_,_,⟨.nil,_⟩=>.nil
 | k,_,_,⟨.cons (u:=u) (us:=us) r rs,a⟩=>by
   have ih:=Ay (k + 1) (us:=us) ⟨rs,fun v hv=>a v (List.mem_cons_of_mem _ hv)⟩
   refine .cons (.of (.tup (.cons .int (.cons r .nil))) (Av.tup.mpr fun w hw=>?_)) ih
   simp only [List.mem_cons,List.not_mem_nil,or_false] at hw
   rcases hw with rfl | rfl
   · exact .int
   · exact (a _ (List.mem_cons_self ..)).zero
theorem Eu {k:Nat} {h:Hd} {st:Sto} {o:Option Bool} {p:Option Bool} (w:Wf h st) (e:∀ r,p=some r→o=some r):Gd h st (PX k) (ofO o st) (ofB p):=by
 cases p with
 | none=>trivial
 | some r=>rw [e r rfl]; exact .ok w (.of .bl .bl)
section
variable {Φ:Fn} {Ψ:FnT} {μ:Nat→Md} (HP:∀ f,Pure (μ f) (Φ f) (Ψ f))
theorem yD {h:Hd} {st:Sto} {ρ:Env} {τ:ao} {t:Tg} {ifs:List E} {elt:E} (w:WE h st ρ τ [])
   (hi:∀ {h st ρ τ},WE h st ρ τ []→Wf h st→Gd h st (fun _ _ a b=>a=b) (xIf Φ ifs ρ st) (yIf Ψ ifs τ)) (he:∀ {h st ρ τ},WE h st ρ τ []→Wf h st→Gd h st (PX 0) (xE Φ elt ρ st) (yE Ψ elt τ)) :
   ∀ u x st' h',Gr h st h' st'→PX 0 h' st' u x→Gd h' st' PO
     (match hR t u ρ with
         | none=>.bad
         | some ρ1=>(xIf Φ ifs ρ1 st').bind fun b st2=>if b then (xE Φ elt ρ1 st2).bind fun y st3=>.ok (some y) st3 else .ok none st2)
     (match aW t x τ with
         | none=>.bad
         | some τ1=>(yIf Ψ ifs τ1).bind fun b=>if b then (yE Ψ elt τ1).bind fun y=>.ok (some y) else .ok none):=by
 intro u x st' h' g px
 cases z:aW t x τ with
 | none=>trivial
 | some τ1=>
   obtain ⟨ρ1,e1,w1⟩:=xY (w.gr g) px z
   rw [e1]
   dsimp only
   refine (hi w1 g.wf).bind fun b b' st2 h2 g2 hb=>?_
   have hb:b=b':=hb
   subst hb
   cases b with
   | true=>
     simp only [if_true]
     exact (he (w1.gr g2) g2.wf).bind fun y y' st3 h3 g3 hy=>.ok g3.wf hy
   | false=>exact .ok g2.wf trivial
noncomputable def fI (Φ:Fn) (ty:Ty) (ρ:Env):U→Sto→Rs (Option U):=fun x st=>match hR (.nm 0) x (ky ρ [none]++[none]) with
         | none=>.bad
         | some ρ1=>(xIf Φ [] ρ1 st).bind fun b st2=>if b then (xE Φ (.isi (.var 0) ty) ρ1 st2).bind fun y st3=>.ok (some y) st3 else .ok none st2
noncomputable def gI (Ψ:FnT) (ty:Ty) (τ:ao):T→Ou (Option T):=fun x=>match aW (.nm 0) x (jw τ [none]++[none]) with
         | none=>.bad
         | some τ1=>(yIf Ψ [] τ1).bind fun b=>if b then (yE Ψ (.isi (.var 0) ty) τ1).bind fun y=>.ok (some y) else .ok none
theorem NO {st:Sto} {u:U} {x:T} {ty:Ty} {ρ:Env} {τ:ao} (r:Rep st u x):gI Ψ ty τ x=.bad∨∃ b,fI Φ ty ρ u st=.ok (some (.bl b)) st∧gI Ψ ty τ x=.ok (some (.bl b)):=by
 have e:=vY r ty
 cases r <;> first | exact Or.inl rfl | exact Or.inr ⟨_,rfl,(congrArg (fun b=>Ou.ok (some (T.bl b))) e).symm⟩
theorem qx {st:Sto} {q:Sq} {us:List U} {xs:List T} {ty:Ty} {ρ:Env} {τ:ao} (hq:∀ i,q.at st i=some us[i]?) (r:aK st us xs):∀ (n i:Nat),i≤xs.length→i + n=xs.length + 1→cb (gI Ψ ty τ) (xs.drop i)=.bad∨∃ bs:List Bool,iJ (fI Φ ty ρ) q n i st=.ok (bs.map .bl) st∧cb (gI Ψ ty τ) (xs.drop i)=.ok (bs.map .bl)
 | 0,i,hi,e=>by omega
 | n + 1,i,hi,e=>by
   rcases r.get' i with ⟨u,x,h1,h2,h3⟩ | ⟨h1,h2⟩
   · have hl:=(List.getElem?_eq_some_iff.mp h2).1
     have e3:xs.drop i=x :: xs.drop (i + 1):=by
       rw [List.drop_eq_getElem_cons hl,(List.getElem?_eq_some_iff.mp h2).2]
     rw [e3,cb]
     rcases NO (Φ:=Φ) (Ψ:=Ψ) (ty:=ty) (ρ:=ρ) (τ:=τ) h3 with z | ⟨b,z1,z2⟩
     · exact Or.inl (by rw [z]; rfl)
     · rw [z2,Ou.aa]
       rcases qx hq r n (i + 1) hl (by omega) with w | ⟨bs,w1,w2⟩
       · exact Or.inl (by rw [w]; rfl)
       · refine Or.inr ⟨b :: bs,?_,by rw [w2]; rfl⟩
         rw [iJ,hq,h1]
         dsimp only
         rw [z1]
         show (iJ (fI Φ ty ρ) q n (i + 1) st).bind _=_
         rw [w1]
         rfl
   · refine Or.inr ⟨[],?_,?_⟩
     · rw [iJ,hq,h1]; rfl
     · rw [List.drop_eq_nil_of_le (List.getElem?_eq_none_iff.mp h2)]; rfl
theorem Ec {h:Hd} {st:Sto} {ρ:Env} {τ:ao} {own:Own} {v:Nat} {xs:List T} (w:WE h st ρ τ own) (h1:yIt Ψ (.seq (.var v)) τ=.ok xs):∃ q us,xIt Φ (.seq (.var v)) ρ st=.ok q st∧q.len st=xs.length∧(∀ i,q.at st i=some us[i]?)∧aK st us xs:=by
 simp only [yIt,yE] at h1
 cases hv:τ[v]? with
 | none=>simp [aH,hv,Ou.bind] at h1
 | some o=>
   cases o with
   | none=>simp [aH,hv,Ou.bind] at h1
   | some d=>
     obtain ⟨u,hu,r,_⟩:=w.val v d hv
     have gx:xE Φ (.var v) ρ st=.ok u st:=by simp only [xE,lF,hu]
     rw [show aH τ v=.ok d by simp only [aH,hv],Ou.aa] at h1
     cases r with
     | @loc l fz us ds e r=>
       cases h1
       refine ⟨.lst l,us,?_,?_,fun i=>?_,r⟩
       · simp only [xIt,gx,Rs.aa]
         rw [if_pos (List.getElem?_eq_some_iff.mp e).1]
       · simp only [Sq.len,e,Option.map_some,Option.getD_some]
         exact r.length
       · simp only [Sq.at,e,Option.map_some]
     | @kl us ds r=>
       cases h1
       exact ⟨.vals us,us,by simp only [xIt,gx,Rs.aa],r.length,fun i=>rfl,r⟩
     | @tup us ds r=>
       cases h1
       exact ⟨.vals us,us,by simp only [xIt,gx,Rs.aa],r.length,fun i=>rfl,r⟩
     | _=>cases h1
theorem zF {h:Hd} {st:Sto}:∀ bs:List Bool,PXs 0 h st (bs.map .bl) (bs.map .bl)
 | []=>.nil
 | b :: bs=>.cons (.of .bl .bl) (zF bs)
theorem IY {k:Nat} {h:Hd} {st:Sto} {ρ:Env} {τ:ao} {own:Own} {v:Nat} {ty:Ty} (w:WE h st ρ τ own) (wf:Wf h st):Gd h st (PX k) (xE Φ (.comp [none] (.nm 0) (.seq (.var v)) [] (.isi (.var 0) ty)) ρ st) (yE Ψ (.comp [none] (.nm 0) (.seq (.var v)) [] (.isi (.var 0) ty)) τ):=by
 cases h1:yIt Ψ (.seq (.var v)) τ with
 | bad=>simp only [yE,h1]; trivial
 | exc c=>
   exfalso
   simp only [yIt,yE,aH] at h1
   split at h1
   · simp only [Ou.aa] at h1
     split at h1 <;> cases h1
   · cases h1
 | ok xs=>
   obtain ⟨q,us,e1,e2,hq,r⟩:=Ec (Φ:=Φ) w h1
   simp only [xE,yE,h1,e1,Ou.aa,Rs.aa]
   rw [e2]
   split
   · have:=qx (Φ:=Φ) (Ψ:=Ψ) (ty:=ty) (ρ:=ρ) (τ:=τ) hq r (xs.length + 1) 0 (Nat.zero_le _) (Nat.zero_add _)
     rw [List.drop_zero] at this
     rcases this with z | ⟨bs,z1,z2⟩
     · show Gd h st (PX k) _ (Ou.noX (Ou.bind (cb (gI Ψ ty τ) xs) _))
       rw [z]
       trivial
     · show Gd h st (PX k) (Rs.noX (Rs.bind (iJ (fI Φ ty ρ) q (xs.length + 1) 0 st) _)) (Ou.noX (Ou.bind (cb (gI Ψ ty τ) xs) _))
       rw [z1,z2]
       exact Gd.noX (ko wf (zF bs))
   · trivial
include HP
mutual
theorem gE:∀ (e:E) (k:Nat) {h:Hd} {ρ:Env} {τ:ao} {own:Own} {st:Sto},WE h st ρ τ own→Wf h st→(∀ i lv,(i,lv) ∈ own→gts μ i lv k e=false)→Gd h st (PX k) (xE Φ e ρ st) (yE Ψ e τ)
 | .var i,k,h,ρ,τ,own,st,w,wf,hg=>by
   simp only [xE,yE,aH,lF]
   cases z:τ[i]? with
   | none=>trivial
   | some o=>
     cases o with
     | none=>trivial
     | some d=>
       obtain ⟨u,e1,e2,e3⟩:=w.val i d z
       rw [e1]
       refine .ok wf ⟨e2,?_⟩
       rcases e3 with e3 | ⟨lv,h1,h2⟩
       · exact .inl e3
       · have:=hg i lv h1
         simp only [gts,BEq.rfl,Bool.and_true,decide_eq_false_iff_not] at this
         exact h2.mono (by omega)
 | .cN,_,_,_,_,_,_,_,wf,_=>.ok wf (.of .non .non)
 | .cB _,_,_,_,_,_,_,_,wf,_=>.ok wf (.of .bl .bl)
 | .cI _,_,_,_,_,_,_,_,wf,_=>.ok wf (.of .int .int)
 | .cS _,_,_,_,_,_,_,_,wf,_=>.ok wf (.of .str .str)
 | .op o a c,k,h,ρ,τ,own,st,w,wf,hg=>by
   simp only [xE,yE]
   refine (gE a 1 w wf fun i lv hi=>(bQ (by simpa only [gts] using hg i lv hi)).1).bind fun x x' st1 h1 g1 hx=>?_
   refine (gE c 1 (w.gr g1) g1.wf fun i lv hi=>(bQ (by simpa only [gts] using hg i lv hi)).2).bind fun y y' st2 h2 g2 hy=>?_
   exact (IU g2.wf (hx.gr g2) hy o).imp fun _ _ _ _ z=>z.weak
 | .neg a,k,h,ρ,τ,own,st,w,wf,hg=>by
   simp only [xE,yE]
   refine (gE a 2 w wf fun i lv hi=>(by simpa only [gts] using hg i lv hi)).bind fun x x' st1 h1 g1 hx=>?_
   cases x' with
   | int i=>have:=hx.1.int_inv; subst this; exact .ok g1.wf (.of .int .int)
   | _=>trivial
 | .not a,k,h,ρ,τ,own,st,w,wf,hg=>by
   simp only [xE,yE]
   refine (gE a 2 w wf fun i lv hi=>(by simpa only [gts] using hg i lv hi)).bind fun x x' st1 h1 g1 hx=>?_
   cases x' with
   | bl i=>have:=hx.1.jH; subst this; exact .ok g1.wf (.of .bl .bl)
   | _=>trivial
 | .cmp o a c,k,h,ρ,τ,own,st,w,wf,hg=>by
   simp only [xE,yE]
   refine (gE a 2 w wf fun i lv hi=>(bQ (by simpa only [gts] using hg i lv hi)).1).bind fun x x' st1 h1 g1 hx=>?_
   refine (gE c 2 (w.gr g1) g1.wf fun i lv hi=>(bQ (by simpa only [gts] using hg i lv hi)).2).bind fun y y' st2 h2 g2 hy=>?_
   exact Eu g2.wf fun r e=>uE (hx.1.ext g2.pre) hy.1 e
 | .chain o o' a c d,k,h,ρ,τ,own,st,w,wf,hg=>by
   simp only [xE,yE]
   refine (gE a 2 w wf fun i lv hi=>(bQ (bQ (by simpa only [gts] using hg i lv hi)).1).1).bind fun x x' st1 h1 g1 hx=>?_
   refine (gE c 2 (w.gr g1) g1.wf fun i lv hi=>(bQ (bQ (by simpa only [gts] using hg i lv hi)).1).2).bind fun y y' st2 h2 g2 hy=>?_
   cases z:zC o x' y' with
   | none=>trivial
   | some r=>
     rw [uE (hx.1.ext g2.pre) hy.1 z]
     cases r with
     | false=>exact .ok g2.wf (.of .bl .bl)
     | true=>
       dsimp only
       refine (gE d 2 ((w.gr g1).gr g2) g2.wf fun i lv hi=>(bQ (by simpa only [gts] using hg i lv hi)).2).bind fun v v' st3 h3 g3 hv=>?_
       exact Eu g3.wf fun r e=>uE (hy.1.ext g3.pre) hv.1 e
 | .and a c,k,h,ρ,τ,own,st,w,wf,hg=>by
   simp only [xE,yE]
   refine (gE a 2 w wf fun i lv hi=>(bQ (by simpa only [gts] using hg i lv hi)).1).bind fun x x' st1 h1 g1 hx=>?_
   cases x' with
   | bl r=>
     have:=hx.1.jH; subst this
     cases r with
     | false=>exact .ok g1.wf (.of .bl .bl)
     | true=>exact gE c k (w.gr g1) g1.wf fun i lv hi=>(bQ (by simpa only [gts] using hg i lv hi)).2
   | _=>trivial
 | .or a c,k,h,ρ,τ,own,st,w,wf,hg=>by
   simp only [xE,yE]
   refine (gE a 2 w wf fun i lv hi=>(bQ (by simpa only [gts] using hg i lv hi)).1).bind fun x x' st1 h1 g1 hx=>?_
   cases x' with
   | bl r=>
     have:=hx.1.jH; subst this
     cases r with
     | true=>exact .ok g1.wf (.of .bl .bl)
     | false=>exact gE c k (w.gr g1) g1.wf fun i lv hi=>(bQ (by simpa only [gts] using hg i lv hi)).2
   | _=>trivial
 | .ite c a d,k,h,ρ,τ,own,st,w,wf,hg=>by
   simp only [xE,yE]
   refine (gE c 2 w wf fun i lv hi=>(bQ (bQ (by simpa only [gts] using hg i lv hi)).1).1).bind fun x x' st1 h1 g1 hx=>?_
   cases x' with
   | bl r=>
     have:=hx.1.jH; subst this
     cases r with
     | true=>exact gE a k (w.gr g1) g1.wf fun i lv hi=>(bQ (bQ (by simpa only [gts] using hg i lv hi)).1).2
     | false=>exact gE d k (w.gr g1) g1.wf fun i lv hi=>(bQ (by simpa only [gts] using hg i lv hi)).2
   | _=>trivial
 | .tup es,k,h,ρ,τ,own,st,w,wf,hg=>by
   simp only [xE,yE]
   refine (gEs es 0 w wf fun i lv hi=>(by simpa only [gts] using hg i lv hi)).bind fun x x' st1 h1 g1 hx=>?_
   rw [hx.1.length]
   split
   · exact PD g1.wf hx
   · trivial
 | .lst es,k,h,ρ,τ,own,st,w,wf,hg=>by
   simp only [xE,yE]
   refine (gEs es 0 w wf fun i lv hi=>(by simpa only [gts] using hg i lv hi)).bind fun x x' st1 h1 g1 hx=>?_
   rw [hx.1.length]
   split
   · exact ko g1.wf hx
   · trivial
 | .ix a c,k,h,ρ,τ,own,st,w,wf,hg=>by
   simp only [xE,yE]
   refine (gE a (k + 1) w wf fun i lv hi=>(bQ (by simpa only [gts] using hg i lv hi)).1).bind fun x x' st1 h1 g1 hx=>?_
   refine (gE c 2 (w.gr g1) g1.wf fun i lv hi=>(bQ (by simpa only [gts] using hg i lv hi)).2).bind fun y y' st2 h2 g2 hy=>?_
   exact Ii g2.wf (hx.gr g2) hy
 | .sl a c d,k,h,ρ,τ,own,st,w,wf,hg=>by
   simp only [xE,yE]
   refine (gE a 1 w wf fun i lv hi=>(bQ (bQ (by simpa only [gts] using hg i lv hi)).1).1).bind fun x x' st1 h1 g1 hx=>?_
   refine (gE c 2 (w.gr g1) g1.wf fun i lv hi=>(bQ (bQ (by simpa only [gts] using hg i lv hi)).1).2).bind fun y y' st2 h2 g2 hy=>?_
   cases z:Ef c y' with
   | none=>trivial
   | some lo=>
     rw [p8 hy.1 c z]
     dsimp only
     refine (gE d 2 ((w.gr g1).gr g2) g2.wf fun i lv hi=>(bQ (by simpa only [gts] using hg i lv hi)).2).bind fun v v' st3 h3 g3 hv=>?_
     cases z2:Ef d v' with
     | none=>trivial
     | some hi=>
       rw [p8 hv.1 d z2]
       dsimp only
       cases x' with
       | lst xs=>
         obtain ⟨us,e1,_,p'⟩:=ni g3.wf ((hx.gr g2).gr g3)
         simp only [DD.eq_def,e1,zSl.eq_def]
         exact ko g3.wf (p'.cut lo hi)
       | _=>trivial
 | .call f es,k,h,ρ,τ,own,st,w,wf,hg=>by
   simp only [xE,yE]
   cases hs:(μ f).sc with
   | true=>
     refine (gEs es 2 w wf fun i lv hi=>(by simpa only [gts,hs,if_true] using hg i lv hi)).bind fun x x' st1 h1 g1 hx=>?_
     exact ((HP f).PK hs g1.wf hx).imp fun _ _ _ _ z=>z.weak
   | false=>
     refine (gEs es 0 w wf fun i lv hi=>(by simpa only [gts,hs,Bool.false_eq_true,if_false] using hg i lv hi)).bind fun x x' st1 h1 g1 hx=>?_
     exact ((HP f).plain g1.wf hx).imp fun _ _ _ _ z=>z.weak
 | .bi o es,k,h,ρ,τ,own,st,w,wf,hg=>by
   simp only [xE,yE]
   refine (gEs es (biK o) w wf fun i lv hi=>?_).bind fun x x' st1 h1 g1 hx=>?_
   · have:=hg i lv hi
     cases o <;> simpa only [gts,biK] using this
   · exact (Hx g1.wf o hx).imp fun _ _ _ _ z=>z.weak
 | .isi a t,k,h,ρ,τ,own,st,w,wf,hg=>by
   simp only [xE,yE]
   refine (gE a 2 w wf fun i lv hi=>(by simpa only [gts] using hg i lv hi)).bind fun x x' st1 h1 g1 hx=>?_
   have e:=vY hx.1 t
   obtain ⟨r,_⟩:=hx
   cases r <;> first | trivial | (dsimp only; rw [e]; exact .ok g1.wf (.of .bl .bl))
 | .isB n a t,k,h,ρ,τ,own,st,w,wf,hg=>by
   simp only [xE,yE]
   refine (gE a 2 w wf fun i lv hi=>(by simpa only [gts] using hg i lv hi)).bind fun x x' st1 h1 g1 hx=>?_
   rw [Il hx.1]
   exact .ok g1.wf (.of .bl .bl)
 | .isN n a,k,h,ρ,τ,own,st,w,wf,hg=>by
   simp only [xE,yE]
   refine (gE a 2 w wf fun i lv hi=>(by simpa only [gts] using hg i lv hi)).bind fun x x' st1 h1 g1 hx=>?_
   rw [IF hx.1]
   exact .ok g1.wf (.of .bl .bl)
 | .comp caps t it ifs elt,k,h,ρ,τ,own,st,w,wf,hg=>by
   by_cases hs:spc caps t it ifs elt=true
   · obtain ⟨v,ty,rfl,rfl,rfl,rfl,rfl⟩:=vn hs
     exact IY w wf
   simp only [xE,yE]
   have hc:∀ i lv,(i,lv) ∈ own→some i ∉ caps:=fun i lv hi z=>by
     have:=(bQ (by simpa only [gts] using hg i lv hi)).1
     rw [List.contains_iff_mem.mpr z] at this
     cases this
   refine (gIt it 1 (Nat.le_refl 1) w wf fun i lv hi=>(by have:=(bQ (by simpa only [gts] using hg i lv hi)).2; rwa [if_neg hs] at this)).bind fun q xs st1 h1 g1 hq=>?_
   rw [hq.2.len]
   split
   · refine Gd.noX ?_
     refine Gd.bind (P:=PXs 0) ?_ fun us ds st2 h2 g2 hu=>ko g2.wf hu
     exact um (yD ((w.gr g1).cap hc) (fun w' wf'=>gIf ifs w' wf' fun _ _ z=>nomatch z) fun w' wf'=>gE elt 0 w' wf' fun _ _ z=>nomatch z) g1.wf hq.2
   · trivial
theorem gEs:∀ (es:List E) (k:Nat) {h:Hd} {ρ:Env} {τ:ao} {own:Own} {st:Sto},WE h st ρ τ own→Wf h st→(∀ i lv,(i,lv) ∈ own→dz μ i lv k es=false)→Gd h st (PXs k) (xEs Φ es ρ st) (yEs Ψ es τ)
 | [],k,_,_,_,_,_,_,wf,_=>.ok wf .nil
 | e :: es,k,h,ρ,τ,own,st,w,wf,hg=>by
   simp only [xEs,yEs]
   refine (gE e k w wf fun i lv hi=>(bQ (by simpa only [dz] using hg i lv hi)).1).bind fun x x' st1 h1 g1 hx=>?_
   refine (gEs es k (w.gr g1) g1.wf fun i lv hi=>(bQ (by simpa only [dz] using hg i lv hi)).2).bind fun y y' st2 h2 g2 hy=>?_
   exact .ok g2.wf (.cons (hx.gr g2) hy)
theorem gIf:∀ (es:List E) {h:Hd} {ρ:Env} {τ:ao} {own:Own} {st:Sto},WE h st ρ τ own→Wf h st→(∀ i lv,(i,lv) ∈ own→dz μ i lv 2 es=false)→Gd h st (fun _ _ a b=>a=b) (xIf Φ es ρ st) (yIf Ψ es τ)
 | [],_,_,_,_,_,_,wf,_=>.ok wf rfl
 | e :: es,h,ρ,τ,own,st,w,wf,hg=>by
   simp only [xIf,yIf]
   refine (gE e 2 w wf fun i lv hi=>(bQ (by simpa only [dz] using hg i lv hi)).1).bind fun x x' st1 h1 g1 hx=>?_
   cases x' with
   | bl r=>
     have:=hx.1.jH; subst this
     cases r with
     | false=>exact .ok g1.wf rfl
     | true=>exact gIf es (w.gr g1) g1.wf fun i lv hi=>(bQ (by simpa only [dz] using hg i lv hi)).2
   | _=>trivial
theorem gIt:∀ (it:It) (k:Nat) {h:Hd} {ρ:Env} {τ:ao} {own:Own} {st:Sto},k≤1→WE h st ρ τ own→Wf h st→(∀ i lv,(i,lv) ∈ own→gG μ i lv k it=false) →
   Gd h st (fun h' st' q xs=>(k=0→SqN h' q)∧SqR h' st' q xs) (xIt Φ it ρ st) (yIt Ψ it τ)
 | .seq e,k,h,ρ,τ,own,st,hk,w,wf,hg=>by
   simp only [xIt,yIt]
   refine (gE e k w wf fun i lv hi=>(by simpa only [gG] using hg i lv hi)).bind fun x x' st1 h1 g1 hx=>?_
   cases x' with
   | lst xs=>
     obtain ⟨us,⟨l,fz,rfl,e1⟩ | rfl,r⟩:=iS g1.wf hx
     · dsimp only
       rw [if_pos (List.getElem?_eq_some_iff.mp e1).1]
       refine .ok g1.wf ⟨fun hb=>?_,M0 hk hx,fz,us,e1,r.1⟩
       subst hb
       exact (hx.av l (by simp [locs])).2
     · exact .ok g1.wf ⟨fun _=>trivial,r.mono (by omega)⟩
   | tup xs=>
     obtain ⟨us,rfl,p'⟩:=kL (k':=0) hx
     exact .ok g1.wf ⟨fun _=>trivial,p'⟩
   | _=>trivial
 | .rng e,k,h,ρ,τ,own,st,hk,w,wf,hg=>by
   simp only [xIt,yIt]
   refine (gE e 2 w wf fun i lv hi=>(by simpa only [gG] using hg i lv hi)).bind fun x x' st1 h1 g1 hx=>?_
   cases x' with
   | int j=>
     have:=hx.1.int_inv; subst this
     dsimp only
     split
     · exact .ok g1.wf ⟨fun _=>trivial,ue _ _⟩
     · trivial
   | _=>trivial
 | .rng2 a c,k,h,ρ,τ,own,st,hk,w,wf,hg=>by
   simp only [xIt,yIt]
   refine (gE a 2 w wf fun i lv hi=>(bQ (by simpa only [gG] using hg i lv hi)).1).bind fun x x' st1 h1 g1 hx=>?_
   refine (gE c 2 (w.gr g1) g1.wf fun i lv hi=>(bQ (by simpa only [gG] using hg i lv hi)).2).bind fun y y' st2 h2 g2 hy=>?_
   cases x' with
   | int i=>
     have:=hx.1.int_inv; subst this
     cases y' with
     | int j=>
       have:=hy.1.int_inv; subst this
       dsimp only
       split
       · exact .ok g2.wf ⟨fun _=>trivial,ue _ _⟩
       · trivial
     | _=>trivial
   | _=>trivial
 | .enu e,k,h,ρ,τ,own,st,hk,w,wf,hg=>by
   simp only [xIt,yIt]
   refine (gE e k w wf fun i lv hi=>(by simpa only [gG] using hg i lv hi)).bind fun x x' st1 h1 g1 hx=>?_
   cases x' with
   | lst xs=>
     obtain ⟨us,⟨l,fz,rfl,e1⟩ | rfl,r⟩:=iS g1.wf hx
     · dsimp only
       rw [if_pos (List.getElem?_eq_some_iff.mp e1).1]
       refine .ok g1.wf ⟨fun hb=>?_,M0 hk hx,fz,us,xs,e1,r.1,rfl⟩
       subst hb
       exact (hx.av l (by simp [locs])).2
     · exact .ok g1.wf ⟨fun _=>trivial,Ay 0 (r.mono (by omega))⟩
   | _=>trivial
 | .zip a c,k,h,ρ,τ,own,st,hk,w,wf,hg=>by
   simp only [xIt,yIt]
   refine (gE a k w wf fun i lv hi=>(bQ (by simpa only [gG] using hg i lv hi)).1).bind fun x x' st1 h1 g1 hx=>?_
   refine (gE c k (w.gr g1) g1.wf fun i lv hi=>(bQ (by simpa only [gG] using hg i lv hi)).2).bind fun y y' st2 h2 g2 hy=>?_
   have hx2:=PX.gr hx g2
   cases x' with
   | lst xs=>
     cases y' with
     | lst ys=>
       obtain ⟨p,e1,n1,q1⟩:=AO hk g2.wf hx2
       obtain ⟨q,e2,n2,q2⟩:=AO hk g2.wf hy
       rw [e1,e2]
       exact .ok g2.wf ⟨fun hb=>⟨n1 hb,n2 hb⟩,xs,ys,q1,q2,rfl⟩
     | _=>trivial
   | _=>cases y' <;> trivial
end
end
end Sv
namespace Sv
open PySem PySem.Spec L2
open Ev (D aL aT ag)
noncomputable def FrN (lv:Nat) (st:Sto) (h':Hd) (st':Sto) (u:U) (d:T):Prop:=Rep st' u d∧∃ l cs,u=.loc l∧Ent h' st' l cs lv∧∀ k ∈ l :: cs,st.length≤k
noncomputable def Hd.more (h:Hd) (X Y:Nat→Prop) (s:∀ k,Y k→X k):Hd:=⟨fun k=>h.h k∨X k,fun k=>h.g k∨Y k,fun k z=>z.imp (h.sub k) (s k)⟩
theorem qb {st:Sto} {c:Bool × List U}:(st++[c])[st.length]?=some c:=by rw [List.getElem?_append_right (Nat.le_refl _),Nat.sub_self]; rfl
theorem FL {h:Hd} {st:Sto} {us:List U} {ds:List T} (w:Wf h st) (p:PXs 0 h st us ds):∃ h',Gr h st h' (st++[(false,us)])∧FrN 1 st h' (st++[(false,us)]) (.loc st.length) (.lst ds):=by
 refine ⟨h.more (fun k=>k=st.length) (fun _=>False) (fun _ z=>z.elim),⟨fD,fun _ z=>.inl z,fun _ z=>.inl z,fun k hk z=>z.elim id fun q=>by omega,fun k hk z=>z.elim id fun q=>q.elim,⟨fun k fz vs hk e u hu=>?_,fun k z=>?_⟩⟩,(uC w p.1).1,st.length,[],rfl,⟨.inr rfl,fun _=>⟨fun z=>z.elim (fun z=>Nat.lt_irrefl _ (w.lt _ (h.sub _ z))) fun z=>z,rfl,us,qb⟩,fun z=>absurd rfl z,by simp⟩,fun k hk=>by rw [List.mem_singleton] at hk; omega⟩
 · have lift:∀ {v:U},Av h st.length v→Av (h.more (fun k=>k=st.length) (fun _=>False) (fun _ z=>z.elim)) (st++[(false,us)]).length v:=fun {v} a l hl=>by
     obtain ⟨a1,a2⟩:=a l hl
     refine ⟨by rw [List.length_append]; exact Nat.lt_add_right _ a1,fun z=>?_⟩
     rcases z with z | z
     · exact a2 z
     · omega
   rcases Nat.lt_or_ge k st.length with q | q
   · rw [List.getElem?_append_left q] at e
     exact lift (w.av k fz vs (fun z=>hk (.inl z)) e u hu)
   · rw [List.getElem?_append_right q] at e
     have:=List.mem_of_getElem? e
     rw [List.mem_singleton] at this
     cases this
     exact lift ((p.2 u hu).zero)
 · rw [List.length_append]
   rcases z with z | z
   · exact Nat.lt_add_right _ (w.lt k z)
   · subst z; exact Nat.lt_succ_self _
theorem B8 {h:Hd} {st0 st:Sto} {cs:List Nat} {ds:List T} (w:Wf h st) (r:aK st (cs.map .loc) ds) (nd:cs.Nodup) (hl:st0.length≤st.length) (hc:∀ c ∈ cs,st0.length≤c∧h.h c∧¬ h.g c∧∃ ws,st[c]?=some (false,ws)) :
   ∃ h',Gr h st h' (st++[(false,cs.map .loc)])∧FrN 2 st0 h' (st++[(false,cs.map .loc)]) (.loc st.length) (.lst ds):=by
 have cl:∀ c ∈ cs,c < st.length:=fun c h=>let ⟨_,_,_,ws,e⟩:=hc c h; (List.getElem?_eq_some_iff.mp e).1
 refine ⟨h.more (fun k=>k=st.length) (fun k=>k=st.length) (fun _ z=>z),⟨fD,fun _ z=>.inl z,fun _ z=>.inl z,fun k hk z=>z.elim id fun q=>by omega,fun k hk z=>z.elim id fun q=>by omega,⟨fun k fz vs hk e u hu=>?_,fun k z=>?_⟩⟩,(uC w r).1,st.length,cs,rfl,⟨.inr rfl,fun z=>by omega,fun _=>⟨rfl,.inr rfl,qb,fun c hcm=>?_⟩,List.nodup_cons.mpr ⟨fun z=>Nat.lt_irrefl _ (cl _ z),nd⟩⟩,fun k hk=>?_⟩
 · have kl:k < st.length:=by
     have:=(List.getElem?_eq_some_iff.mp e).1
     rw [List.length_append] at this
     have ne:k ≠ st.length:=fun z=>hk (.inr z)
     simp at this
     omega
   rw [List.getElem?_append_left kl] at e
   intro l hl
   obtain ⟨a1,a2⟩:=w.av k fz vs (fun z=>hk (.inl z)) e u hu l hl
   refine ⟨by rw [List.length_append]; exact Nat.lt_add_right _ a1,fun z=>?_⟩
   rcases z with z | z
   · exact a2 z
   · omega
 · rw [List.length_append]
   rcases z with z | z
   · exact Nat.lt_add_right _ (w.lt k z)
   · subst z; exact Nat.lt_succ_self _
 · obtain ⟨_,h1,h2,ws,e⟩:=hc c hcm
   exact ⟨.inl h1,fun z=>z.elim h2 fun z=>absurd (cl c hcm) (by omega),ws,i5 fD _ _ e⟩
 · rcases List.mem_cons.mp hk with rfl | hk
   · exact hl
   · exact (hc k hk).1
theorem Gr.Ob {h h':Hd} {st st':Sto} (g:Gr h st h' st') {c:Nat} (a:h.h c∧¬ h.g c∧∃ ws,st[c]?=some (false,ws)):h'.h c∧¬ h'.g c∧∃ ws,st'[c]?=some (false,ws):=by
 obtain ⟨a1,a2,ws,a3⟩:=a
 exact ⟨g.hm c a1,fun z=>a2 (g.gn c (List.getElem?_eq_some_iff.mp a3).1 z),ws,i5 g.pre _ _ a3⟩
noncomputable def RN (st:Sto) (h2:Hd) (st2:Sto):Option U→Option T→Prop
 | some u,some d=>Rep st2 u d∧∃ c,u=.loc c∧st.length≤c∧h2.h c∧¬ h2.g c∧∃ ws,st2[c]?=some (false,ws)
 | none,none=>True
 | _,_=>False
theorem qi {f:U→Sto→Rs (Option U)} {g:T→Ou (Option T)} {q:Sq} {xs:List T} {st0:Sto} {h0:Hd}
   (hf:∀ u x st' h' o',Gr h0 st0 h' st'→PX 0 h' st' u x→g x=.ok o'→(∀ d,o'=some d→isL d=true)→∃ o st2 h2,f u st'=.ok o st2∧Gr h' st' h2 st2∧RN st' h2 st2 o o') :
   ∀ (n i:Nat) (st:Sto) (h:Hd) (ds:List T),Gr h0 st0 h st→SqR h st q xs→i≤xs.length→i + n=xs.length + 1→cb g (xs.drop i)=.ok ds→ds.all isL=true →
     ∃ (cs:List Nat) (st':Sto) (h':Hd),iJ f q n i st=.ok (cs.map .loc) st'∧Gr h st h' st'∧aK st' (cs.map .loc) ds∧cs.Nodup∧∀ c ∈ cs,st.length≤c∧h'.h c∧¬ h'.g c∧∃ ws,st'[c]?=some (false,ws)
 | 0,i,st,h,ds,_,_,hi,e,_,_=>by omega
 | n + 1,i,st,h,ds,p,s,hi,e,hy,ha=>by
   rw [iJ]
   rcases s.at p.wf i with ⟨e1,e2⟩ | ⟨x,u,e1,e2,px⟩
   · rw [List.drop_eq_nil_of_le (List.getElem?_eq_none_iff.mp e1),cb] at hy
     cases hy
     exact ⟨[],st,h,by rw [e2]; rfl,.refl p.wf,.nil,List.nodup_nil,(by intro c hc; cases hc)⟩
   · have hl:=(List.getElem?_eq_some_iff.mp e1).1
     have e3:xs.drop i=x :: xs.drop (i + 1):=by
       rw [List.drop_eq_getElem_cons hl]
       rw [(List.getElem?_eq_some_iff.mp e1).2]
     rw [e3,cb,Ou.bw] at hy
     obtain ⟨o',hg,hy⟩:=hy
     rw [Ou.bw] at hy
     obtain ⟨ys,hy,hz⟩:=hy
     have hal:(∀ d,o'=some d→isL d=true)∧ys.all isL=true:=by
       cases o' with
       | none=>cases hz; exact ⟨(fun _ z=>by cases z),ha⟩
       | some d=>
         cases hz
         rw [List.all_cons,Bool.and_eq_true] at ha
         exact ⟨(fun d' z=>by cases z; exact ha.1),ha.2⟩
     obtain ⟨o,st1,h1,f1,g1,rn⟩:=hf u x st h o' p px hg hal.1
     obtain ⟨cs,st2,h2,f2,g2,r2,n2,c2⟩:=qi hf n (i + 1) st1 h1 ys (p.trans g1) (s.gr g1) hl (by omega) hy hal.2
     rw [e2]
     dsimp only
     rw [f1,Rs.aa,f2,Rs.aa]
     cases o with
     | none=>
       cases o' with
       | none=>cases hz; exact ⟨cs,st2,h2,rfl,g1.trans g2,r2,n2,fun c hc=>⟨Nat.le_trans g1.pre.length_le (c2 c hc).1,(c2 c hc).2⟩⟩
       | some d=>exact rn.elim
     | some v=>
       cases o' with
       | none=>exact rn.elim
       | some d=>
         cases hz
         obtain ⟨rv,c,rfl,hc,hh⟩:=rn
         have hcl:c < st1.length:=by obtain ⟨_,_,ws,e⟩:=hh; exact (List.getElem?_eq_some_iff.mp e).1
         refine ⟨c :: cs,st2,h2,rfl,g1.trans g2,.cons (rv.ext g2.pre) r2,List.nodup_cons.mpr ⟨fun z=>absurd (c2 c z).1 (by omega),n2⟩,fun k hk=>?_⟩
         rcases List.mem_cons.mp hk with rfl | hk
         · exact ⟨hc,g2.Ob hh⟩
         · exact ⟨Nat.le_trans g1.pre.length_le (c2 k hk).1,(c2 k hk).2⟩
theorem Ent.down {h:Hd} {st:Sto} {l:Nat} {cs:List Nat} (w:Wf h st) (e:Ent h st l cs 2):∃ h',(∀ k,h'.h k→h.h k)∧(∀ k,h'.g k→h.g k)∧(∀ k,k ∉ l :: cs→(h.h k→h'.h k)∧(h.g k→h'.g k))∧(∀ c ∈ cs,¬ h'.h c)∧Wf h' st∧Ent h' st l [] 1:=by
 obtain ⟨_,gl,e1,e2⟩:=e.two (by decide)
 have nl:l ∉ cs:=(List.nodup_cons.mp e.nd).1
 refine ⟨⟨fun k=>h.h k∧k ∉ cs,fun k=>h.g k∧k ∉ l :: cs,fun k z=>⟨h.sub k z.1,fun q=>z.2 (List.mem_cons_of_mem _ q)⟩⟩,fun k z=>z.1,fun k z=>z.1,fun k hk=>⟨fun z=>⟨z,fun q=>hk (List.mem_cons_of_mem _ q)⟩,fun z=>⟨z,hk⟩⟩,fun c hc z=>z.2 hc,⟨fun k fz us hk q u hu=>?_,fun k z=>w.lt k z.1⟩,⟨⟨e.hl,nl⟩,fun _=>⟨fun z=>z.2 (List.mem_cons_self ..),rfl,_,e1⟩,fun z=>absurd rfl z,by simp⟩⟩
 by_cases hg:h.g k
 · have hx:k ∈ l :: cs:=Classical.byContradiction fun z=>hk ⟨hg,z⟩
   rcases List.mem_cons.mp hx with rfl | hx
   · rw [e1] at q; cases q
     obtain ⟨c,hc,rfl⟩:=List.mem_map.mp hu
     exact .loc (e.lt c (List.mem_cons_of_mem _ hc)) fun z=>z.2 hc
   · exact absurd hg (e2 k hx).2.1
 · exact (w.av k fz us hg q u hu).imp fun _ _ z=>z.1
theorem FrN.down {h:Hd} {st st':Sto} {h':Hd} {u:U} {d:T} (w:Wf h st) (g:Gr h st h' st') (f:FrN 2 st h' st' u d):∃ h'',Gr h st h'' st'∧FrN 1 st h'' st' u d:=by
 obtain ⟨r,l,cs,rfl,e,n⟩:=f
 obtain ⟨h2,a1,a2,a3,_,w2,e2⟩:=Ent.down g.wf e
 have out:∀ k,h.h k→k ∉ l :: cs:=fun k z q=>absurd (w.lt k z) (Nat.not_lt.mpr (n k q))
 exact ⟨h2,⟨g.pre,fun k z=>(a3 k (out k z)).1 (g.hm k z),fun k z=>(a3 k (out k (h.sub k z))).2 (g.gm k z),fun k hk z=>g.hn k hk (a1 k z),fun k hk z=>g.gn k hk (a2 k z),w2⟩,r,l,[],rfl,e2,fun k hk=>n k (by rw [List.mem_singleton] at hk; subst hk; exact List.mem_cons_self ..)⟩
theorem FrR.n {lv:Nat} {st:Sto} {h':Hd} {st':Sto} {u:U} {d:T} (f:FrR lv st h' st' u d) (h1:lv ≠ 0) (h2:isL d=true):FrN lv st h' st' u d:=by
 unfold FrR at f
 rw [if_neg (by rw [h2]; simp [h1])] at f
 exact f
theorem FrN.r {lv:Nat} {st:Sto} {h':Hd} {st':Sto} {u:U} {d:T} (f:FrN lv st h' st' u d) (h1:lv ≠ 0) (h2:isL d=true):FrR lv st h' st' u d:=by
 unfold FrR
 rw [if_neg (by rw [h2]; simp [h1])]
 exact f
theorem Gr.frn {lv:Nat} {h h1 h2:Hd} {st st1 st2:Sto} {u:U} {d:T} (g:Gr h st h1 st1) (f:FrN lv st1 h2 st2 u d):FrN lv st h2 st2 u d:=by
 obtain ⟨r,l,cs,e1,e,n⟩:=f
 exact ⟨r,l,cs,e1,e,fun k hk=>Nat.le_trans g.pre.length_le (n k hk)⟩
section
variable {Φ:Fn} {Ψ:FnT} {μ:Nat→Md} (HP:∀ f,Pure (μ f) (Φ f) (Ψ f))
include HP
theorem gN1:∀ (e:E) {h:Hd} {ρ:Env} {τ:ao} {own:Own} {st:Sto},WE h st ρ τ own→Wf h st→(∀ i lv,(i,lv) ∈ own→gts μ i lv 0 e=false)→1≤dm μ e→∀ ds,yE Ψ e τ=.ok (.lst ds) →
   ∃ u st' h',xE Φ e ρ st=.ok u st'∧Gr h st h' st'∧FrN 1 st h' st' u (.lst ds):=by
 intro e h ρ τ own st w wf hg hf ds hy
 have fin:∀ {st1:Sto} {h1:Hd} {us:List U},Gr h st h1 st1→PXs 0 h1 st1 us ds→xE Φ e ρ st=new st1 us→∃ u st' h',xE Φ e ρ st=.ok u st'∧Gr h st h' st'∧FrN 1 st h' st' u (.lst ds):=fun {st1 h1 us} g p e=>by
   obtain ⟨h2,g2,f2⟩:=FL g.wf p
   exact ⟨_,_,h2,e,g.trans g2,g.frn f2⟩
 cases e with
 | lst es=>
   simp only [yE,Ou.bw] at hy
   obtain ⟨xs,h1,h2⟩:=hy
   split at h2
   · rename_i hl
     cases h2
     obtain ⟨us,st1,hh,e1,g1,r1⟩:=(gEs HP es 0 w wf fun i lv hi=>(by simpa only [gts] using hg i lv hi)).inv h1
     refine fin g1 r1 ?_
     simp only [xE,e1,Rs.aa]
     rw [r1.1.length,if_pos hl]
   · cases h2
 | comp caps t it ifs elt=>
   by_cases hs:spc caps t it ifs elt=true
   · obtain ⟨v,ty,rfl,rfl,rfl,rfl,rfl⟩:=vn hs
     simp only [yE,Ou.bw] at hy
     obtain ⟨xs,h1,h2⟩:=hy
     split at h2
     · rename_i hl
       obtain ⟨q,us,e1,e2,hq,r⟩:=Ec (Φ:=Φ) w h1
       have:=qx (Φ:=Φ) (Ψ:=Ψ) (ty:=ty) (ρ:=ρ) (τ:=τ) hq r (xs.length + 1) 0 (Nat.zero_le _) (Nat.zero_add _)
       rw [List.drop_zero] at this
       have h2':(Ou.noX (Ou.bind (cb (gI Ψ ty τ) xs) fun ys=>Ou.ok (T.lst ys)))=Ou.ok (T.lst ds):=h2
       rcases this with z | ⟨bs,z1,z2⟩
       · rw [z] at h2'; cases h2'
       · rw [z2] at h2'
         simp only [Ou.aa,Ou.ip,Ou.ok.injEq,T.lst.injEq] at h2'
         subst h2'
         refine fin (.refl wf) (zF bs) ?_
         simp only [xE,e1,Rs.aa]
         rw [e2,if_pos hl]
         exact congrArg (fun z:Rs (List U)=>(z.bind fun ys st2=>new st2 ys).noX) z1
     · cases h2
   simp only [yE,Ou.bw] at hy
   obtain ⟨xs,h1,h2⟩:=hy
   split at h2
   · rename_i hl
     have hc:∀ i lv,(i,lv) ∈ own→some i ∉ caps:=fun i lv hi z=>by
       have:=(bQ (by simpa only [gts] using hg i lv hi)).1
       rw [List.contains_iff_mem.mpr z] at this
       cases this
     obtain ⟨q,st1,hh1,e1,g1,hq⟩:=(gIt HP it 1 (Nat.le_refl 1) w wf fun i lv hi=>(by have:=(bQ (by simpa only [gts] using hg i lv hi)).2; rwa [if_neg hs] at this)).inv h1
     have g:=um (yD (t:=t) ((w.gr g1).cap hc) (fun w' wf'=>gIf HP ifs w' wf' fun _ _ z=>nomatch z) fun w' wf'=>gE HP elt 0 w' wf' fun _ _ z=>nomatch z) g1.wf hq.2
     generalize hz:cb _ xs=z at h2 g
     cases z with
     | bad=>cases h2
     | exc c=>cases h2
     | ok ys=>
       simp only [Ou.aa,Ou.ip,Ou.ok.injEq,T.lst.injEq] at h2
       subst h2
       obtain ⟨us,st2,hh2,e2,g2,r2⟩:=g
       refine fin (g1.trans g2) r2 ?_
       simp only [xE,e1,Rs.aa]
       rw [hq.2.len,if_pos hl]
       exact congrArg (fun z:Rs (List U)=>(z.bind fun ys st2=>new st2 ys).noX) e2
   · cases h2
 | sl a c d=>
   simp only [yE,Ou.bw] at hy
   obtain ⟨x',h1,y',h2,h3⟩:=hy
   obtain ⟨x,st1,hh1,e1,g1,hx⟩:=(gE HP a 1 w wf fun i lv hi=>(bQ (bQ (by simpa only [gts] using hg i lv hi)).1).1).inv h1
   obtain ⟨y,st2,hh2,e2,g2,hy⟩:=(gE HP c 2 (w.gr g1) g1.wf fun i lv hi=>(bQ (bQ (by simpa only [gts] using hg i lv hi)).1).2).inv h2
   split at h3
   · cases h3
   · rename_i lo hlo
     simp only [Ou.bw] at h3
     obtain ⟨v',h3,h4⟩:=h3
     obtain ⟨v,st3,hh3,e3,g3,hv⟩:=(gE HP d 2 ((w.gr g1).gr g2) g2.wf fun i lv hi=>(bQ (by simpa only [gts] using hg i lv hi)).2).inv h3
     split at h4
     · cases h4
     · rename_i hi hhi
       cases x' with
       | lst xs=>
         obtain ⟨us,e4,_,p'⟩:=ni g3.wf ((hx.gr g2).gr g3)
         simp only [zSl.eq_def,Ou.ok.injEq,T.lst.injEq] at h4
         subst h4
         refine fin ((g1.trans g2).trans g3) (p'.cut lo hi) ?_
         simp only [xE,e1,e2,e3,Rs.aa,p8 hy.1 c hlo,p8 hv.1 d hhi,DD.eq_def,e4]
       | _=>cases h4
 | op o a c=>
   cases o <;> first | (simp [dm] at hf; done) | skip
   simp only [yE,Ou.bw] at hy
   obtain ⟨x',h1,y',h2,h3⟩:=hy
   obtain ⟨x,st1,hh1,e1,g1,hx⟩:=(gE HP a 1 w wf fun i lv hi=>(bQ (by simpa only [gts] using hg i lv hi)).1).inv h1
   obtain ⟨y,st2,hh2,e2,g2,hy⟩:=(gE HP c 1 (w.gr g1) g1.wf fun i lv hi=>(bQ (by simpa only [gts] using hg i lv hi)).2).inv h2
   cases x' with
   | lst xs=>
     cases y' with
     | lst ys=>
       obtain ⟨us,c1,r1⟩:=iS g2.wf (hx.gr g2)
       obtain ⟨vs,c2,r2⟩:=iS g2.wf hy
       simp only [z2.eq_def] at h3
       split at h3
       · rename_i hl
         cases h3
         refine fin (g1.trans g2) (r1.append r2) ?_
         simp only [xE,e1,e2,Rs.aa,AS c1 c2]
         rw [r1.1.length,r2.1.length,if_pos hl]
       · cases h3
     | _=>simp [z2.eq_def] at h3
   | int i=>
     cases y' <;> simp [z2.eq_def] at h3
   | _=>simp [z2.eq_def] at h3
 | bi o es=>
   cases o <;> first | (simp [dm] at hf; done) | skip
   simp only [yE,Ou.bw] at hy
   obtain ⟨xs',h1,h2⟩:=hy
   obtain ⟨xs,st1,hh1,e1,g1,hx⟩:=(gEs HP es 1 w wf fun i lv hi=>(by simpa only [gts] using hg i lv hi)).inv h1
   match xs',hx,h2 with
   | [a],⟨.cons (u:=x) r .nil,hp⟩,h2=>
     have px:PX 1 hh1 st1 x a:=⟨r,hp x (List.mem_singleton_self x)⟩
     cases a with
     | lst ys=>
       obtain ⟨vs,e3,e4,p'⟩:=ni g1.wf px
       simp only [zB.eq_def,Ou.ok.injEq,T.lst.injEq] at h2
       subst h2
       refine fin g1 p' ?_
       simp only [xE,e1,Rs.aa]
       simp only [evB.eq_def,e4]
     | tup ys=>
       obtain ⟨vs,rfl,p'⟩:=kL (k':=0) px
       simp only [zB.eq_def,Ou.ok.injEq,T.lst.injEq] at h2
       subst h2
       refine fin g1 p' ?_
       simp only [xE,e1,Rs.aa]
       simp only [evB.eq_def,seq?]
     | _=>cases h2
   | [],_,h2=>cases h2
   | a :: b :: r,_,h2=>cases a <;> cases h2
 | call f es=>
   simp only [yE,Ou.bw] at hy
   obtain ⟨xs',h1,h2⟩:=hy
   obtain ⟨xs,st1,hh1,e1,g1,u,st2,hh2,e2,g2,f2⟩:∃ xs st1 hh1,xEs Φ es ρ st=.ok xs st1∧Gr h st hh1 st1∧∃ u st2 hh2,Φ f xs st1=.ok u st2∧Gr hh1 st1 hh2 st2∧FrR (μ f).lv st1 hh2 st2 u (.lst ds):=by
     cases hs:(μ f).sc with
     | false=>
       obtain ⟨xs,st1,hh1,e1,g1,hx⟩:=(gEs HP es 0 w wf fun i lv hi=>(by simpa only [gts,hs,Bool.false_eq_true,if_false] using hg i lv hi)).inv h1
       obtain ⟨u,st2,hh2,e2,g2,f2⟩:=((HP f).2 hh1 st1 xs xs' g1.wf hx).inv h2
       exact ⟨xs,st1,hh1,e1,g1,u,st2,hh2,e2,g2,f2⟩
     | true=>
       obtain ⟨xs,st1,hh1,e1,g1,hx⟩:=(gEs HP es 2 w wf fun i lv hi=>(by simpa only [gts,hs,if_true] using hg i lv hi)).inv h1
       obtain ⟨u,st2,hh2,e2,g2,f2⟩:=((HP f).E9 hs g1.wf hx).inv h2
       exact ⟨xs,st1,hh1,e1,g1,u,st2,hh2,e2,g2,f2⟩
   have hf:1≤(μ f).lv:=hf
   have fn:=f2.n (by omega) rfl
   have hE:xE Φ (.call f es) ρ st=.ok u st2:=by simp only [xE,e1,Rs.aa,e2]
   have su:(μ f).lv=1∨(μ f).lv=2:=by
     obtain ⟨_,l,cs,_,e,_⟩:=fn
     by_cases z:(μ f).lv=1
     · exact .inl z
     · exact .inr (e.two z).1
   rcases su with z | z
   · rw [z] at fn
     exact ⟨u,st2,hh2,hE,g1.trans g2,g1.frn fn⟩
   · rw [z] at fn
     obtain ⟨h3,g3,f3⟩:=fn.down g1.wf g2
     exact ⟨u,st2,h3,hE,g1.trans g3,g1.frn f3⟩
 | _=>simp [dm] at hf
theorem gN2 (e:E) {h:Hd} {ρ:Env} {τ:ao} {own:Own} {st:Sto} (w:WE h st ρ τ own) (wf:Wf h st) (hg:∀ i lv,(i,lv) ∈ own→gts μ i lv 0 e=false) (hf:2≤dm μ e) (ds:List T) (hy:yE Ψ e τ=.ok (.lst ds)) (ha:ds.all isL=true) :
   ∃ u st' h',xE Φ e ρ st=.ok u st'∧Gr h st h' st'∧FrN 2 st h' st' u (.lst ds):=by
 cases e with
 | comp caps t it ifs elt=>
   have hfe:1≤dm μ elt:=by
     simp only [dm] at hf
     split at hf
     · omega
     · omega
   have hs:¬ spc caps t it ifs elt=true:=fun z=>by
     obtain ⟨v,ty,rfl,rfl,rfl,rfl,rfl⟩:=vn z
     simp [dm] at hfe
   simp only [yE,Ou.bw] at hy
   obtain ⟨xs,h1,h2⟩:=hy
   split at h2
   · rename_i hl
     have hc:∀ i lv,(i,lv) ∈ own→some i ∉ caps:=fun i lv hi z=>by
       have:=(bQ (by simpa only [gts] using hg i lv hi)).1
       rw [List.contains_iff_mem.mpr z] at this
       cases this
     obtain ⟨q,st1,hh1,e1,g1,hq⟩:=(gIt HP it 1 (Nat.le_refl 1) w wf fun i lv hi=>(by have:=(bQ (by simpa only [gts] using hg i lv hi)).2; rwa [if_neg hs] at this)).inv h1
     generalize hgf:(fun x=>match aW t x (jw τ caps++[none]) with
         | none=>(Ou.bad:Ou (Option T))
         | some τ1=>(yIf Ψ ifs τ1).bind fun b=>if b then (yE Ψ elt τ1).bind fun y=>.ok (some y) else .ok none)=gf at h2
     cases hz:cb gf xs with
     | bad=>rw [hz] at h2; cases h2
     | exc c=>rw [hz] at h2; cases h2
     | ok ys=>
       rw [hz] at h2
       simp only [Ou.aa,Ou.ip,Ou.ok.injEq,T.lst.injEq] at h2
       subst h2
       have wc:=(w.gr g1).cap hc
       obtain ⟨cs,st2,h2,e2,g2,r2,n2,c2⟩:=qi (f:=fun x st=>match hR t x (ky ρ caps++[none]) with
         | none=>.bad
         | some ρ1=>(xIf Φ ifs ρ1 st).bind fun b st2=>if b then (xE Φ elt ρ1 st2).bind fun y st3=>.ok (some y) st3 else .ok none st2) (g:=gf) (fun u x st' h' o' g px hgx hil=>by
           subst hgf
           dsimp only at hgx
           cases z:aW t x (jw τ caps++[none]) with
           | none=>rw [z] at hgx; cases hgx
           | some τ1=>
             rw [z] at hgx
             simp only [Ou.bw] at hgx
             obtain ⟨b,hb,hgx⟩:=hgx
             obtain ⟨ρ1,f1,w1⟩:=xY (wc.gr g) px z
             obtain ⟨b',st3,h3,f3,g3,hbb⟩:=(gIf HP ifs w1 g.wf fun _ _ z=>nomatch z).inv hb
             have hbb:b'=b:=hbb
             subst hbb
             cases b' with
             | false=>
               simp only [Bool.false_eq_true,if_false] at hgx
               cases hgx
               exact ⟨none,st3,h3,by simp only [f1,f3,Rs.aa]; rfl,g3,trivial⟩
             | true=>
               simp only [if_true,Ou.bw] at hgx
               obtain ⟨y,hy',hgx⟩:=hgx
               cases hgx
               have hyl:=hil y rfl
               cases y with
               | lst zs=>
                 obtain ⟨v,st4,h4,f4,g4,fn⟩:=gN1 HP elt (w1.gr g3) g3.wf (fun _ _ z=>nomatch z) hfe zs hy'
                 refine ⟨some v,st4,h4,by simp only [f1,f3,f4,Rs.aa,if_true],g3.trans g4,fn.1,?_⟩
                 obtain ⟨_,l,cs,rfl,en,nl⟩:=fn
                 obtain ⟨a1,_,a3⟩:=en.one rfl
                 exact ⟨l,rfl,Nat.le_trans g3.pre.length_le (nl l (List.mem_cons_self ..)),en.hl,a1,a3⟩
               | _=>cases hyl) (xs.length + 1) 0 st1 hh1 ys (.refl g1.wf) hq.2 (Nat.zero_le _) (Nat.zero_add _) (by rw [List.drop_zero]; exact hz) ha
       obtain ⟨h3,g3,f3⟩:=B8 (st0:=st1) g2.wf r2 n2 g2.pre.length_le c2
       refine ⟨_,_,h3,?_,(g1.trans g2).trans g3,g1.frn f3⟩
       simp only [xE,e1,Rs.aa]
       rw [hq.2.len,if_pos hl]
       exact congrArg (fun z:Rs (List U)=>(z.bind fun ys st2=>new st2 ys).noX) e2
   · cases h2
 | call f es=>
   simp only [yE,Ou.bw] at hy
   obtain ⟨xs',h1,h2⟩:=hy
   obtain ⟨xs,st1,hh1,e1,g1,u,st2,hh2,e2,g2,f2⟩:∃ xs st1 hh1,xEs Φ es ρ st=.ok xs st1∧Gr h st hh1 st1∧∃ u st2 hh2,Φ f xs st1=.ok u st2∧Gr hh1 st1 hh2 st2∧FrR (μ f).lv st1 hh2 st2 u (.lst ds):=by
     cases hs:(μ f).sc with
     | false=>
       obtain ⟨xs,st1,hh1,e1,g1,hx⟩:=(gEs HP es 0 w wf fun i lv hi=>(by simpa only [gts,hs,Bool.false_eq_true,if_false] using hg i lv hi)).inv h1
       obtain ⟨u,st2,hh2,e2,g2,f2⟩:=((HP f).2 hh1 st1 xs xs' g1.wf hx).inv h2
       exact ⟨xs,st1,hh1,e1,g1,u,st2,hh2,e2,g2,f2⟩
     | true=>
       obtain ⟨xs,st1,hh1,e1,g1,hx⟩:=(gEs HP es 2 w wf fun i lv hi=>(by simpa only [gts,hs,if_true] using hg i lv hi)).inv h1
       obtain ⟨u,st2,hh2,e2,g2,f2⟩:=((HP f).E9 hs g1.wf hx).inv h2
       exact ⟨xs,st1,hh1,e1,g1,u,st2,hh2,e2,g2,f2⟩
   have hf:2≤(μ f).lv:=hf
   have fn:=f2.n (by omega) rfl
   have hE:xE Φ (.call f es) ρ st=.ok u st2:=by simp only [xE,e1,Rs.aa,e2]
   have lv2:(μ f).lv=2:=by
     obtain ⟨_,l,cs,_,e,_⟩:=fn
     exact (e.two (by omega)).1
   rw [lv2] at fn
   exact ⟨u,st2,hh2,hE,g1.trans g2,g1.frn fn⟩
 | op o a c=>cases o <;> simp [dm] at hf
 | bi o es=>cases o <;> simp [dm] at hf
 | _=>simp [dm] at hf
end
end Sv
namespace Sv
open PySem PySem.Spec L2
open Ev (D aL aT ag)
structure En where
 i:Nat
 l:Nat
 lv:Nat
 cs:List Nat
noncomputable def En.ft (e:En):List Nat:=e.l :: e.cs
noncomputable def foot (F:List En):List Nat:=F.flatMap En.ft
noncomputable def bf (F:List En):Own:=F.map fun e=>(e.i,e.lv)
structure WS (P:Nat→Prop) (h0:Hd) (n0:Nat) (H:Hd) (st:Sto) (ρ:Env) (τ:ao) (F:List En):Prop where
 len:ρ.length=τ.length
 val:∀ (i:Nat) d,τ[i]?=some (some d)→∃ u,ρ[i]?=some (some u)∧Rep st u d∧((∀ e ∈ F,e.i ≠ i)→Av H st.length u)
 wf:Wf H st
 ent:∀ e ∈ F,ρ[e.i]?=some (some (.loc e.l))∧Ent H st e.l e.cs e.lv∧∀ k ∈ e.ft,¬ P k
 nd:(foot F).Nodup
 nv:(F.map (·.i)).Nodup
 bh:∀ k,h0.h k→H.h k∧P k
 bg:∀ k,h0.g k→H.g k
 oh:∀ k,H.h k→h0.h k∨k ∈ foot F∨n0≤k
 og:∀ k,H.g k→h0.g k∨k ∈ foot F∨n0≤k
 pl:∀ k,P k→k < n0
 nl:n0≤st.length
structure Stp (P:Nat→Prop) (H:Hd) (st:Sto) (H':Hd) (st':Sto):Prop where
 len:st.length≤st'.length
 lo:∀ k,P k→st'[k]?=st[k]?
 keep:∀ (k:Nat) c,¬ H.h k→st[k]?=some c→st'[k]?=some c
 hid:∀ k,k < st.length→H'.h k→H.h k
 gid:∀ k,k < st.length→H'.g k→H.g k
theorem Stp.refl {P:Nat→Prop} {H:Hd} {st:Sto}:Stp P H st H st:=⟨Nat.le_refl _,fun _ _=>rfl,fun _ _ _ h=>h,fun _ _ h=>h,fun _ _ h=>h⟩
theorem Stp.trans {P:Nat→Prop} {H H1 H2:Hd} {st st1 st2:Sto} (x:Stp P H st H1 st1) (y:Stp P H1 st1 H2 st2):Stp P H st H2 st2:=
 ⟨Nat.le_trans x.len y.len,fun k hk=>(y.lo k hk).trans (x.lo k hk),fun k c hn e=>y.keep k c (fun z=>hn (x.hid k (List.getElem?_eq_some_iff.mp e).1 z)) (x.keep k c hn e),
   fun k hk z=>x.hid k hk (y.hid k (Nat.lt_of_lt_of_le hk x.len) z),fun k hk z=>x.gid k hk (y.gid k (Nat.lt_of_lt_of_le hk x.len) z)⟩
structure Fin (P:Nat→Prop) (h0:Hd) (n0:Nat) (st:Sto) (H':Hd) (st':Sto):Prop where
 len:st.length≤st'.length
 lo:∀ k,P k→st'[k]?=st[k]?
 wf:Wf H' st'
 hm:∀ k,h0.h k→H'.h k
 gm:∀ k,h0.g k→H'.g k
 hn:∀ k,k < n0→H'.h k→h0.h k
 gn:∀ k,k < n0→H'.g k→h0.g k
theorem bJ {F:List En} {k:Nat}:k ∈ foot F ↔ ∃ e ∈ F,k ∈ e.ft:=by unfold foot; exact List.mem_flatMap
theorem g8 (e:En) (F:List En):foot (e :: F)=e.ft++foot F:=rfl
theorem iI (F G:List En):foot (F++G)=foot F++foot G:=by unfold foot; exact List.flatMap_append
theorem mem_mid {α:Type} {F1 F2:List α} {e x:α} (h:x ∈ F1++F2):x ∈ F1++e :: F2:=by
 rcases List.mem_append.mp h with h | h
 · exact List.mem_append_left _ h
 · exact List.mem_append_right _ (List.mem_cons_of_mem _ h)
theorem cW {α:Type} {F1 F2:List α} {e x:α} (h:x ∈ F1++e :: F2):x=e∨x ∈ F1++F2:=by
 rcases List.mem_append.mp h with h | h
 · exact .inr (List.mem_append_left _ h)
 · rcases List.mem_cons.mp h with h | h
   · exact .inl h
   · exact .inr (List.mem_append_right _ h)
theorem ji {F1 F2:List En} {e e':En} (nd:(foot (F1++e :: F2)).Nodup) (h:e' ∈ F1++F2) {k:Nat} (h1:k ∈ e.ft) (h2:k ∈ e'.ft):False:=by
 rw [iI,g8] at nd
 obtain ⟨_,n2,n3⟩:=List.nodup_append.mp nd
 obtain ⟨_,_,n6⟩:=List.nodup_append.mp n2
 rcases List.mem_append.mp h with h | h
 · exact n3 k (bJ.mpr ⟨e',h,h2⟩) k (List.mem_append_left _ h1) rfl
 · exact n6 k h1 k (bJ.mpr ⟨e',h,h2⟩) rfl
theorem CW {F1 F2:List En} {e:En} (nd:(foot (F1++e :: F2)).Nodup):(foot (F1++F2)).Nodup:=by
 rw [iI,g8] at nd
 rw [iI]
 obtain ⟨n1,n2,n3⟩:=List.nodup_append.mp nd
 obtain ⟨_,n5,_⟩:=List.nodup_append.mp n2
 exact List.nodup_append.mpr ⟨n1,n5,fun a ha b hb=>n3 a ha b (List.mem_append_right _ hb)⟩
theorem u3 {F1 F2:List En} {e:En} (nv:((F1++e :: F2).map (·.i)).Nodup):((F1++F2).map (·.i)).Nodup∧∀ e' ∈ F1++F2,e'.i ≠ e.i:=by
 rw [List.map_append,List.map_cons] at nv
 obtain ⟨n1,n2,n3⟩:=List.nodup_append.mp nv
 obtain ⟨n4,n5⟩:=List.nodup_cons.mp n2
 refine ⟨?_,fun e' he z=>?_⟩
 · rw [List.map_append]
   exact List.nodup_append.mpr ⟨n1,n5,fun a ha b hb=>n3 a ha b (List.mem_cons_of_mem _ hb)⟩
 · rcases List.mem_append.mp he with h | h
   · exact n3 _ (List.mem_map_of_mem h) _ (List.mem_cons_self ..) z
   · exact n4 (z ▸ List.mem_map_of_mem (f:=(·.i)) h)
theorem Ent.gr {h h':Hd} {st st':Sto} {l:Nat} {cs:List Nat} {lv:Nat} (e:Ent h st l cs lv) (g:Gr h st h' st'):Ent h' st' l cs lv:=by
 refine ⟨g.hm l e.hl,fun z=>?_,fun z=>?_,e.nd⟩
 · obtain ⟨a,b,us,c⟩:=e.one z
   exact ⟨fun q=>a (g.gn l (List.getElem?_eq_some_iff.mp c).1 q),b,us,i5 g.pre _ _ c⟩
 · obtain ⟨a,b,c,d⟩:=e.two z
   exact ⟨a,g.gm l b,i5 g.pre _ _ c,fun k hk=>g.Ob (d k hk)⟩
theorem Ent.hd {h h':Hd} {st st':Sto} {l:Nat} {cs:List Nat} {lv:Nat} (e:Ent h st l cs lv) (eh:∀ k ∈ l :: cs,(h.h k→h'.h k)∧(h.g k→h'.g k)∧(h'.g k→h.g k)∧st'[k]?=st[k]?):Ent h' st' l cs lv:=by
 have e0:=eh l (List.mem_cons_self ..)
 refine ⟨e0.1 e.hl,fun z=>?_,fun z=>?_,e.nd⟩
 · obtain ⟨a,b,us,c⟩:=e.one z
   exact ⟨fun q=>a (e0.2.2.1 q),b,us,e0.2.2.2.trans c⟩
 · obtain ⟨a,b,c,d⟩:=e.two z
   refine ⟨a,e0.2.1 b,e0.2.2.2.trans c,fun k hk=>?_⟩
   obtain ⟨d1,d2,ws,d3⟩:=d k hk
   have ek:=eh k (List.mem_cons_of_mem _ hk)
   exact ⟨ek.1 d1,fun q=>d2 (ek.2.2.1 q),ws,ek.2.2.2.trans d3⟩
section
variable {P:Nat→Prop} {h0 H:Hd} {n0:Nat} {st:Sto} {ρ:Env} {τ:ao} {F F1 F2:List En}
theorem WS.we (w:WS P h0 n0 H st ρ τ F):WE H st ρ τ (bf F):=by
 refine ⟨w.len,fun i d e=>?_⟩
 obtain ⟨u,e1,r,a⟩:=w.val i d e
 refine ⟨u,e1,r,?_⟩
 by_cases hx:∃ en ∈ F,en.i=i
 · obtain ⟨en,hen,rfl⟩:=hx
   obtain ⟨e2,e3,_⟩:=w.ent en hen
   rw [e1] at e2
   have:u=.loc en.l:=by simpa using e2
   subst this
   refine .inr ⟨en.lv,List.mem_map.mpr ⟨en,hen,rfl⟩,?_⟩
   by_cases z:en.lv=1
   · obtain ⟨a1,_,us,a3⟩:=e3.one z
     exact .inr (.inl ⟨by omega,en.l,rfl,(List.getElem?_eq_some_iff.mp a3).1,a1⟩)
   · obtain ⟨a1,_,a3,a4⟩:=e3.two z
     refine .inr (.inr ⟨by omega,en.l,rfl,false,_,a3,fun v hv=>?_⟩)
     obtain ⟨c,hc,rfl⟩:=List.mem_map.mp hv
     exact ⟨c,rfl,e3.lt c (List.mem_cons_of_mem _ hc),(a4 c hc).2.1⟩
 · exact .inl (a fun e he z=>hx ⟨e,he,z⟩)
theorem WS.gr (w:WS P h0 n0 H st ρ τ F) {H':Hd} {st':Sto} (g:Gr H st H' st'):WS P h0 n0 H' st' ρ τ F∧Stp P H st H' st':=by
 have out:∀ k,H'.h k→H.h k∨n0≤k:=fun k z=>by
   rcases Nat.lt_or_ge k st.length with q | q
   · exact .inl (g.hn k q z)
   · exact .inr (Nat.le_trans w.nl q)
 have outg:∀ k,H'.g k→H.g k∨n0≤k:=fun k z=>by
   rcases Nat.lt_or_ge k st.length with q | q
   · exact .inl (g.gn k q z)
   · exact .inr (Nat.le_trans w.nl q)
 refine ⟨⟨w.len,fun i d e=>let ⟨u,e1,r,a⟩:=w.val i d e; ⟨u,e1,r.ext g.pre,fun z=>g.av (a z)⟩,g.wf,fun e he=>let ⟨a,b,c⟩:=w.ent e he; ⟨a,b.gr g,c⟩,w.nd,w.nv,fun k z=>⟨g.hm k (w.bh k z).1,(w.bh k z).2⟩,fun k z=>g.gm k (w.bg k z),
   fun k z=>(out k z).elim (w.oh k) fun q=>.inr (.inr q),fun k z=>(outg k z).elim (w.og k) fun q=>.inr (.inr q),w.pl,Nat.le_trans w.nl g.pre.length_le⟩,
   ⟨g.pre.length_le,fun k hk=>?_,fun k c _ e=>i5 g.pre k c e,g.hn,g.gn⟩⟩
 obtain ⟨r,rfl⟩:=g.pre
 exact List.getElem?_append_left (Nat.lt_of_lt_of_le (w.pl k hk) w.nl)
theorem WS.drop {e:En} (w:WS P h0 n0 H st ρ τ (F1++e :: F2)):∃ H',WS P h0 n0 H' st ρ τ (F1++F2)∧Stp P H st H' st:=by
 have he:e ∈ F1++e :: F2:=List.mem_append_right _ (List.mem_cons_self ..)
 obtain ⟨a1,a2,a3⟩:=w.ent e he
 obtain ⟨w1,av1⟩:=w.wf.less a2
 obtain ⟨nv1,nv2⟩:=u3 w.nv
 have pB:∀ k,P k→k ∉ e.l :: e.cs:=fun k hk z=>a3 k z hk
 refine ⟨H.less fun k=>k ∈ e.l :: e.cs,⟨w.len,fun i d q=>?_,w1,fun e' he'=>?_,CW w.nd,nv1,fun k z=>⟨⟨(w.bh k z).1,pB k (w.bh k z).2⟩,(w.bh k z).2⟩,fun k z=>⟨w.bg k z,pB k (w.bh k (h0.sub k z)).2⟩,fun k z=>?_,fun k z=>?_,w.pl,w.nl⟩,⟨Nat.le_refl _,fun _ _=>rfl,fun _ _ _ h=>h,fun k _ z=>z.1,fun k _ z=>z.1⟩⟩
 · obtain ⟨u,e1,r,a⟩:=w.val i d q
   refine ⟨u,e1,r,fun hn=>?_⟩
   by_cases z:e.i=i
   · subst z
     rw [a1] at e1
     have:u=.loc e.l:=by simpa using e1.symm
     subst this
     exact av1
   · refine (a fun e' he'=>?_).less
     rcases cW he' with rfl | he'
     · exact z
     · exact hn e' he'
 · obtain ⟨b1,b2,b3⟩:=w.ent e' (mem_mid he')
   have ap:∀ k ∈ e'.l :: e'.cs,k ∉ e.l :: e.cs:=fun k hk z=>ji w.nd he' z hk
   exact ⟨b1,b2.hd fun k hk=>⟨fun z=>⟨z,ap k hk⟩,fun z=>⟨z,ap k hk⟩,fun z=>z.1,rfl⟩,b3⟩
 · rcases w.oh k z.1 with q | q | q
   · exact .inl q
   · obtain ⟨e',he',hk⟩:=bJ.mp q
     rcases cW he' with rfl | he'
     · exact absurd hk z.2
     · exact .inr (.inl (bJ.mpr ⟨e',he',hk⟩))
   · exact .inr (.inr q)
 · rcases w.og k z.1 with q | q | q
   · exact .inl q
   · obtain ⟨e',he',hk⟩:=bJ.mp q
     rcases cW he' with rfl | he'
     · exact absurd hk z.2
     · exact .inr (.inl (bJ.mpr ⟨e',he',hk⟩))
   · exact .inr (.inr q)
theorem WS.down {i l:Nat} {cs:List Nat} (w:WS P h0 n0 H st ρ τ (F1++⟨i,l,2,cs⟩ :: F2)):∃ H',WS P h0 n0 H' st ρ τ (F1++⟨i,l,1,[]⟩ :: F2)∧Stp P H st H' st:=by
 have he:(⟨i,l,2,cs⟩:En) ∈ F1++⟨i,l,2,cs⟩ :: F2:=List.mem_append_right _ (List.mem_cons_self ..)
 obtain ⟨a1,a2,a3⟩:=w.ent _ he
 obtain ⟨H',b1,b2,b3,b4,b5,b6⟩:=Ent.down w.wf a2
 obtain ⟨nv1,nv2⟩:=u3 w.nv
 have pB:∀ k,P k→k ∉ l :: cs:=fun k hk z=>a3 k z hk
 have cases':∀ {e'},e' ∈ F1++(⟨i,l,1,[]⟩:En) :: F2→e'=⟨i,l,1,[]⟩∨e' ∈ F1++F2:=fun h=>cW h
 have nd':(foot (F1++⟨i,l,1,[]⟩ :: F2)).Nodup:=by
   have nd:=w.nd
   rw [iI,g8] at nd ⊢
   obtain ⟨n1,n2,n3⟩:=List.nodup_append.mp nd
   obtain ⟨n4,n5,n6⟩:=List.nodup_append.mp n2
   refine List.nodup_append.mpr ⟨n1,List.nodup_append.mpr ⟨by simp [En.ft],n5,fun a ha b hb=>n6 a ?_ b hb⟩,fun a ha b hb=>n3 a ha b ?_⟩
   · have:a=l:=by simpa [En.ft] using ha
     subst this; exact List.mem_cons_self ..
   · rcases List.mem_append.mp hb with hb | hb
     · have:b=l:=by simpa [En.ft] using hb
       subst this; exact List.mem_append_left _ (List.mem_cons_self ..)
     · exact List.mem_append_right _ hb
 have nvv:((F1++(⟨i,l,1,[]⟩:En) :: F2).map (·.i)).Nodup:=by
   have:=w.nv
   rw [List.map_append,List.map_cons] at this ⊢
   exact this
 refine ⟨H',⟨w.len,fun j d q=>?_,b5,fun e' he'=>?_,nd',nvv,fun k z=>⟨(b3 k (pB k (w.bh k z).2)).1 (w.bh k z).1,(w.bh k z).2⟩,fun k z=>(b3 k (pB k (w.bh k (h0.sub k z)).2)).2 (w.bg k z),fun k z=>?_,fun k z=>?_,w.pl,w.nl⟩,⟨Nat.le_refl _,fun _ _=>rfl,fun _ _ _ h=>h,fun k _ z=>b1 k z,fun k _ z=>b2 k z⟩⟩
 · obtain ⟨u,e1,r,a⟩:=w.val j d q
   refine ⟨u,e1,r,fun hn=>(a fun e' he'=>?_).imp fun k _ z=>b1 k z⟩
   rcases cW he' with rfl | he'
   · exact hn ⟨i,l,1,[]⟩ (List.mem_append_right _ (List.mem_cons_self ..))
   · exact hn e' (mem_mid he')
 · rcases cases' he' with rfl | he'
   · exact ⟨a1,b6,fun k hk=>a3 k (by rw [En.ft,List.mem_singleton] at hk; subst hk; exact List.mem_cons_self ..)⟩
   · obtain ⟨c1,c2,c3⟩:=w.ent e' (mem_mid he')
     have ap:∀ k ∈ e'.l :: e'.cs,k ∉ l :: cs:=fun k hk z=>ji w.nd he' z hk
     exact ⟨c1,c2.hd fun k hk=>⟨(b3 k (ap k hk)).1,(b3 k (ap k hk)).2,b2 k,rfl⟩,c3⟩
 · rcases w.oh k (b1 k z) with q | q | q
   · exact .inl q
   · obtain ⟨e',he',hk⟩:=bJ.mp q
     rcases cW he' with rfl | he'
     · rcases List.mem_cons.mp hk with rfl | hk
       · exact .inr (.inl (bJ.mpr ⟨⟨i,k,1,[]⟩,List.mem_append_right _ (List.mem_cons_self ..),List.mem_cons_self ..⟩))
       · exact absurd z (b4 k hk)
     · exact .inr (.inl (bJ.mpr ⟨e',mem_mid he',hk⟩))
   · exact .inr (.inr q)
 · rcases w.og k (b2 k z) with q | q | q
   · exact .inl q
   · obtain ⟨e',he',hk⟩:=bJ.mp q
     rcases cW he' with rfl | he'
     · rcases List.mem_cons.mp hk with rfl | hk
       · exact .inr (.inl (bJ.mpr ⟨⟨i,k,1,[]⟩,List.mem_append_right _ (List.mem_cons_self ..),List.mem_cons_self ..⟩))
       · exact absurd (H'.sub k z) (b4 k hk)
     · exact .inr (.inl (bJ.mpr ⟨e',mem_mid he',hk⟩))
   · exact .inr (.inr q)
theorem WS.dns (g:Nat→Nat→Bool):∀ (F2 F1:List En) {H:Hd},WS P h0 n0 H st ρ τ (F1++F2)→∃ H' F',bf F'=dn g (bf F2)∧WS P h0 n0 H' st ρ τ (F1++F')∧Stp P H st H' st
 | [],F1,H,w=>⟨H,[],rfl,w,.refl⟩
 | e :: F2,F1,H,w=>by
   have step:∀ {e'},WS P h0 n0 H st ρ τ (F1++e' :: F2)→∀ {H0},Stp P H0 st H st→∃ H' F',bf F'=(e'.i,e'.lv) :: dn g (bf F2)∧WS P h0 n0 H' st ρ τ (F1++F')∧Stp P H0 st H' st:=fun {e'} w {H0} s0=>by
     rw [show F1++e' :: F2=(F1++[e'])++F2 by simp] at w
     obtain ⟨H',F',e1,w1,s1⟩:=WS.dns g F2 (F1++[e']) w
     exact ⟨H',e' :: F',by rw [← e1]; rfl,by rw [show F1++e' :: F'=(F1++[e'])++F' by simp]; exact w1,s0.trans s1⟩
   show ∃ H' F',bf F'=Sv.dn g ((e.i,e.lv) :: bf F2)∧_
   rw [Sv.dn]
   split
   · split
     · rename_i hz
       obtain ⟨i,l,lv,cs⟩:=e
       obtain ⟨hz,_⟩:=hz
       dsimp only at hz
       subst hz
       obtain ⟨H1,w1,s1⟩:=WS.down w
       have:∀ {e'},WS P h0 n0 H1 st ρ τ (F1++e' :: F2)→∃ H' F',bf F'=(e'.i,e'.lv) :: Sv.dn g (bf F2)∧WS P h0 n0 H' st ρ τ (F1++F')∧Stp P H st H' st:=fun {e'} w=>by
         rw [show F1++e' :: F2=(F1++[e'])++F2 by simp] at w
         obtain ⟨H',F',e1,w1,s2⟩:=WS.dns g F2 (F1++[e']) w
         exact ⟨H',e' :: F',by rw [← e1]; rfl,by rw [show F1++e' :: F'=(F1++[e'])++F' by simp]; exact w1,s1.trans s2⟩
       exact this w1
     · obtain ⟨H1,w1,s1⟩:=WS.drop w
       obtain ⟨H',F',e1,w2,s2⟩:=WS.dns g F2 F1 w1
       exact ⟨H',F',e1,w2,s1.trans s2⟩
   · exact step w .refl
theorem WS.dn0 (w:WS P h0 n0 H st ρ τ F) (g:Nat→Nat→Bool):∃ H' F',bf F'=Sv.dn g (bf F)∧WS P h0 n0 H' st ρ τ F'∧Stp P H st H' st:=WS.dns g F [] w
theorem ED:∀ (own:Own),Sv.dn (fun _ _=>true) own=[]
 | []=>rfl
 | (i,lv) :: r=>by rw [Sv.dn]; simp only [if_true,Bool.true_eq_false,and_false,if_false]; exact ED r
theorem FY {F:List En} (h:bf F=[]):F=[]:=by cases F; rfl; cases h
theorem WS.fin (w:WS P h0 n0 H st ρ τ F):∃ H',WS P h0 n0 H' st ρ τ []∧Stp P H st H' st:=by
 obtain ⟨H',F',e,w1,s1⟩:=w.dn0 fun _ _=>true
 rw [ED] at e
 have:=FY e
 subst this
 exact ⟨H',w1,s1⟩
theorem WS.out (w:WS P h0 n0 H st ρ τ []):Fin P h0 n0 st H st:=
 ⟨Nat.le_refl _,fun _ _=>rfl,w.wf,fun k z=>(w.bh k z).1,w.bg,fun k hk z=>(w.oh k z).elim id fun q=>q.elim (fun q=>nomatch q) fun q=>absurd hk (Nat.not_lt.mpr q),fun k hk z=>(w.og k z).elim id fun q=>q.elim (fun q=>nomatch q) fun q=>absurd hk (Nat.not_lt.mpr q)⟩
theorem BR {g:Nat→Nat→Bool}:∀ {own:Own} {i lv:Nat},(i,lv) ∈ Sv.dn g own→g i lv=false
 | [],_,_,h=>by cases h
 | (j,k) :: r,i,lv,h=>by
   rw [Sv.dn] at h
   split at h
   · split at h
     · rename_i hz
       rcases List.mem_cons.mp h with h | h
       · cases h; exact hz.2
       · exact BR h
     · exact BR h
   · rename_i hz
     rcases List.mem_cons.mp h with h | h
     · cases h; exact Bool.eq_false_iff.mpr hz
     · exact BR h
end
end Sv
namespace Sv
open PySem PySem.Spec L2
open Ev (D aL aT ag)
theorem get_set {α:Type} {xs:List (Option α)} {i j:Nat} {x y:α} (h:(xs.set i (some x))[j]?=some (some y)):(i=j∧y=x)∨(i ≠ j∧xs[j]?=some (some y)):=by
 by_cases z:i=j
 · subst z
   by_cases hl:i < xs.length
   · rw [List.getElem?_set_self hl] at h
     cases h
     exact .inl ⟨rfl,rfl⟩
   · rw [List.getElem?_eq_none (by rw [List.length_set]; omega)] at h; cases h
 · rw [List.getElem?_set_ne z] at h
   exact .inr ⟨z,h⟩
theorem get_none {α:Type} {xs:List (Option α)} {i j:Nat} {y:α} (h:(xs.set i none)[j]?=some (some y)):i ≠ j∧xs[j]?=some (some y):=by
 by_cases z:i=j
 · subst z
   by_cases hl:i < xs.length
   · rw [List.getElem?_set_self hl] at h; cases h
   · rw [List.getElem?_eq_none (by rw [List.length_set]; omega)] at h; cases h
 · rw [List.getElem?_set_ne z] at h
   exact ⟨z,h⟩
theorem nin {X:List Nat} {m k:Nat} (hm:m ∈ X) (hk:k ∉ X):m ≠ k:=fun z=>by subst z; exact hk hm
theorem nip {P:Nat→Prop} {m k:Nat} (hm:¬ P m) (hk:P k):m ≠ k:=fun z=>by subst z; exact hm hk
theorem aK.mk {st:Sto}:∀ {us:List U} {ds:List T},us.length=ds.length→(∀ (j:Nat) u d,us[j]?=some u→ds[j]?=some d→Rep st u d)→aK st us ds
 | [],[],_,_=>.nil
 | u :: us,d :: ds,hl,h=>.cons (h 0 u d rfl rfl) (aK.mk (by simpa using hl) fun j u' d' e1 e2=>h (j + 1) u' d' (by simpa using e1) (by simpa using e2))
 | [],_ :: _,hl,_=>by simp at hl
 | _ :: _,[],hl,_=>by simp at hl
section
variable {P:Nat→Prop} {h0 H:Hd} {n0:Nat} {st:Sto} {ρ:Env} {τ:ao} {F F1 F2:List En}
theorem WS.set (w:WS P h0 n0 H st ρ τ F) {i:Nat} {u:U} {d:T} (hi:∀ e ∈ F,e.i ≠ i) (p:PX 0 H st u d):WS P h0 n0 H st (ρ.set i (some u)) (τ.set i (some d)) F:=by
 refine ⟨by rw [List.length_set,List.length_set]; exact w.len,fun j e q=>?_,w.wf,fun e he=>?_,w.nd,w.nv,w.bh,w.bg,w.oh,w.og,w.pl,w.nl⟩
 · rcases get_set q with ⟨rfl,rfl⟩ | ⟨z,q⟩
   · refine ⟨u,List.getElem?_set_self ?_,p.1,fun _=>p.av⟩
     rw [w.len]
     have:=(List.getElem?_eq_some_iff.mp q).1
     rwa [List.length_set] at this
   · obtain ⟨v,e1,r⟩:=w.val j e q
     exact ⟨v,by rw [List.getElem?_set_ne z]; exact e1,r⟩
 · obtain ⟨a,b⟩:=w.ent e he
   exact ⟨by rw [List.getElem?_set_ne (Ne.symm (hi e he))]; exact a,b⟩
theorem WS.forget (w:WS P h0 n0 H st ρ τ F) (i:Nat):WS P h0 n0 H st ρ (τ.set i none) F:=
 ⟨by rw [List.length_set]; exact w.len,fun j e q=>w.val j e (get_none q).2,w.wf,w.ent,w.nd,w.nv,w.bh,w.bg,w.oh,w.og,w.pl,w.nl⟩
theorem WS.mz:∀ {is:List Nat} {us:List U} {ds:List T} {ρ:Env} {τ τ':ao},WS P h0 n0 H st ρ τ F→(∀ i ∈ is,∀ e ∈ F,e.i ≠ i)→PXs 0 H st us ds→sr is ds τ=some τ'→∃ ρ',mz is us ρ=some ρ'∧WS P h0 n0 H st ρ' τ' F
 | [],_,_,ρ,τ,τ',w,_,⟨.nil,_⟩,e=>by cases e; exact ⟨ρ,rfl,w⟩
 | [],_,_,ρ,τ,τ',w,_,⟨.cons _ _,_⟩,e=>by cases e
 | i :: is,_,_,ρ,τ,τ',w,_,⟨.nil,_⟩,e=>by cases e
 | i :: is,_,_,ρ,τ,τ',w,hi,⟨.cons (u:=u) (d:=d) (us:=us) r rs,a⟩,e=>by
   rw [sr] at e
   rw [Sv.mz]
   exact WS.mz (w.set (hi i (List.mem_cons_self ..)) ⟨r,a u (List.mem_cons_self ..)⟩) (fun j hj=>hi j (List.mem_cons_of_mem _ hj)) ⟨rs,fun v hv=>a v (List.mem_cons_of_mem _ hv)⟩ e
theorem WS.hR {t:Tg} {u:U} {d:T} {τ':ao} (w:WS P h0 n0 H st ρ τ F) (hi:∀ i ∈ tgN t,∀ e ∈ F,e.i ≠ i) (p:PX 0 H st u d) (e:aW t d τ=some τ'):∃ ρ',hR t u ρ=some ρ'∧WS P h0 n0 H st ρ' τ' F:=by
 cases t with
 | nm i=>
   cases e
   exact ⟨_,rfl,w.set (hi i (List.mem_singleton_self i)) p⟩
 | tp is=>
   cases d with
   | tup ds=>
     obtain ⟨us,rfl,p'⟩:=kL (k':=0) p
     exact w.mz hi p' e
   | _=>cases e
theorem qV {t:Tg} {own:Own} (h:bf F=Sv.dn (frg t) own):∀ i ∈ tgN t,∀ e ∈ F,e.i ≠ i:=fun i hi e he z=>by
 have:(e.i,e.lv) ∈ bf F:=List.mem_map.mpr ⟨e,he,rfl⟩
 rw [h] at this
 have:=BR this
 unfold frg at this
 rw [z,List.contains_iff_mem.mpr hi] at this
 cases this
theorem WS.take (w:WS P h0 n0 H st ρ τ F) {i lv:Nat} {u:U} {d:T} {H':Hd} {st':Sto} (hi:∀ e ∈ F,e.i ≠ i) (hl:i < τ.length) (g:Gr H st H' st') (f:FrN lv st H' st' u d) :
   ∃ l cs,u=.loc l∧WS P h0 n0 H' st' (ρ.set i (some u)) (τ.set i (some d)) (⟨i,l,lv,cs⟩ :: F)∧Stp P H st H' st':=by
 obtain ⟨w1,s1⟩:=w.gr g
 obtain ⟨r,l,cs,rfl,en,nl⟩:=f
 have hρ:i < ρ.length:=by rw [w.len]; exact hl
 refine ⟨l,cs,rfl,⟨by rw [List.length_set,List.length_set]; exact w.len,fun j e q=>?_,w1.wf,fun e he=>?_,?_,?_,w1.bh,w1.bg,fun k z=>(w1.oh k z).imp id (Or.imp (fun q=>?_) id),fun k z=>(w1.og k z).imp id (Or.imp (fun q=>?_) id),w1.pl,w1.nl⟩,s1⟩
 · rcases get_set q with ⟨rfl,rfl⟩ | ⟨z,q⟩
   · exact ⟨_,List.getElem?_set_self hρ,r,fun h=>absurd rfl (h ⟨i,l,lv,cs⟩ (List.mem_cons_self ..))⟩
   · obtain ⟨v,e1,r1,a1⟩:=w1.val j e q
     exact ⟨v,by rw [List.getElem?_set_ne z]; exact e1,r1,fun h=>a1 fun e he=>h e (List.mem_cons_of_mem _ he)⟩
 · rcases List.mem_cons.mp he with rfl | he
   · exact ⟨List.getElem?_set_self hρ,en,fun k hk z=>absurd (Nat.lt_of_lt_of_le (w.pl k z) w.nl) (Nat.not_lt.mpr (nl k hk))⟩
   · obtain ⟨a,b⟩:=w1.ent e he
     exact ⟨by rw [List.getElem?_set_ne (Ne.symm (hi e he))]; exact a,b⟩
 · rw [g8]
   refine List.nodup_append.mpr ⟨en.nd,w.nd,fun a ha b hb z=>?_⟩
   subst z
   obtain ⟨e,he,hk⟩:=bJ.mp hb
   exact absurd ((w.ent e he).2.1.lt a hk) (Nat.not_lt.mpr (nl a ha))
 · rw [List.map_cons]
   refine List.nodup_cons.mpr ⟨fun z=>?_,w.nv⟩
   obtain ⟨e,he,z⟩:=List.mem_map.mp z
   exact hi e he z
 · rw [g8]; exact List.mem_append_right _ q
 · rw [g8]; exact List.mem_append_right _ q
noncomputable def AK (H:Hd) (F:List En) (e:En):Hd:=⟨fun k=>k ∈ e.ft∨(H.g k∧∀ e' ∈ F,e'.l ≠ k),fun k=>(k ∈ e.ft∧H.g k)∨(H.g k∧∀ e' ∈ F,e'.l ≠ k),fun k z=>z.imp (·.1) id⟩
theorem WS.AK {e:En} (w:WS P h0 n0 H st ρ τ (F1++e :: F2)):Wf (AK H (F1++F2) e) st:=by
 have he:e ∈ F1++e :: F2:=List.mem_append_right _ (List.mem_cons_self ..)
 obtain ⟨a1,a2,a3⟩:=w.ent e he
 refine ⟨fun k fz us hk q u hu=>?_,fun k z=>z.elim (fun z=>a2.lt k z) fun z=>w.wf.lt k (H.sub k z.1)⟩
 by_cases hg:H.g k
 · have:∃ e' ∈ F1++F2,e'.l=k:=Classical.byContradiction fun z=>hk (.inr ⟨hg,fun e' he' z'=>z ⟨e',he',z'⟩⟩)
   obtain ⟨e',he',rfl⟩:=this
   obtain ⟨b1,b2,b3⟩:=w.ent e' (mem_mid he')
   have hz:e'.lv ≠ 1:=fun z=>(b2.one z).1 hg
   obtain ⟨_,_,c3,c4⟩:=b2.two hz
   rw [q] at c3
   cases c3
   obtain ⟨c,hc,rfl⟩:=List.mem_map.mp hu
   refine .loc (b2.lt c (List.mem_cons_of_mem _ hc)) fun z=>?_
   rcases z with z | z
   · exact ji w.nd he' z (List.mem_cons_of_mem _ hc)
   · exact (c4 c hc).2.1 z.1
 · refine (w.wf.av k fz us hg q u hu).imp fun l _ z=>?_
   rcases z with z | z
   · exact a2.hid l z
   · exact H.sub l z.1
theorem WS.nH {e:En} (w:WS P h0 n0 H st ρ τ (F1++e :: F2)) {st':Sto} (kp:∀ (k:Nat) c,k ∉ e.ft→st[k]?=some c→st'[k]?=some c) {i:Nat} {d:T} (hi:i ≠ e.i) (hd:τ[i]?=some (some d)) :
   ∃ u,ρ[i]?=some (some u)∧Rep st' u d∧((∀ e' ∈ F1++e :: F2,e'.i ≠ i)→Av H st.length u):=by
 obtain ⟨a1,a2,a3⟩:=w.ent e (List.mem_append_right _ (List.mem_cons_self ..))
 obtain ⟨u,e1,r,a⟩:=w.val i d hd
 refine ⟨u,e1,r.keep w.AK (fun k c hk q=>kp k c (fun z=>hk (.inl z)) q) fun k hk z=>?_,a⟩
 by_cases hx:∃ e' ∈ F1++F2,e'.i=i
 · obtain ⟨e',he',rfl⟩:=hx
   obtain ⟨b1,b2,b3⟩:=w.ent e' (mem_mid he')
   rw [e1] at b1
   have:u=.loc e'.l:=by simpa using b1
   subst this
   have:k=e'.l:=by simpa [locs] using hk
   subst this
   rcases z with z | z
   · exact ji w.nd he' z (List.mem_cons_self ..)
   · exact z.2 e' he' rfl
 · have av:=a fun e' he' q=>by
     rcases cW he' with rfl | he'
     · exact hi q.symm
     · exact hx ⟨e',he',q⟩
   rcases z with z | z
   · exact (av k hk).2 (a2.hid k z)
   · exact (av k hk).2 (H.sub k z.1)
theorem WS.GB {e:En} (w:WS P h0 n0 H st ρ τ (F1++e :: F2)) {st':Sto} (kp:∀ (k:Nat) c,k ∉ e.ft→st[k]?=some c→st'[k]?=some c) {us:List U} {ds:List T} (p:PXs 0 H st us ds):aK st' us ds:=by
 obtain ⟨a1,a2,a3⟩:=w.ent e (List.mem_append_right _ (List.mem_cons_self ..))
 refine p.1.keep w.AK (fun k c hk q=>kp k c (fun z=>hk (.inl z)) q) fun u hu k hk z=>?_
 have av:=(p.2 u hu).zero
 rcases z with z | z
 · exact (av k hk).2 (a2.hid k z)
 · exact (av k hk).2 (H.sub k z.1)
theorem WS.write {e:En} (w:WS P h0 n0 H st ρ τ (F1++e :: F2)) {m:Nat} {vs:List U} {d:T} (hm:m ∈ e.ft) (hv:∀ v ∈ vs,Av H st.length v) (hr:Rep (st.set m (false,vs)) (.loc e.l) d) (hE:Ent H (st.set m (false,vs)) e.l e.cs e.lv) :
   WS P h0 n0 H (st.set m (false,vs)) ρ (τ.set e.i (some d)) (F1++e :: F2)∧Stp P H st H (st.set m (false,vs)):=by
 have he:e ∈ F1++e :: F2:=List.mem_append_right _ (List.mem_cons_self ..)
 obtain ⟨a1,a2,a3⟩:=w.ent e he
 have hml:=a2.lt m hm
 have kp:∀ (k:Nat) c,k ∉ e.ft→st[k]?=some c→(st.set m (false,vs))[k]?=some c:=fun k c hk q=>by
   rw [List.getElem?_set_ne (nin hm hk)]; exact q
 refine ⟨⟨by rw [List.length_set]; exact w.len,fun i d' q=>?_,⟨fun k fz us hk q u hu=>?_,fun k z=>by rw [List.length_set]; exact w.wf.lt k z⟩,fun e' he'=>?_,w.nd,w.nv,w.bh,w.bg,w.oh,w.og,w.pl,by rw [List.length_set]; exact w.nl⟩,⟨by rw [List.length_set]; exact Nat.le_refl _,fun k hk=>List.getElem?_set_ne (nip (a3 m hm) hk),fun k c hn q=>?_,fun _ _ z=>z,fun _ _ z=>z⟩⟩
 · rcases get_set q with ⟨rfl,rfl⟩ | ⟨z,q⟩
   · exact ⟨_,a1,hr,fun h=>absurd rfl (h e he)⟩
   · obtain ⟨u,e1,r,a⟩:=w.nH kp (Ne.symm z) q
     exact ⟨u,e1,r,fun h=>by rw [List.length_set]; exact a h⟩
 · rw [List.length_set]
   by_cases z:k=m
   · subst z
     rw [List.getElem?_set_self hml] at q
     cases q
     exact hv u hu
   · rw [List.getElem?_set_ne (Ne.symm z)] at q
     exact w.wf.av k fz us hk q u hu
 · rcases cW he' with rfl | he'
   · exact ⟨a1,hE,a3⟩
   · obtain ⟨b1,b2,b3⟩:=w.ent e' (mem_mid he')
     exact ⟨b1,b2.hd fun k hk=>⟨fun z=>z,fun z=>z,fun z=>z,List.getElem?_set_ne (fun z=>ji w.nd he' hm (by rw [z]; exact hk))⟩,b3⟩
 · exact kp k c (fun z=>hn (a2.hid k z)) q
theorem WS.KR {i l:Nat} (w:WS P h0 n0 H st ρ τ (F1++⟨i,l,1,[]⟩ :: F2)) {vs:List U} {ds:List T} (p:PXs 0 H st vs ds) :
   WS P h0 n0 H (st.set l (false,vs)) ρ (τ.set i (some (.lst ds))) (F1++⟨i,l,1,[]⟩ :: F2)∧Stp P H st H (st.set l (false,vs)):=by
 obtain ⟨a1,a2,a3⟩:=w.ent _ (List.mem_append_right _ (List.mem_cons_self ..))
 have hl:l < st.length:=a2.lt l (List.mem_cons_self ..)
 have kp:∀ (k:Nat) c,k ∉ (⟨i,l,1,[]⟩:En).ft→st[k]?=some c→(st.set l (false,vs))[k]?=some c:=fun k c hk q=>by
   rw [List.getElem?_set_ne (nin (List.mem_cons_self ..) hk)]; exact q
 refine WS.write (e:=⟨i,l,1,[]⟩) w (List.mem_cons_self ..) (fun v hv=>(p.2 v hv).zero) (.loc (List.getElem?_set_self hl) (w.GB kp p)) ⟨a2.hl,fun z=>⟨(a2.one z).1,rfl,vs,List.getElem?_set_self hl⟩,fun z=>absurd rfl z,a2.nd⟩
theorem WS.Pe {i l q c:Nat} {cs:List Nat} (w:WS P h0 n0 H st ρ τ (F1++⟨i,l,2,cs⟩ :: F2)) {vs:List U} {xs ds:List T} (hx:τ[i]?=some (some (.lst xs))) (hc:cs[q]?=some c) (p:PXs 0 H st vs ds) :
   WS P h0 n0 H (st.set c (false,vs)) ρ (τ.set i (some (.lst (xs.set q (.lst ds))))) (F1++⟨i,l,2,cs⟩ :: F2)∧Stp P H st H (st.set c (false,vs)):=by
 obtain ⟨a1,a2,a3⟩:=w.ent _ (List.mem_append_right _ (List.mem_cons_self ..))
 obtain ⟨_,gl,e1,e2⟩:=a2.two (show (2:Nat) ≠ 1 by decide)
 have hcm:c ∈ cs:=List.mem_of_getElem? hc
 have hl:c < st.length:=a2.lt c (List.mem_cons_of_mem _ hcm)
 have ncl:c ≠ l:=fun z=>(List.nodup_cons.mp a2.nd).1 (z ▸ hcm)
 have ndc:=(List.nodup_cons.mp a2.nd).2
 have kp:∀ (k:Nat) c',k ∉ (⟨i,l,2,cs⟩:En).ft→st[k]?=some c'→(st.set c (false,vs))[k]?=some c':=fun k c' hk q=>by
   rw [List.getElem?_set_ne (nin (List.mem_cons_of_mem _ hcm) hk)]; exact q
 have cl:(st.set c (false,vs))[l]?=some (false,cs.map .loc):=by rw [List.getElem?_set_ne ncl]; exact e1
 obtain ⟨u,f1,f2,_⟩:=w.val i _ hx
 rw [a1] at f1
 have:u=.loc l:=by simpa using f1.symm
 subst this
 have r0:aK st (cs.map .loc) xs:=by
   cases f2 with
   | loc e r=>rw [e1] at e; cases e; exact r
 have key:aK (st.set c (false,vs)) (cs.map .loc) (xs.set q (.lst ds)):=by
   refine aK.mk (by rw [List.length_set]; exact r0.length) fun j u d g1 g2=>?_
   rw [List.getElem?_map] at g1
   obtain ⟨c',g3,rfl⟩:=Option.map_eq_some_iff.mp g1
   by_cases hj:j=q
   · subst hj
     rw [hc] at g3; cases g3
     have hjl:j < xs.length:=by
       have:=(List.getElem?_eq_some_iff.mp g2).1
       rwa [List.length_set] at this
     rw [List.getElem?_set_self hjl] at g2
     cases g2
     exact .loc (List.getElem?_set_self hl) (w.GB kp p)
   · rw [List.getElem?_set_ne (Ne.symm hj)] at g2
     obtain ⟨u,g4,g5⟩:=r0.get g2
     rw [List.getElem?_map,g3] at g4
     cases g4
     have ncc:c ≠ c':=fun z=>hj (by
       subst z
       obtain ⟨h1,h2⟩:=List.getElem?_eq_some_iff.mp g3
       obtain ⟨h3,h4⟩:=List.getElem?_eq_some_iff.mp hc
       exact (List.getElem_inj ndc).mp (h2.trans h4.symm))
     obtain ⟨b1,b2,ws,b3⟩:=e2 c' (List.mem_of_getElem? g3)
     cases g5 with
     | loc e r=>
       rw [b3] at e; cases e
       exact .loc (by rw [List.getElem?_set_ne ncc]; exact b3) (w.GB kp ⟨r,fun u hu=>.inl (w.wf.av _ _ _ b2 b3 u hu)⟩)
 refine WS.write (e:=⟨i,l,2,cs⟩) w (List.mem_cons_of_mem _ hcm) (fun v hv=>(p.2 v hv).zero) (.loc cl key) ⟨a2.hl,(fun z=>by cases z),fun _=>⟨rfl,gl,cl,fun k hk=>?_⟩,a2.nd⟩
 obtain ⟨b1,b2,ws,b3⟩:=e2 k hk
 refine ⟨b1,b2,?_⟩
 by_cases z:k=c
 · subst z; exact ⟨vs,List.getElem?_set_self hl⟩
 · exact ⟨ws,by rw [List.getElem?_set_ne (Ne.symm z)]; exact b3⟩
theorem jO:∀ {F:List En} {i:Nat},0 < cJ (bf F) i→∃ F1 e F2,F=F1++e :: F2∧e.i=i∧e.lv=cJ (bf F) i
 | [],i,h=>by simp [cJ,bf] at h
 | e :: F,i,h=>by
   by_cases z:i=e.i
   · subst z
     exact ⟨[],e,F,rfl,rfl,by simp [cJ,bf,List.lookup_cons]⟩
   · have e1:cJ (bf (e :: F)) i=cJ (bf F) i:=by
       have:(i == e.i)=false:=beq_eq_false_iff_ne.mpr z
       simp [cJ,bf,List.lookup_cons,this]
     rw [e1] at h ⊢
     obtain ⟨F1,e',F2,rfl,h2,h3⟩:=jO h
     exact ⟨e :: F1,e',F2,rfl,h2,h3⟩
end
end Sv
namespace Sv
open PySem PySem.Spec L2
open Ev (D aL aT ag)
structure GrM (X:Nat→Prop) (h:Hd) (st:Sto) (h':Hd) (st':Sto):Prop where
 len:st.length≤st'.length
 keep:∀ k,k < st.length→¬ X k→st'[k]?=st[k]?
 hm:∀ k,h.h k→¬ X k→h'.h k
 gm:∀ k,h.g k→¬ X k→h'.g k
 hn:∀ k,k < st.length→h'.h k→h.h k∧¬ X k
 gn:∀ k,k < st.length→h'.g k→h.g k∧¬ X k
 wf:Wf h' st'
noncomputable def GdM {α β:Type} (X:Nat→Prop) (h:Hd) (st:Sto) (P:Hd→Sto→α→β→Prop) (x:Rs α):Ou β→Prop
 | .bad=>True
 | .ok d=>∃ u st' h',x=.ok u st'∧GrM X h st h' st'∧P h' st' u d
 | .exc c=>∃ st' h',x=.exc c st'∧GrM X h st h' st'
noncomputable def oY (md:Md) (F:List U→Sto→Rs U) (G:List T→Ou T):Prop:=
 0 < md.mv→md.lv=0∧∀ h st l cs us x ds,Wf h st→Ent h st l cs md.mv→Rep st (.loc l) x→PXs 0 h st us ds→GdM (fun k=>k ∈ l :: cs) h st (PX 0) (F (.loc l :: us) st) (G (x :: ds))
section
variable {P:Nat→Prop} {h0 H:Hd} {n0:Nat} {st:Sto} {ρ:Env} {τ:ao} {F F1 F2:List En}
theorem WS.moved {e:En} (w:WS P h0 n0 H st ρ τ (F1++e :: F2)) {H':Hd} {st':Sto} (g:GrM (fun k=>k ∈ e.ft) H st H' st'):WS P h0 n0 H' st' ρ (τ.set e.i none) (F1++F2)∧Stp P H st H' st':=by
 have he:e ∈ F1++e :: F2:=List.mem_append_right _ (List.mem_cons_self ..)
 obtain ⟨a1,a2,a3⟩:=w.ent e he
 obtain ⟨nv1,nv2⟩:=u3 w.nv
 have kp:∀ (k:Nat) c,k ∉ e.ft→st[k]?=some c→st'[k]?=some c:=fun k c hk q=>(g.keep k (List.getElem?_eq_some_iff.mp q).1 hk).trans q
 have pk:∀ k,P k→k ∉ e.ft:=fun k hk z=>a3 k z hk
 have ft:∀ k,k ∈ foot (F1++e :: F2)→k ∉ e.ft→k ∈ foot (F1++F2):=fun k hk hn=>by
   obtain ⟨e',he',hk'⟩:=bJ.mp hk
   rcases cW he' with rfl | he''
   · exact absurd hk' hn
   · exact bJ.mpr ⟨e',he'',hk'⟩
 refine ⟨⟨by rw [List.length_set]; exact w.len,fun i d q=>?_,g.wf,fun e' he'=>?_,CW w.nd,nv1,fun k z=>⟨g.hm k (w.bh k z).1 (pk k (w.bh k z).2),(w.bh k z).2⟩,fun k z=>g.gm k (w.bg k z) (pk k (w.bh k (h0.sub k z)).2),fun k z=>?_,fun k z=>?_,w.pl,Nat.le_trans w.nl g.len⟩,
   ⟨g.len,fun k hk=>g.keep k (Nat.lt_of_lt_of_le (w.pl k hk) w.nl) (pk k hk),fun k c hn q=>kp k c (fun z=>hn (a2.hid k z)) q,fun k hk z=>(g.hn k hk z).1,fun k hk z=>(g.gn k hk z).1⟩⟩
 · obtain ⟨ne,q⟩:=get_none q
   obtain ⟨u,e1,r,a⟩:=w.nH kp (Ne.symm ne) q
   refine ⟨u,e1,r,fun hn l hl=>?_⟩
   have av:=a fun e' he'=>by
     rcases cW he' with rfl | he'
     · exact ne
     · exact hn e' he'
   exact ⟨Nat.lt_of_lt_of_le (av l hl).1 g.len,fun z=>(av l hl).2 (g.hn l (av l hl).1 z).1⟩
 · obtain ⟨b1,b2,b3⟩:=w.ent e' (mem_mid he')
   have ap:∀ k ∈ e'.l :: e'.cs,k ∉ e.ft:=fun k hk z=>ji w.nd he' z hk
   exact ⟨b1,b2.hd fun k hk=>⟨fun z=>g.hm k z (ap k hk),fun z=>g.gm k z (ap k hk),fun z=>(g.gn k (b2.lt k hk) z).1,g.keep k (b2.lt k hk) (ap k hk)⟩,b3⟩
 · rcases Nat.lt_or_ge k st.length with q | q
   · obtain ⟨z1,z2⟩:=g.hn k q z
     exact (w.oh k z1).imp id (Or.imp (fun z=>ft k z z2) id)
   · exact .inr (.inr (Nat.le_trans w.nl q))
 · rcases Nat.lt_or_ge k st.length with q | q
   · obtain ⟨z1,z2⟩:=g.gn k q z
     exact (w.og k z1).imp id (Or.imp (fun z=>ft k z z2) id)
   · exact .inr (.inr (Nat.le_trans w.nl q))
end
theorem yZ (g:Nat→Nat→Bool):∀ (a b:Own),dn g (a++b)=dn g a++dn g b
 | [],b=>rfl
 | (i,lv) :: r,b=>by
   rw [List.cons_append,dn,dn,yZ g r b]
   split
   · split <;> rfl
   · rfl
theorem wV {g:Nat→Nat→Bool}:∀ {own:Own},(∀ i lv,(i,lv) ∈ own→g i lv=false)→dn g own=own
 | [],_=>rfl
 | (i,lv) :: r,h=>by
   rw [dn,h i lv (List.mem_cons_self ..),wV fun j k hj=>h j k (List.mem_cons_of_mem _ hj)]; rfl
theorem mL (F G:List En):bf (F++G)=bf F++bf G:=List.map_append
theorem wZ {F1 F2:List En} {e:En} (nv:((F1++e :: F2).map (·.i)).Nodup):(∀ i lv,(i,lv) ∈ bf F1→i ≠ e.i)∧∀ i lv,(i,lv) ∈ bf F2→i ≠ e.i:=by
 have h:=(u3 nv).2
 refine ⟨fun i lv hi=>?_,fun i lv hi=>?_⟩ <;> (obtain ⟨e',he',z⟩:=List.mem_map.mp hi; cases z)
 · exact h e' (List.mem_append_left _ he')
 · exact h e' (List.mem_append_right _ he')
theorem Dn {F1 F2:List En} {e:En} (nv:((F1++e :: F2).map (·.i)).Nodup):dn (fun i _=>i == e.i) (bf (F1++e :: F2))=bf (F1++F2):=by
 obtain ⟨h1,h2⟩:=wZ nv
 rw [mL,mL,yZ,wV fun i lv hi=>beq_eq_false_iff_ne.mpr (h1 i lv hi)]
 show _++dn _ ((e.i,e.lv) :: bf F2)=_
 rw [dn,if_pos (by simp),if_neg (by simp),wV fun i lv hi=>beq_eq_false_iff_ne.mpr (h2 i lv hi)]
theorem rk {F1 F2:List En} {e:En} (nv:((F1++e :: F2).map (·.i)).Nodup) (hl:e.lv=1∨e.lv=2):dn (fun i lv=>i == e.i && lv == 2) (bf (F1++e :: F2))=bf (F1++⟨e.i,e.l,1,[]⟩ :: F2):=by
 obtain ⟨h1,h2⟩:=wZ nv
 rw [mL,mL,yZ,wV fun i lv hi=>by rw [beq_eq_false_iff_ne.mpr (h1 i lv hi)]; rfl]
 show _++dn _ ((e.i,e.lv) :: bf F2)=_++((e.i,1) :: bf F2)
 have h3:dn (fun i lv=>i == e.i && lv == 2) (bf F2)=bf F2:=wV fun i lv hi=>by rw [beq_eq_false_iff_ne.mpr (h2 i lv hi)]; rfl
 rcases hl with z | z
 · rw [dn,z,if_neg (by simp),h3]
 · rw [dn,z,if_pos (by simp),if_pos ⟨rfl,by simp⟩,h3]
theorem vk {t:Tg}:∀ {own:Own} {p:Nat × Nat},p ∈ dn (frg t) own→p ∈ own
 | [],_,h=>by cases h
 | (i,lv) :: r,p,h=>by
   rw [dn] at h
   split at h
   · rename_i hz
     rw [if_neg (fun z=>by have:=z.2; unfold frg at this hz; rw [hz] at this; cases this)] at h
     exact List.mem_cons_of_mem _ (vk h)
   · rcases List.mem_cons.mp h with h | h
     · exact h ▸ List.mem_cons_self ..
     · exact List.mem_cons_of_mem _ (vk h)
section
variable {P:Nat→Prop} {h0 H:Hd} {n0:Nat} {st:Sto} {ρ:Env} {τ:ao} {F F1 F2:List En}
theorem WS.su (w:WS P h0 n0 H st ρ τ F) {e:En} (he:e ∈ F):e.lv=1∨e.lv=2:=by
 by_cases z:e.lv=1
 · exact .inl z
 · exact .inr ((w.ent e he).2.1.two z).1
theorem WS.to1 {e:En} (w:WS P h0 n0 H st ρ τ (F1++e :: F2)):∃ H',WS P h0 n0 H' st ρ τ (F1++⟨e.i,e.l,1,[]⟩ :: F2)∧Stp P H st H' st:=by
 have he:e ∈ F1++e :: F2:=List.mem_append_right _ (List.mem_cons_self ..)
 rcases w.su he with z | z
 · obtain ⟨i,l,lv,cs⟩:=e
   dsimp only at z
   subst z
   obtain ⟨_,rfl,_⟩:=(w.ent _ he).2.1.one rfl
   exact ⟨H,w,.refl⟩
 · obtain ⟨i,l,lv,cs⟩:=e
   dsimp only at z
   subst z
   exact WS.down w
theorem WS.own (w:WS P h0 n0 H st ρ τ (F1++⟨v,l,lv,cs⟩ :: F2)) {xs:List T} (hx:τ[v]?=some (some (.lst xs))):ρ[v]?=some (some (.loc l))∧Rep st (.loc l) (.lst xs)∧Ent H st l cs lv:=by
 obtain ⟨a1,a2,_⟩:=w.ent _ (List.mem_append_right _ (List.mem_cons_self ..))
 obtain ⟨u,e1,r,_⟩:=w.val v _ hx
 rw [a1] at e1
 have:u=.loc l:=by simpa using e1.symm
 subst this
 exact ⟨a1,r,a2⟩
end
theorem ik {st:Sto} {l:Nat} {us:List U} {ds:List T} (r:Rep st (.loc l) (.lst ds)) (e:st[l]?=some (false,us)):aK st us ds:=by
 cases r with
 | loc e' r=>rw [e] at e'; cases e'; exact r
theorem AV {α:Type}:∀ {xs:List α} {n:Nat} {a x:α},x ∈ xs.insertIdx n a→x=a∨x ∈ xs
 | xs,0,a,x,h=>by rw [List.insertIdx_zero] at h; exact List.mem_cons.mp h
 | [],n + 1,a,x,h=>by simp at h
 | y :: ys,n + 1,a,x,h=>by
   rw [List.insertIdx_succ_cons] at h
   rcases List.mem_cons.mp h with h | h
   · exact .inr (h ▸ List.mem_cons_self ..)
   · exact (AV h).imp id (List.mem_cons_of_mem _)
theorem MQ {h:Hd} {st:Sto} {l:Nat} {us vs:List U} {xs ds:List T} {m:Lm} {ys:List T} (e:st[l]?=some (false,us)) (p:PXs 0 h st us xs) (q:PXs 0 h st vs ds) (hz:zM m xs ds=some ys) :
   ∃ ws,evM m (.loc l) vs st=some (st.set l (false,ws))∧PXs 0 h st ws ys:=by
 have hlen:=p.1.length
 have hd:=q.1.length
 cases m with
 | append=>
   match ds,vs,q,hz with
   | [x],[v],q,hz=>
     simp only [zM.eq_def] at hz
     split at hz
     · rename_i hl
       cases hz
       exact ⟨us++[v],by simp only [evM.eq_def,e,hlen,if_pos hl],p.append q⟩
     · cases hz
   | [],_,_,hz=>simp [zM.eq_def] at hz
   | _ :: _ :: _,_,_,hz=>simp [zM.eq_def] at hz
 | extend=>match ds,hz with
   | [],hz=>simp [zM.eq_def] at hz
   | _ :: _,hz=>simp [zM.eq_def] at hz
 | rot=>
   match ds,q,hz with
   | [],_,hz=>simp [zM.eq_def] at hz
   | [a],_,hz=>cases a <;> simp [zM.eq_def] at hz
   | a :: b :: _ :: _,_,hz=>cases a <;> first | (simp [zM.eq_def] at hz; done) | (cases b <;> simp [zM.eq_def] at hz)
   | [a,b],⟨.cons (u:=w1) r1 (.cons (u:=w2) r2 .nil),hq⟩,hz=>
     cases a with
     | int i=>
       cases b with
       | int j=>
         have:=r1.int_inv; subst this
         have:=r2.int_inv; subst this
         simp only [zM.eq_def] at hz
         split at hz
         · rename_i hl
           obtain ⟨x,e1,rfl⟩:=Option.map_eq_some_iff.mp hz
           obtain ⟨u,e2,ru⟩:=p.1.get e1
           refine ⟨(us.eraseIdx j.toNat).insertIdx i.toNat u,by simp only [evM.eq_def,e,hlen,if_pos hl,e2,Option.map_some],(p.1.erase _).insert _ ru,fun v hv=>?_⟩
           rcases AV hv with rfl | hv
           · exact p.2 _ (List.mem_of_getElem? e2)
           · exact p.2 v (List.mem_of_mem_eraseIdx hv)
         · cases hz
       | _=>simp [zM.eq_def] at hz
     | _=>simp [zM.eq_def] at hz
noncomputable def RF (P:Nat→Prop) (h0:Hd) (S0:Sto) (lv:Nat) (H:Hd) (st:Sto):FlT→Fl→Sto→Prop
 | .nx τ' own',.nx ρ',st'=>∃ H' F',bf F'=own'∧WS P h0 S0.length H' st' ρ' τ' F'∧Stp P H st H' st'
 | .rt d,.rt u,st'=>∃ H',Fin P h0 S0.length st H' st'∧FrR lv S0 H' st' u d
 | _,_,_=>False
noncomputable def GS (P:Nat→Prop) (h0:Hd) (S0:Sto) (lv:Nat) (H:Hd) (st:Sto) (x:Rs Fl):Ou FlT→Prop
 | .bad=>True
 | .exc c=>∃ st' H',x=.exc c st'∧Fin P h0 S0.length st H' st'
 | .ok f=>∃ f' st',x=.ok f' st'∧RF P h0 S0 lv H st f f' st'
section
variable {P:Nat→Prop} {h0 H H1:Hd} {S0:Sto} {lv:Nat} {st st1:Sto}
theorem Fin.back {n0:Nat} {H2:Hd} {st2:Sto} (s:Stp P H st H1 st1) (o:Fin P h0 n0 st1 H2 st2):Fin P h0 n0 st H2 st2:=⟨Nat.le_trans s.len o.len,fun k hk=>(o.lo k hk).trans (s.lo k hk),o.wf,o.hm,o.gm,o.hn,o.gn⟩
theorem RF.back {f:FlT} {f':Fl} {st2:Sto} (s:Stp P H st H1 st1) (o:RF P h0 S0 lv H1 st1 f f' st2):RF P h0 S0 lv H st f f' st2:=by
 cases f <;> cases f' <;> first
   | (obtain ⟨H',F',a,b,c⟩:=o; exact ⟨H',F',a,b,s.trans c⟩)
   | (obtain ⟨H',a,b⟩:=o; exact ⟨H',a.back s,b⟩)
   | exact o.elim
theorem GS.back {x:Rs Fl} {r:Ou FlT} (s:Stp P H st H1 st1) (g:GS P h0 S0 lv H1 st1 x r):GS P h0 S0 lv H st x r:=by
 cases r with
 | bad=>trivial
 | exc c=>obtain ⟨st',H',e,o⟩:=g; exact ⟨st',H',e,o.back s⟩
 | ok f=>obtain ⟨f',st',e,o⟩:=g; exact ⟨f',st',e,o.back s⟩
theorem iL {α β:Type} {Q:Hd→Sto→α→β→Prop} {x:Rs α} {r:Ou β} {f:α→Sto→Rs Fl} {k:β→Ou FlT} {ρ:Env} {τ:ao} {F:List En} (w:WS P h0 S0.length H st ρ τ F) (g:Gd H st Q x r)
   (n:∀ u d st' H',Gr H st H' st'→WS P h0 S0.length H' st' ρ τ F→Q H' st' u d→GS P h0 S0 lv H' st' (f u st') (k d)):GS P h0 S0 lv H st (x.bind f) (r.bind k):=by
 cases r with
 | bad=>trivial
 | exc c=>
   obtain ⟨st',H',e,p⟩:=g
   subst e
   obtain ⟨w1,s1⟩:=w.gr p
   obtain ⟨H2,w2,s2⟩:=w1.fin
   exact ⟨st',H2,rfl,(w2.out.back s2).back s1⟩
 | ok d=>
   obtain ⟨u,st',H',e,p,q⟩:=g
   subst e
   obtain ⟨w1,s1⟩:=w.gr p
   exact (n u d st' H' p w1 q).back s1
theorem zX {x:Rs Fl} {r:Ou FlT} {f:Fl→Sto→Rs Fl} {k:FlT→Ou FlT} (g:GS P h0 S0 lv H st x r) (n:∀ fl fl' st',RF P h0 S0 lv H st fl fl' st'→GS P h0 S0 lv H st (f fl' st') (k fl)):GS P h0 S0 lv H st (x.bind f) (r.bind k):=by
 cases r with
 | bad=>trivial
 | exc c=>obtain ⟨st',H',e,o⟩:=g; subst e; exact ⟨st',H',rfl,o⟩
 | ok fl=>
   obtain ⟨fl',st',e,o⟩:=g
   subst e
   exact n fl fl' st' o
theorem GS.noX {x:Rs Fl} {r:Ou FlT} (g:GS P h0 S0 lv H st x r):GS P h0 S0 lv H st x.noX r.noX:=by
 cases r with
 | bad=>trivial
 | exc c=>trivial
 | ok d=>obtain ⟨u,st',e,q⟩:=g; subst e; exact ⟨u,st',rfl,q⟩
theorem fb {α:Type} {x:Rs Fl} {o:Option α} {k:α→Ou FlT} (n:∀ a,o=some a→GS P h0 S0 lv H st x (k a)):GS P h0 S0 lv H st x (gB o k):=by
 cases o with
 | none=>trivial
 | some a=>exact n a rfl
theorem Hk {q:Sq} {xs:List T} (wf:Wf H st) (s:Stp P H st H1 st1) (hn:SqN H q) (hq:SqR H st q xs):SqN H1 q∧SqR H1 st1 q xs:=by
 induction q generalizing xs with
 | vals us=>
   refine ⟨trivial,hq.1.keep wf s.keep fun u hu l hl=>((hq.2 u hu).zero l hl).2,fun u hu=>.inl fun l hl=>?_⟩
   have:=(hq.2 u hu).zero l hl
   exact ⟨Nat.lt_of_lt_of_le this.1 s.len,fun z=>this.2 (s.hid l this.1 z)⟩
 | lst l=>
   obtain ⟨ng,fz,us,e,r⟩:=hq
   have hl:=(List.getElem?_eq_some_iff.mp e).1
   exact ⟨fun z=>hn (s.hid l hl z),fun z=>ng (s.gid l hl z),fz,us,s.keep l _ hn e,r.keep wf s.keep fun u hu l hl=>(wf.av _ _ _ ng e u hu l hl).2⟩
 | enu l=>
   obtain ⟨ng,fz,us,ys,e,r,rfl⟩:=hq
   have hl:=(List.getElem?_eq_some_iff.mp e).1
   exact ⟨fun z=>hn (s.hid l hl z),fun z=>ng (s.gid l hl z),fz,us,ys,s.keep l _ hn e,r.keep wf s.keep fun u hu l hl=>(wf.av _ _ _ ng e u hu l hl).2,rfl⟩
 | zip p q ihp ihq=>
   obtain ⟨as,bs,s1,s2,rfl⟩:=hq
   obtain ⟨a1,a2⟩:=ihp hn.1 s1
   obtain ⟨b1,b2⟩:=ihq hn.2 s2
   exact ⟨⟨a1,b1⟩,as,bs,a2,b2,rfl⟩
end
theorem vJ {P:Nat→Prop} {h0:Hd} {S0:Sto} {lv:Nat} {f:U→Env→Sto→Rs Fl} {g:T→ao→Own→Ou FlT} {q:Sq} {xs:List T}
   (hf:∀ x u st H ρ τ F,WS P h0 S0.length H st ρ τ F→PX 0 H st u x→GS P h0 S0 lv H st (f u ρ st) (g x τ (bf F))) :
   ∀ (n i:Nat) (st:Sto) (H:Hd) (ρ:Env) (τ:ao) (F:List En),WS P h0 S0.length H st ρ τ F→SqN H q→SqR H st q xs→i≤xs.length→i + n=xs.length + 1→GS P h0 S0 lv H st (loop f q n i ρ st) (bN g (xs.drop i) τ (bf F))
 | 0,i,st,H,ρ,τ,F,_,_,_,hi,e=>by omega
 | n + 1,i,st,H,ρ,τ,F,w,hn,hq,hi,e=>by
   rw [loop]
   rcases hq.at w.wf i with ⟨e1,e2⟩ | ⟨x,u,e1,e2,px⟩
   · rw [e2]
     dsimp only
     rw [List.drop_eq_nil_of_le (List.getElem?_eq_none_iff.mp e1),bN]
     exact ⟨_,_,rfl,H,F,rfl,w,.refl⟩
   · rw [e2]
     dsimp only
     have hl:=(List.getElem?_eq_some_iff.mp e1).1
     have e3:xs.drop i=x :: xs.drop (i + 1):=by
       rw [List.drop_eq_getElem_cons hl]
       rw [(List.getElem?_eq_some_iff.mp e1).2]
     rw [e3,bN]
     refine zX (hf x u st H ρ τ F w px) fun fl fl' st' o=>?_
     cases fl <;> cases fl' <;> first | exact o.elim | skip
     · obtain ⟨H1,F1,rfl,w1,s1⟩:=o
       obtain ⟨hn1,hq1⟩:=Hk w.wf s1 hn hq
       exact (vJ hf n (i + 1) st' _ _ _ _ w1 hn1 hq1 hl (by omega)).back s1
     · exact ⟨_,_,rfl,o⟩
theorem uh {P:Nat→Prop} {h0:Hd} {S0:Sto} {lv:Nat} {c:Env→Sto→Rs U} {c':ao→Ou T} {f:Env→Sto→Rs Fl} {g:ao→Own→Ou FlT} {k:Nat→Nat→Bool}
   (hc:∀ st H ρ τ F,WS P h0 S0.length H st ρ τ F→(∀ i lv,(i,lv) ∈ bf F→k i lv=false)→Gd H st (PX 2) (c ρ st) (c' τ))
   (hf:∀ st H ρ τ F,WS P h0 S0.length H st ρ τ F→GS P h0 S0 lv H st (f ρ st) (g τ (bf F))) :
   ∀ (n:Nat) (st:Sto) (H:Hd) (ρ:Env) (τ:ao) (F:List En),WS P h0 S0.length H st ρ τ F→GS P h0 S0 lv H st (qC c f n ρ st) (i3 c' k g n τ (bf F))
 | 0,_,_,_,_,_,_=>trivial
 | n + 1,st,H,ρ,τ,F,w=>by
   rw [qC,i3]
   obtain ⟨H0,F0,e0,w0,s0⟩:=w.dn0 k
   rw [← e0]
   refine (iL w0 (hc st H0 ρ τ F0 w0 fun i lv hi=>BR (by rw [← e0]; exact hi)) fun u d st1 H1 g1 w1 hu=>?_).back s0
   cases d with
   | bl r=>
     have:=hu.1.jH; subst this
     cases r with
     | false=>exact ⟨_,_,rfl,H1,F0,rfl,w1,.refl⟩
     | true=>
       dsimp only
       refine zX (hf st1 H1 ρ τ _ w1) fun fl fl' st' o=>?_
       cases fl <;> cases fl' <;> first | exact o.elim | skip
       · obtain ⟨H2,F2,rfl,w2,s2⟩:=o
         exact (uh hc hf n st' _ _ _ _ w2).back s2
       · exact ⟨_,_,rfl,o⟩
   | _=>trivial
end Sv
namespace Sv
open PySem PySem.Spec L2
open Ev (D aL aT ag)
theorem HX {x:T} (h:1≤lvT x):∃ ds,x=.lst ds:=by
 cases x with
 | lst ds=>exact ⟨ds,rfl⟩
 | _=>simp [lvT] at h
theorem AW {ds:List T} (h:2≤lvT (.lst ds)):ds.all isL=true:=by
 simp only [lvT] at h
 split at h
 · assumption
 · omega
theorem Gf (x:T):lvT x≤2:=by
 cases x with
 | lst ds=>simp only [lvT]; split <;> decide
 | _=>simp [lvT]
theorem kM {τ:ao} {v:Nat} {x:T} (h:aH τ v=.ok x):τ[v]?=some (some x):=by
 unfold aH at h
 split at h
 · rename_i d e; cases h; exact e
 · cases h
theorem jx {r:Ou T} {xs:List T} (h:hU r=some xs):r=.ok (.lst xs):=by
 cases r with
 | ok x=>cases x <;> first | (cases h; rfl) | (cases h; done)
 | _=>cases h
theorem zS {r:T} {i:Int} (h:intOf r=some i):r=.int i:=by cases r <;> first | (cases h; rfl) | (cases h; done)
section
variable {Ψ ΨM:FnT} {X:Fx} {n:Nat} {τ:ao} {own:Own}
theorem bR:yS Ψ ΨM X n (.set t (.call f (.var v :: es))) τ own=if 0 < (X.μ f).mv then
       (if (X.μ f).mv≤cJ (dn (fun i lv=>dz X.μ i lv 0 es) own) v then
         (aH τ v).bind fun x=>(yEs Ψ es τ).bind fun xs=>(ΨM f (x :: xs)).bind fun d=>sX (aW t d (τ.set v none)) (fF X (dn (fun i _=>i == v) (dn (fun i lv=>dz X.μ i lv 0 es) own)) t (.call f (.var v :: es)) d (τ.set v none))
       else .bad)
     else (yE Ψ (.call f (.var v :: es)) τ).bind fun x=>sX (aW t x τ) (fF X (dn (fun i lv=>gts X.μ i lv 0 (.call f (.var v :: es))) own) t (.call f (.var v :: es)) x τ):=rfl
theorem gO:yS Ψ ΨM X n (.put (.var v) i e) τ own=(yE Ψ e τ).bind fun z=>gB (hU (aH τ v)) fun xs=>(yE Ψ i τ).bind fun y=>DB τ (dn (fun k lv=>gts X.μ k lv 0 e || gts X.μ k lv 2 i) own) v xs y z:=rfl
theorem gH:yS Ψ ΨM X n (.mth m (.var v) es) τ own=if Bf m=true then Dt X.μ τ own v es (yEs Ψ es τ) else gB (hU (aH τ v)) fun xs=>if 0 < cJ (dn (fun k lv=>dz X.μ k lv 0 es) own) v then (yEs Ψ es τ).bind fun ds=>wG m τ (dn (fun k lv=>dz X.μ k lv 0 es) own) v xs ds else .bad:=rfl
theorem fP:yS Ψ ΨM X n (.ret e) τ own=(yE Ψ e τ).bind fun x=>if X.lv=0∨isL x=false then .ok (.rt x) else match e with
   | .var i=>if X.lv≤cJ own i then .ok (.rt x) else .bad
   | e=>if X.lv≤min (dm X.μ e) (lvT x) then .ok (.rt x) else .bad:=rfl
theorem fR:yS Ψ ΨM X n (.ite c a b) τ own=(yE Ψ c τ).bind fun x=>match x with
   | .bl true=>ySs Ψ ΨM X n a τ (dn (fun k lv=>gts X.μ k lv 2 c) own)
   | .bl false=>ySs Ψ ΨM X n b τ (dn (fun k lv=>gts X.μ k lv 2 c) own)
   | _=>.bad:=rfl
theorem gN:yS Ψ ΨM X n (.for t it body) τ own=((yIt Ψ it τ).bind fun xs=>bN (fun x τ' own'=>match aW t x τ' with
     | some τ2=>ySs Ψ ΨM X n body τ2 (dn (frg t) own')
     | none=>.bad) xs τ (dn (fun k lv=>gG X.μ k lv 0 it) own)).noX:=rfl
theorem ei:yS Ψ ΨM X n (.while c body) τ own=(i3 (fun τ'=>yE Ψ c τ') (fun k lv=>gts X.μ k lv 2 c) (fun τ' own'=>ySs Ψ ΨM X n body τ' own') n τ own).noX:=rfl
theorem bH:yS Ψ ΨM X n (.expr (.call f (.var v :: es))) τ own=if 0 < (X.μ f).mv then
       (if (X.μ f).mv≤cJ (dn (fun i lv=>dz X.μ i lv 0 es) own) v then
         (aH τ v).bind fun x=>(yEs Ψ es τ).bind fun xs=>(ΨM f (x :: xs)).bind fun _=>.ok (.nx (τ.set v none) (dn (fun i _=>i == v) (dn (fun i lv=>dz X.μ i lv 0 es) own)))
       else .bad)
     else (yE Ψ (.call f (.var v :: es)) τ).bind fun _=>.ok (.nx τ (dn (fun i lv=>gts X.μ i lv 0 (.call f (.var v :: es))) own)):=rfl
theorem gL:yS Ψ ΨM X n (.nev) τ own=.bad:=rfl
end
section
variable {Φ:Fn} {Ψ ΨM:FnT} {X:Fx} (HP:∀ f,Pure (X.μ f) (Φ f) (Ψ f)) (HM:∀ f,oY (X.μ f) (Φ f) (ΨM f)) {P:Nat→Prop} {h0:Hd} {S0:Sto}
theorem iY {F:List En} {own:Own} {g:Nat→Nat→Bool} (h:bf F=dn g own):∀ i lv,(i,lv) ∈ bf F→g i lv=false:=fun i lv hi=>BR (by rw [← h]; exact hi)
include HP
theorem Nk {H:Hd} {st:Sto} {ρ:Env} {τ:ao} {F:List En} (t:Tg) (e:E) (w:WS P h0 S0.length H st ρ τ F) (ng:∀ i lv,(i,lv) ∈ bf F→gts X.μ i lv 0 e=false) :
   GS P h0 S0 X.lv H st ((xE Φ e ρ st).bind fun x st1=>match hR t x ρ with | some ρ'=>.ok (.nx ρ') st1 | none=>.bad) ((yE Ψ e τ).bind fun x=>sX (aW t x τ) (fF X (bf F) t e x τ)):=by
 obtain ⟨H1,F1,e1,w1,s1⟩:=w.dn0 (frg t)
 have ng1:∀ i lv,(i,lv) ∈ bf F1→gts X.μ i lv 0 e=false:=fun i lv hi=>ng i lv (vk (by rw [← e1]; exact hi))
 have ord:GS P h0 S0 X.lv H st ((xE Φ e ρ st).bind fun x st1=>match hR t x ρ with | some ρ'=>.ok (.nx ρ') st1 | none=>.bad) ((yE Ψ e τ).bind fun x=>sX (aW t x τ) (bf F1)):=by
   refine (iL w1 (gE HP e 0 w1.we w1.wf ng1) fun u d st2 H2 g2 w2 hu=>?_).back s1
   cases z:aW t d τ with
   | none=>trivial
   | some τ'=>
     obtain ⟨ρ',f1,w3⟩:=w2.hR (qV e1) hu z
     rw [f1]
     exact ⟨_,_,rfl,H2,F1,rfl,w3,.refl⟩
 cases hy:yE Ψ e τ with
 | bad=>trivial
 | exc c=>rw [hy] at ord; exact ord
 | ok x=>
   rw [hy,Ou.aa] at ord
   rw [Ou.aa]
   cases t with
   | tp is=>simp only [fF]; rw [← e1]; exact ord
   | nm i=>
     simp only [fF]
     split
     · rename_i hc
       rw [Bool.and_eq_true] at hc
       split
       · rw [← e1]; exact ord
       · rename_i hz
         have l1:1≤lvT x:=by omega
         obtain ⟨ds,rfl⟩:=HX l1
         have hl:i < τ.length:=by
           have:=hc.2
           rcases Nat.lt_or_ge i τ.length with q | q
           · exact q
           · rw [List.getElem?_eq_none q] at this; cases this
         have key:∃ u st' H',xE Φ e ρ st=.ok u st'∧Gr H1 st H' st'∧FrN (min (dm X.μ e) (lvT (.lst ds))) st H' st' u (.lst ds):=by
           have:=Gf (.lst ds)
           rcases (by omega:min (dm X.μ e) (lvT (.lst ds))=1∨min (dm X.μ e) (lvT (.lst ds))=2) with z | z
           · rw [z]; exact gN1 HP e w1.we w1.wf ng1 (by omega) ds hy
           · rw [z]; exact gN2 HP e w1.we w1.wf ng1 (by omega) ds hy (AW (by omega))
         obtain ⟨u,st',H',f1,g1,fn⟩:=key
         obtain ⟨l,cs,rfl,w2,s2⟩:=w1.take (qV e1 i (List.mem_singleton_self i)) hl g1 fn
         rw [f1,Rs.aa]
         refine ⟨_,_,rfl,H',_,?_,w2,s1.trans s2⟩
         rw [← e1]; rfl
     · rw [← e1]; exact ord
theorem Mn {H:Hd} {st:Sto} {ρ:Env} {τ:ao} {F:List En} (hP:X.lv ≠ 0→∀ k,k < S0.length→P k) (e:E) (w:WS P h0 S0.length H st ρ τ F) (n:Nat):GS P h0 S0 X.lv H st (xS Φ n (.ret e) ρ st) (yS Ψ ΨM X n (.ret e) τ (bf F)):=by
 simp only [xS,bR,gO,gH,fP,fR,gN,ei,bH,gL]
 obtain ⟨H1,w1,s1⟩:=w.fin
 cases hy:yE Ψ e τ with
 | bad=>trivial
 | exc c=>
   have:=(gE HP e 0 w1.we w1.wf fun _ _ z=>nomatch z)
   rw [hy] at this
   obtain ⟨st',H',e1,g⟩:=this
   obtain ⟨w2,s2⟩:=w1.gr g
   exact ⟨st',H',by rw [e1]; rfl,(w2.out.back s2).back s1⟩
 | ok x=>
   rw [Ou.aa]
   have new:∀ {lv:Nat},lv=X.lv→(∃ u st' H',xE Φ e ρ st=.ok u st'∧Gr H1 st H' st'∧FrN lv st H' st' u x)→lv ≠ 0→isL x=true→GS P h0 S0 X.lv H st ((xE Φ e ρ st).bind fun x st1=>.ok (.rt x) st1) (.ok (.rt x)):=fun {lv} hlv ⟨u,st',H',e1,g,fn⟩ h1 h2=>by
     subst hlv
     obtain ⟨w2,s2⟩:=w1.gr g
     refine ⟨.rt u,st',by rw [e1]; rfl,H',(w2.out.back s2).back s1,FrN.r ?_ h1 h2⟩
     obtain ⟨r,l,cs,z,en,nl⟩:=fn
     exact ⟨r,l,cs,z,en,fun k hk=>Nat.le_trans w1.nl (nl k hk)⟩
   split
   · rename_i hc
     obtain ⟨u,st',H',e1,g,p⟩:=(gE HP e 0 w1.we w1.wf fun _ _ z=>nomatch z).inv hy
     obtain ⟨w2,s2⟩:=w1.gr g
     refine ⟨.rt u,st',by rw [e1]; rfl,H',(w2.out.back s2).back s1,?_⟩
     unfold FrR
     rw [if_pos hc]
     exact p
   · rename_i hc
     rw [not_or] at hc
     have hl:isL x=true:=by
       cases h:isL x with
       | true=>rfl
       | false=>exact absurd h hc.2
     split
     · rename_i i
       split
       · rename_i hlv
         obtain ⟨xs,rfl⟩:∃ xs,x=.lst xs:=by cases x <;> first | exact ⟨_,rfl⟩ | cases hl
         have hx:τ[i]?=some (some (.lst xs)):=kM (by simpa only [yE] using hy)
         obtain ⟨Fa,en,Fb,rfl,rfl,hen⟩:=jO (F:=F) (i:=i) (by omega)
         rw [← hen] at hlv
         have drop1:∀ (Fa Fb:List En) {H:Hd},WS P h0 S0.length H st ρ τ (Fa++en :: Fb)→∃ H',WS P h0 S0.length H' st ρ τ [en]∧Stp P H st H' st:=by
           intro Fa Fb
           induction Fa with
           | nil=>
             induction Fb with
             | nil=>exact fun {H} w=>⟨H,w,.refl⟩
             | cons b Fb ih=>
               intro H w
               rw [show ([]:List En)++en :: b :: Fb=[en]++b :: Fb by simp] at w
               obtain ⟨H',w',s'⟩:=w.drop
               obtain ⟨H2,w2,s2⟩:=ih w'
               exact ⟨H2,w2,s'.trans s2⟩
           | cons a Fa ih=>
             intro H w
             rw [show (a :: Fa)++en :: Fb=[]++a :: (Fa++en :: Fb) by simp] at w
             obtain ⟨H',w',s'⟩:=w.drop
             obtain ⟨H2,w2,s2⟩:=ih w'
             exact ⟨H2,w2,s'.trans s2⟩
         obtain ⟨H2,w2,s2⟩:=drop1 Fa Fb w
         have su:=w2.su (List.mem_singleton_self en)
         have key:∃ H3 cs,WS P h0 S0.length H3 st ρ τ [⟨en.i,en.l,X.lv,cs⟩]∧Stp P H2 st H3 st:=by
           rcases (by omega:X.lv=en.lv∨(X.lv=1∧en.lv=2)) with z | z
           · exact ⟨H2,en.cs,by rw [z]; exact w2,.refl⟩
           · obtain ⟨H3,w3,s3⟩:=WS.to1 (F1:=[]) (F2:=[]) w2
             exact ⟨H3,[],by rw [z.1]; exact w3,s3⟩
         obtain ⟨H3,cs,w3,s3⟩:=key
         obtain ⟨a1,a2,a3⟩:=w3.own (F1:=[]) (F2:=[]) hx
         obtain ⟨_,_,b3⟩:=w3.ent _ (List.mem_singleton_self _)
         have big:∀ k ∈ en.l :: cs,S0.length≤k:=fun k hk=>Nat.not_lt.mp fun z=>b3 k hk (hP hc.1 k z)
         refine ⟨.rt (.loc en.l),st,by simp only [xE,lF,a1,Rs.aa],H3,?_,FrN.r ⟨a2,en.l,cs,rfl,a3,big⟩ hc.1 rfl⟩
         refine Fin.back (s2.trans s3) ⟨Nat.le_refl _,fun _ _=>rfl,w3.wf,fun k z=>(w3.bh k z).1,w3.bg,fun k hk z=>(w3.oh k z).elim id fun q=>q.elim (fun q=>?_) fun q=>absurd hk (Nat.not_lt.mpr q),fun k hk z=>(w3.og k z).elim id fun q=>q.elim (fun q=>?_) fun q=>absurd hk (Nat.not_lt.mpr q)⟩
         · obtain ⟨e',he',hk'⟩:=bJ.mp q
           rw [List.mem_singleton] at he'
           subst he'
           exact absurd hk (Nat.not_lt.mpr (big k hk'))
         · obtain ⟨e',he',hk'⟩:=bJ.mp q
           rw [List.mem_singleton] at he'
           subst he'
           exact absurd hk (Nat.not_lt.mpr (big k hk'))
       · trivial
     · split
       · rename_i hlv
         obtain ⟨xs,rfl⟩:∃ xs,x=.lst xs:=by cases x <;> first | exact ⟨_,rfl⟩ | cases hl
         have:=Gf (.lst xs)
         rcases (by omega:X.lv=1∨X.lv=2) with z | z
         · exact new z.symm (gN1 HP e w1.we w1.wf (fun _ _ z=>nomatch z) (by omega) xs hy) (by decide) rfl
         · exact new z.symm (gN2 HP e w1.we w1.wf (fun _ _ z=>nomatch z) (by omega) xs hy (AW (by omega))) (by decide) rfl
       · trivial
theorem AD {H:Hd} {st:Sto} {ρ:Env} {τ:ao} {F:List En} (HM:∀ f,oY (X.μ f) (Φ f) (ΨM f)) {f v:Nat} {es:List E} {k:U→Sto→Rs Fl} {kT:T→Ou FlT} (w:WS P h0 S0.length H st ρ τ F) (hm:0 < (X.μ f).mv)
   (n:∀ u d st' H' F',bf F'=dn (fun i _=>i == v) (dn (fun i lv=>dz X.μ i lv 0 es) (bf F))→WS P h0 S0.length H' st' ρ (τ.set v none) F'→PX 0 H' st' u d→GS P h0 S0 X.lv H' st' (k u st') (kT d)) :
   GS P h0 S0 X.lv H st ((xE Φ (.call f (.var v :: es)) ρ st).bind k) (if (X.μ f).mv≤cJ (dn (fun i lv=>dz X.μ i lv 0 es) (bf F)) v then (aH τ v).bind fun x=>(yEs Ψ es τ).bind fun xs=>(ΨM f (x :: xs)).bind kT else .bad):=by
 split
 · rename_i hlv
   obtain ⟨H1,F1,e1,w1,s1⟩:=w.dn0 fun i lv=>dz X.μ i lv 0 es
   rw [← e1] at hlv n
   obtain ⟨Fa,en,Fb,rfl,rfl,hen⟩:=jO (F:=F1) (i:=v) (by omega)
   rw [← hen] at hlv
   cases hg:aH τ en.i with
   | bad=>trivial
   | exc c=>unfold aH at hg; split at hg <;> cases hg
   | ok x=>
     rw [Ou.aa]
     have hx:=kM hg
     obtain ⟨u0,f0,r0,_⟩:=w1.val _ _ hx
     obtain ⟨a1,a2,a3⟩:=w1.ent en (List.mem_append_right _ (List.mem_cons_self ..))
     rw [a1] at f0
     have:u0=.loc en.l:=by simpa using f0.symm
     subst this
     have su:=w1.su (e:=en) (List.mem_append_right _ (List.mem_cons_self ..))
     have hE:∀ z,xE Φ (.call f (.var en.i :: es)) ρ st=z→z=((xEs Φ es ρ st).bind fun us st1=>Φ f (.loc en.l :: us) st1):=fun z hz=>by
       rw [← hz]
       simp only [xE,xEs,lF,a1,Rs.aa]
       cases xEs Φ es ρ st <;> rfl
     rw [hE _ rfl]
     have hA:=gEs HP es 0 w1.we w1.wf (iY e1)
     generalize xEs Φ es ρ st=xa at hA
     generalize yEs Ψ es τ=ya at hA
     cases ya with
     | bad=>trivial
     | exc c=>
       obtain ⟨st',H',e,g⟩:=hA
       subst e
       obtain ⟨w2,s2⟩:=w1.gr g
       obtain ⟨H3,w3,s3⟩:=w2.fin
       exact ⟨st',H3,rfl,((w3.out.back s3).back s2).back s1⟩
     | ok xs=>
       obtain ⟨us,st2,H2,e,g2,p2⟩:=hA
       subst e
       rw [Ou.aa,Rs.aa]
       obtain ⟨w2,s2⟩:=w1.gr g2
       have p2':=p2
       have key:∃ H3 cs,WS P h0 S0.length H3 st2 ρ τ (Fa++⟨en.i,en.l,(X.μ f).mv,cs⟩ :: Fb)∧Stp P H2 st2 H3 st2:=by
         rcases (by omega:(X.μ f).mv=en.lv∨((X.μ f).mv=1∧en.lv=2)) with z | z
         · exact ⟨H2,en.cs,by rw [z]; exact w2,.refl⟩
         · obtain ⟨H3,w3,s3⟩:=WS.to1 w2
           exact ⟨H3,[],by rw [z.1]; exact w3,s3⟩
       obtain ⟨H3,cs,w3,s3⟩:=key
       have p3:PXs 0 H3 st2 us xs:=⟨p2.1,fun u hu=>.inl fun l hl=>⟨((p2.2 u hu).zero l hl).1,fun z=>((p2.2 u hu).zero l hl).2 (s3.hid l ((p2.2 u hu).zero l hl).1 z)⟩⟩
       obtain ⟨b1,b2,b3⟩:=w3.ent _ (List.mem_append_right _ (List.mem_cons_self ..))
       have gm:=(HM f hm).2 H3 st2 en.l cs us x xs w3.wf b2 (r0.ext g2.pre) p3
       have own:bf (Fa++Fb)=dn (fun i _=>i == en.i) (bf (Fa++en :: Fb)):=(Dn w1.nv).symm
       generalize ΨM f (x :: xs)=y at gm
       cases y with
       | bad=>trivial
       | exc c=>
         obtain ⟨st',H',e,g⟩:=gm
         rw [e]
         obtain ⟨w4,s4⟩:=w3.moved g
         obtain ⟨H5,w5,s5⟩:=w4.fin
         exact ⟨st',H5,rfl,((((w5.out.back s5).back s4).back s3).back s2).back s1⟩
       | ok d=>
         obtain ⟨u,st',H',e,g,p⟩:=gm
         rw [e,Rs.aa,Ou.aa]
         obtain ⟨w4,s4⟩:=w3.moved g
         exact ((((n u d st' H' _ own w4 p).back s4).back s3).back s2).back s1
 · trivial
end
end Sv
namespace Sv
open PySem PySem.Spec L2
open Ev (D aL aT ag)
section
variable {P:Nat→Prop} {h0 H:Hd} {S0 st:Sto} {ρ:Env} {τ:ao} {F F1 F2:List En} {Φ:Fn} {lv:Nat}
theorem WS.Pn {n0:Nat} (w:WS P h0 n0 H st ρ τ F) {r:Nat} (hr:∀ e ∈ F,e.i ≠ r) (hn:τ[r]?=some none) (u:U):WS P h0 n0 H st (ρ.set r (some u)) τ F:=
 ⟨by rw [List.length_set]; exact w.len,fun j d q=>by
   have z:r ≠ j:=fun z=>by subst z; rw [hn] at q; cases q
   obtain ⟨v,e1,a⟩:=w.val j d q
   exact ⟨v,by rw [List.getElem?_set_ne z]; exact e1,a⟩,w.wf,fun e he=>by
   obtain ⟨a,b⟩:=w.ent e he
   exact ⟨by rw [List.getElem?_set_ne (Ne.symm (hr e he))]; exact a,b⟩,w.nd,w.nv,w.bh,w.bg,w.oh,w.og,w.pl,w.nl⟩
theorem FW {r v:Nat} {i:E} {k:Int} (h:lW τ r v i=some k) (hv:∀ (j:Nat) (k:Int),τ[j]?=some (some (.int k))→ρ[j]?=some (some (.int k))) (u:U) (st:Sto):xE Φ i (ρ.set r (some u)) st=.ok (.int k) st:=by
 unfold lW at h
 split at h
 · cases h; simp only [xE]
 · rename_i j
   split at h
   · cases h
   · rename_i hj
     split at h
     · rename_i k' e
       cases h
       simp only [xE,lF,List.getElem?_set_ne (Ne.symm fun z=>hj (.inl z)),hv j _ e]
     · cases h
 · cases h
theorem Cz {r v:Nat} {i:E} {k:Int} (x:Option T) (h:lW τ r v i=some k):lW (τ.set v x) r v i=some k:=by
 unfold lW at h ⊢
 split at h
 · exact h
 · rename_i j
   split at h
   · cases h
   · rename_i hj
     rw [if_neg hj,List.getElem?_set_ne (Ne.symm fun z=>hj (.inr z))]
     exact h
 · cases h
theorem Px {n0 v l q:Nat} {cs:List Nat} {xs ys:List T} (w:WS P h0 n0 H st ρ τ (F1++⟨v,l,2,cs⟩ :: F2)) (hx:τ[v]?=some (some (.lst xs))) (hy:xs[q]?=some (.lst ys)) :
   ∃ c us,cs[q]?=some c∧st[c]?=some (false,us)∧PXs 0 H st us ys:=by
 obtain ⟨a1,a2,a3⟩:=w.own hx
 obtain ⟨_,gl,e1,e2⟩:=a3.two (by decide)
 have rs:=ik a2 e1
 obtain ⟨u,g1,g2⟩:=rs.get hy
 rw [List.getElem?_map] at g1
 obtain ⟨c,g3,rfl⟩:=Option.map_eq_some_iff.mp g1
 obtain ⟨b1,b2,ws,b3⟩:=e2 c (List.mem_of_getElem? g3)
 exact ⟨c,ws,g3,b3,ik g2 b3,fun u hu=>.inl (w.wf.av _ _ _ b2 b3 u hu)⟩
theorem tY {α:Type}:∀ {xs:List α} {q:Nat} {a:α},q < xs.length→(xs.set q a).take (q + 1)=xs.take q++[a]
 | x :: xs,0,a,_=>rfl
 | x :: xs,q + 1,a,h=>by
   rw [List.set_cons_succ,List.take_succ_cons,tY (by simpa using h),List.take_succ_cons]; rfl
theorem tI {α:Type}:∀ {xs:List α} {q:Nat} {a:α},(xs.set q a).drop (q + 1)=xs.drop (q + 1)
 | [],_,_=>rfl
 | x :: xs,0,a=>rfl
 | x :: xs,q + 1,a=>by rw [List.set_cons_succ,List.drop_succ_cons,tI,List.drop_succ_cons]
theorem set_same {α:Type} {xs:List α} {i:Nat} {x:α} (h:xs[i]?=some x):xs.set i x=xs:=by
 obtain ⟨hl,he⟩:=List.getElem?_eq_some_iff.mp h
 rw [← he]
 exact List.set_getElem_self hl
theorem om {t l v r m:Nat} {cs:List Nat} {i:E} {a b k:Int} (hrv:r ≠ v) (ht:t ∉ cs) (hr:∀ e ∈ F1++(⟨v,l,2,cs⟩:En) :: F2,e.i ≠ r) :
   ∀ (d q:Nat) (st:Sto) (ρ:Env) (τ:ao) (xs zs:List T),q + d=m→WS P h0 S0.length H st ρ τ (F1++⟨v,l,2,cs⟩ :: F2)→τ[r]?=some none→τ[v]?=some (some (.lst xs))→st[t]?=some (false,(cs.take m).map .loc)→lW τ r v i=some k→lh k (.tup [.int a,.int b]) d (xs.drop q)=some zs →
     GS P h0 S0 lv H st (loop (yJ Φ r i a b) (.lst t) (d + 1) q ρ st) (.ok (.nx (τ.set v (some (.lst (xs.take q++zs)))) (bf (F1++⟨v,l,2,cs⟩ :: F2))))
 | 0,q,st,ρ,τ,xs,zs,hd,w,hn,hx,e,hi,hz=>by
   cases hz
   rw [List.take_append_drop,set_same hx,loop]
   have:Sq.at (.lst t) st q=some none:=by
     simp only [Sq.at,e,Option.map_some]
     rw [List.getElem?_eq_none (by rw [List.length_map,List.length_take]; omega)]
   rw [this]
   exact ⟨_,_,rfl,H,_,rfl,w,.refl⟩
 | d + 1,q,st,ρ,τ,xs,zs,hd,w,hn,hx,e,hi,hz=>by
   cases hdx:xs.drop q with
   | nil=>rw [hdx] at hz; cases hz
   | cons x rest=>
     rw [hdx,lh] at hz
     obtain ⟨x',h1,hz⟩:=Option.bind_eq_some_iff.mp hz
     obtain ⟨zs',h2,rfl⟩:=Option.map_eq_some_iff.mp hz
     have hq:xs[q]?=some x:=by
       have:=congrArg (fun l=>l[0]?) hdx
       simpa [List.getElem?_drop] using this
     have hrest:xs.drop (q + 1)=rest:=by
       have:=congrArg (List.drop 1) hdx
       simpa [List.drop_drop] using this
     cases x with
     | lst ys=>
       obtain ⟨j,hj,rfl⟩:=Option.map_eq_some_iff.mp h1
       obtain ⟨c,us,c2,c3,c4⟩:=Px w hx hq
       have hql:q < m:=by omega
       have hat:Sq.at (.lst t) st q=some (some (.loc c)):=by
         simp only [Sq.at,e,Option.map_some,List.getElem?_map,List.getElem?_take,if_pos hql,c2]
       have hz0:PX 0 H st (.tup [.int a,.int b]) (.tup [.int a,.int b]):=.of (.tup (.cons .int (.cons .int .nil))) (Av.tup.mpr fun u hu=>by
         rcases List.mem_cons.mp hu with rfl | hu
         · exact .int
         · rcases List.mem_cons.mp hu with rfl | hu
           · exact .int
           · cases hu)
       obtain ⟨w1,s1⟩:=w.Pe (vs:=us.set j (.tup [.int a,.int b])) (ds:=ys.set j (.tup [.int a,.int b])) hx c2 ⟨c4.1.set j hz0.1,fun u hu=>by
         rcases List.mem_or_eq_of_mem_set hu with hu | rfl
         · exact c4.2 u hu
         · exact hz0.2⟩
       have hrl:r < ρ.length:=by rw [w.len]; exact (List.getElem?_eq_some_iff.mp hn).1
       have hf:yJ Φ r i a b (.loc c) ρ st=.ok (.nx (ρ.set r (some (.loc c)))) (st.set c (false,us.set j (.tup [.int a,.int b]))):=by
         unfold yJ xP
         have hi':=FW (Φ:=Φ) (ρ:=ρ) hi (fun j k e=>by
           obtain ⟨u,e1,e2,_⟩:=w.val j _ e
           have:=e2.int_inv; subst this
           exact e1) (.loc c) st
         have hl2:([.int a,.int b]:List U).length < ag:=by show 2 < ag; decide
         simp only [xE,xEs,Rs.aa,if_pos hl2,lF,List.getElem?_set_self hrl]
         rw [hi',Rs.aa]
         simp only [evP.eq_def,c3,c4.1.length,hj,Option.map_some,ofS]
       rw [loop,hat]
       dsimp only
       rw [hf,Rs.aa]
       dsimp only
       have hn':(τ.set v (some (.lst (xs.set q (.lst (ys.set j (.tup [.int a,.int b])))))))[r]?=some none:=by rw [List.getElem?_set_ne (Ne.symm hrv)]; exact hn
       have hvl:v < τ.length:=(List.getElem?_eq_some_iff.mp hx).1
       have w2:=w1.Pn hr hn' (.loc c)
       have ntc:c ≠ t:=fun z=>ht (z ▸ List.mem_of_getElem? c2)
       have:=om (m:=m) (a:=a) (b:=b) hrv ht hr d (q + 1) _ _ _ (xs.set q (.lst (ys.set j (.tup [.int a,.int b])))) zs' (by omega) w2 hn' (List.getElem?_set_self hvl) (by rw [List.getElem?_set_ne ntc]; exact e) (Cz _ hi) (by rw [tI,hrest]; exact h2)
       rw [List.set_set,tY (List.getElem?_eq_some_iff.mp hq).1,List.append_assoc] at this
       exact this.back s1
     | _=>cases h1
theorem FR {us:List U} (w:Wf H st):∃ H',Gr H st H' (st++[(false,us)]):=by
 refine ⟨H.more (fun k=>k=st.length) (fun k=>k=st.length) (fun _ z=>z),fD,fun _ z=>.inl z,fun _ z=>.inl z,fun k hk z=>z.elim id fun q=>by omega,fun k hk z=>z.elim id fun q=>by omega,⟨fun k fz vs hk e u hu=>?_,fun k z=>?_⟩⟩
 · have kl:k < st.length:=by
     have:=(List.getElem?_eq_some_iff.mp e).1
     rw [List.length_append] at this
     have ne:k ≠ st.length:=fun z=>hk (.inr z)
     simp at this
     omega
   rw [List.getElem?_append_left kl] at e
   intro l hl
   obtain ⟨a1,a2⟩:=w.av k fz vs (fun z=>hk (.inl z)) e u hu l hl
   refine ⟨by rw [List.length_append]; exact Nat.lt_add_right _ a1,fun z=>?_⟩
   rcases z with z | z
   · exact a2 z
   · omega
 · rw [List.length_append]
   rcases z with z | z
   · exact Nat.lt_add_right _ (w.lt k z)
   · subst z; exact Nat.lt_succ_self _
theorem Jw {r v:Nat} {c:Bool} {i:E} {a b:Int} {n:Nat} (w:WS P h0 S0.length H st ρ τ F):GS P h0 S0 lv H st (xS Φ n (.rows r v c i a b) ρ st) (vP τ (dn (frg (.nm r)) (bf F)) r v c i a b):=by
 obtain ⟨H1,F1,e1,w1,s1⟩:=w.dn0 (frg (.nm r))
 have nr:=qV e1 r (List.mem_singleton_self r)
 rw [← e1]
 unfold vP
 split
 · rename_i hc
   obtain ⟨hlv,hrv,hrl⟩:=hc
   refine GS.back s1 (fb fun xs hxs=>fb fun k hk=>fb fun zs hz=>?_)
   have hx0:=kM (jx hxs)
   obtain ⟨Fa,⟨v',l,lv',cs⟩,Fb,rfl,rfl,hen⟩:=jO (F:=F1) (i:=v) (by omega)
   rw [hlv] at hen
   dsimp only at hen hrv hx0 hk
   subst hen
   have hx:(τ.set r none)[v']?=some (some (.lst xs)):=by rw [List.getElem?_set_ne hrv]; exact hx0
   have hi:lW (τ.set r none) r v' i=some k:=by
     unfold lW at hk ⊢
     split at hk
     · exact hk
     · rename_i j
       split at hk
       · cases hk
       · rename_i hj
         rw [if_neg hj,List.getElem?_set_ne (Ne.symm fun z=>hj (.inl z))]
         exact hk
     · cases hk
   · have hn:(τ.set r none)[r]?=some none:=List.getElem?_set_self hrl
     have w2:=w1.forget r
     obtain ⟨a1,a2,a3⟩:=w2.own hx
     obtain ⟨_,gl,f1,f2⟩:=a3.two (by decide)
     have hlen:cs.length=xs.length:=by have:=(ik a2 f1).length; rwa [List.length_map] at this
     have hll:l < st.length:=(List.getElem?_eq_some_iff.mp f1).1
     cases c with
     | false=>
       have e2:xS Φ n (.rows r v' false i a b) ρ st=(loop (yJ Φ r i a b) (.lst l) (xs.length + 1) 0 ρ st).noX:=by
         have ln:Sq.len (.lst l) st=xs.length:=by simp only [Sq.len,f1,Option.map_some,Option.getD_some,List.length_map,hlen]
         rw [xS,show ux v' false=.seq (.var v') from rfl]
         simp only [xIt,xE,lF,a1,Rs.aa,if_pos hll,ln]
       rw [e2]
       have:=om (lv:=lv) (Φ:=Φ) (a:=a) (b:=b) (t:=l) (m:=cs.length) hrv (List.nodup_cons.mp a3.nd).1 nr xs.length 0 st ρ _ xs zs (by omega) w2 hn hx (by rw [List.take_length]; exact f1) hi hz
       exact GS.noX this
     | true=>
       obtain ⟨H2,g2⟩:=FR (us:=(cs.take (xs.length - 1)).map .loc) w2.wf
       obtain ⟨w3,s3⟩:=w2.gr g2
       have e2:xS Φ n (.rows r v' true i a b) ρ st=(loop (yJ Φ r i a b) (.lst st.length) (xs.length - 1 + 1) 0 ρ (st++[(false,(cs.take (xs.length - 1)).map .loc)])).noX:=by
         have hcut:zE (cs.map .loc) none (some (-1))=(cs.take (xs.length - 1)).map .loc:=by
           have e3:HT.sIx (cs.map U.loc).length (cs.map U.loc).length (some (-1))=xs.length - 1:=by
             rw [List.length_map,hlen]
             unfold HT.sIx
             simp only
             first | (split <;> omega) | omega
           unfold zE
           rw [HT.E1,List.drop_zero,e3,Nat.sub_zero,List.map_take]
         have ln:Sq.len (.lst st.length) (st++[(false,(cs.take (xs.length - 1)).map .loc)])=xs.length - 1:=by
           simp only [Sq.len,qb,Option.map_some,Option.getD_some,List.length_map,List.length_take,hlen]; omega
         have hlt:st.length < (st++[(false,(cs.take (xs.length - 1)).map U.loc)]).length:=by rw [List.length_append]; exact Nat.lt_succ_self _
         rw [xS,show ux v' true=.seq (.sl (.var v') .cN (.neg (.cI 1))) from rfl]
         simp only [xIt,xE,lF,a1,Rs.aa,vL,DD,pT,f1,Option.map_some,hcut,new,if_pos hlt,ln]
       rw [e2]
       have:=om (lv:=lv) (Φ:=Φ) (a:=a) (b:=b) (t:=st.length) (m:=xs.length - 1) hrv (fun z=>Nat.lt_irrefl _ (a3.lt _ (List.mem_cons_of_mem _ z))) nr (xs.length - 1) 0 _ ρ _ xs zs (by omega) w3 hn hx qb hi hz
       exact GS.noX (this.back s3)
 · trivial
end
end Sv
namespace Sv
open PySem PySem.Spec L2
open Ev (D aL aT ag)
section
variable {Φ:Fn} {Ψ ΨM:FnT} {X:Fx} (HP:∀ f,Pure (X.μ f) (Φ f) (Ψ f)) (HM:∀ f,oY (X.μ f) (Φ f) (ΨM f)) {P:Nat→Prop} {h0:Hd} {S0:Sto} (hP:X.lv ≠ 0→∀ k,k < S0.length→P k) (n:Nat)
include HP
theorem Lz {H:Hd} {st:Sto} {ρ:Env} {τ:ao} {F:List En} (v:Nat) (i e:E) (w:WS P h0 S0.length H st ρ τ F):GS P h0 S0 X.lv H st (xS Φ n (.put (.var v) i e) ρ st) (yS Ψ ΨM X n (.put (.var v) i e) τ (bf F)):=by
 simp only [xS,bR,gO,gH,fP,fR,gN,ei,bH,gL]
 obtain ⟨H0,F0,e0,w0,s0⟩:=w.dn0 fun k lv=>gts X.μ k lv 0 e || gts X.μ k lv 2 i
 rw [← e0]
 refine (iL w0 (gE HP e 0 w0.we w0.wf fun k lv hk=>(bQ (iY e0 k lv hk)).1) fun z z' st1 H1 g1 w1 hz=>?_).back s0
 refine fb fun xs hxs=>?_
 have hx:=kM (jx hxs)
 obtain ⟨u,f0,r0,_⟩:=w1.val _ _ hx
 simp only [xE,lF,f0,Rs.aa]
 refine iL w1 (gE HP i 2 w1.we w1.wf fun k lv hk=>(bQ (iY e0 k lv hk)).2) fun y y' st2 H2 g2 w2 hy=>?_
 unfold DB
 refine fb fun k hk=>fb fun j hj=>?_
 have:=zS hk; subst this
 have:=hy.1.int_inv; subst this
 split
 · rename_i hlv
   obtain ⟨Fa,en,Fb,rfl,rfl,hen⟩:=jO (F:=F0) (i:=v) hlv
   obtain ⟨H3,w3,s3⟩:=WS.to1 w2
   obtain ⟨a1,a2,a3⟩:=w3.own hx
   rw [f0] at a1
   have:u=.loc en.l:=by simpa using a1
   subst this
   obtain ⟨ng,_,us,cell⟩:=a3.one rfl
   have rs:=ik a2 cell
   have hz2:=hz.gr g2
   have hz3:PX 0 H3 st2 z z':=.of hz2.1 fun l hl=>⟨(hz2.av l hl).1,fun q=>(hz2.av l hl).2 (s3.hid l (hz2.av l hl).1 q)⟩
   obtain ⟨w4,s4⟩:=w3.KR (vs:=us.set j z) (ds:=xs.set j z') ⟨rs.set j hz3.1,fun u hu=>by
     rcases List.mem_or_eq_of_mem_set hu with hu | rfl
     · exact .inl (w3.wf.av _ _ _ ng cell u hu)
     · exact hz3.2⟩
   refine ⟨.nx ρ,st2.set en.l (false,us.set j z),?_,H3,_,(rk w2.nv (w2.su (List.mem_append_right _ (List.mem_cons_self ..)))).symm,w4,s3.trans s4⟩
   simp only [evP.eq_def,cell,rs.length,hj,Option.map_some,ofS]
 · trivial
theorem KO {H:Hd} {st:Sto} {ρ:Env} {τ:ao} {F:List En} (v:Nat) (es:List E) (w:WS P h0 S0.length H st ρ τ F):GS P h0 S0 X.lv H st (xS Φ n (.mth .extend (.var v) es) ρ st) (yS Ψ ΨM X n (.mth .extend (.var v) es) τ (bf F)):=by
 simp only [xS,bR,gO,gH,fP,fR,gN,ei,bH,gL]
 rw [if_pos (show Bf .extend=true from rfl)]
 unfold Dt
 split
 · rename_i e
   split
   · rename_i hf
     obtain ⟨H0,F0,e0,w0,s0⟩:=w.dn0 fun k lv=>dz X.μ k lv 0 [e]
     rw [← e0]
     refine fb fun xs hxs=>?_
     have hx:=kM (jx hxs)
     split
     · rename_i hlv
       obtain ⟨Fa,⟨v',l,lv,cs⟩,Fb,rfl,rfl,hen⟩:=jO (F:=F0) (i:=v) hlv
       obtain ⟨a1,a2,a3⟩:=w0.own hx
       simp only [xE,lF,a1,Rs.aa]
       rw [if_pos (a3.lt l (List.mem_cons_self ..))]
       cases hy:yE Ψ e τ with
       | bad=>simp only [yEs,hy]; trivial
       | exc c=>
         have g:=gEs HP [e] 0 w0.we w0.wf (iY e0)
         have hyE:yEs Ψ [e] τ=.exc c:=by simp only [yEs,hy]; rfl
         rw [hyE] at g ⊢
         obtain ⟨st',H',e',p⟩:=g
         obtain ⟨w1,s1⟩:=w0.gr p
         obtain ⟨H2,w2,s2⟩:=w1.fin
         refine GS.back s0 ?_
         rw [e']
         exact ⟨st',H2,rfl,(w2.out.back s2).back s1⟩
       | ok d=>
         cases d with
         | lst ys=>
           obtain ⟨u,st2,H2,ex,g2,r,l',cs',rfl,en,hn⟩:=gN1 HP e w0.we w0.wf (fun i lv hi=>(bQ (by simpa only [dz] using iY e0 i lv hi)).1) hf ys hy
           obtain ⟨ng',_,us',cell'⟩:=en.one rfl
           obtain ⟨w2,s2⟩:=w0.gr g2
           have exs:xEs Φ [e] ρ st=.ok [.loc l'] st2:=by simp only [xEs,ex,Rs.aa]
           have hyE:yEs Ψ [e] τ=.ok [.lst ys]:=by simp only [yEs,hy,Ou.aa]
           refine GS.back s0 (GS.back s2 ?_)
           rw [exs,hyE,Ou.aa,Rs.aa]
           have hE:∀ o,Na τ o v' xs [.lst ys]=if xs.length + ys.length < ag then .ok (.nx (τ.set v' (some (.lst (xs++ys)))) (dn (fun i lv=>i == v' && lv == 2) o)) else .bad:=fun _=>rfl
           rw [hE]
           split
           · rename_i hl
             obtain ⟨H3,w3,s3⟩:=WS.to1 w2
             obtain ⟨b1,b2,b3⟩:=w3.own hx
             obtain ⟨ng,_,us,cell⟩:=b3.one rfl
             have rs:=ik b2 cell
             have rs':=ik r cell'
             have av':∀ u ∈ us',Av H3 st2.length u:=fun u hu l hl=>by
               have:=w2.wf.av _ _ _ ng' cell' u hu l hl
               exact ⟨this.1,fun q=>this.2 (s3.hid l this.1 q)⟩
             have p5:PXs 0 H3 st2 (us++us') (xs++ys):=PXs.append ⟨rs,fun u hu=>.inl (w3.wf.av _ _ _ ng cell u hu)⟩ ⟨rs',fun u hu=>.inl (av' u hu)⟩
             have e5:evM .extend (.loc l) [.loc l'] st2=some (st2.set l (false,us++us')):=by
               simp only [evM.eq_def,cell,cell',rs.length,rs'.length,if_pos hl]
             obtain ⟨w4,s4⟩:=w3.KR p5
             refine ⟨.nx ρ,st2.set l (false,us++us'),by rw [e5]; rfl,H3,_,(rk w2.nv (w2.su (List.mem_append_right _ (List.mem_cons_self ..)))).symm,w4,s3.trans s4⟩
           · trivial
         | _=>simp only [yEs,hy]; trivial
     · trivial
   · trivial
 · trivial
theorem L1 {H:Hd} {st:Sto} {ρ:Env} {τ:ao} {F:List En} (m:Lm) (v:Nat) (es:List E) (w:WS P h0 S0.length H st ρ τ F):GS P h0 S0 X.lv H st (xS Φ n (.mth m (.var v) es) ρ st) (yS Ψ ΨM X n (.mth m (.var v) es) τ (bf F)):=by
 by_cases hm:Bf m=true
 · cases m <;> first | exact KO HP n v es w | cases hm
 simp only [xS,bR,gO,gH,fP,fR,gN,ei,bH,gL]
 rw [if_neg hm]
 obtain ⟨H0,F0,e0,w0,s0⟩:=w.dn0 fun k lv=>dz X.μ k lv 0 es
 rw [← e0]
 refine fb fun xs hxs=>?_
 have hx:=kM (jx hxs)
 split
 · rename_i hlv
   obtain ⟨Fa,⟨v',l,lv,cs⟩,Fb,rfl,rfl,hen⟩:=jO (F:=F0) (i:=v) hlv
   obtain ⟨a1,a2,a3⟩:=w0.own hx
   simp only [xE,lF,a1,Rs.aa]
   rw [if_pos (a3.lt l (List.mem_cons_self ..))]
   refine (iL w0 (gEs HP es 0 w0.we w0.wf (iY e0)) fun y ds st2 H2 g2 w2 hy=>?_).back s0
   unfold wG
   refine fb fun ys hz=>?_
   obtain ⟨H3,w3,s3⟩:=WS.to1 w2
   obtain ⟨b1,b2,b3⟩:=w3.own hx
   obtain ⟨ng,_,us,cell⟩:=b3.one rfl
   have rs:=ik b2 cell
   have hy3:PXs 0 H3 st2 y ds:=⟨hy.1,fun u hu=>.inl fun l hl=>⟨((hy.2 u hu).zero l hl).1,fun q=>((hy.2 u hu).zero l hl).2 (s3.hid l ((hy.2 u hu).zero l hl).1 q)⟩⟩
   obtain ⟨ws,e5,p5⟩:=MQ cell ⟨rs,fun u hu=>.inl (w3.wf.av _ _ _ ng cell u hu)⟩ hy3 hz
   obtain ⟨w4,s4⟩:=w3.KR p5
   refine ⟨.nx ρ,st2.set l (false,ws),by rw [e5]; rfl,H3,_,(rk w2.nv (w2.su (List.mem_append_right _ (List.mem_cons_self ..)))).symm,w4,s3.trans s4⟩
 · trivial
include HM hP
mutual
theorem gS:∀ (s:S) {H:Hd} {st:Sto} {ρ:Env} {τ:ao} {F:List En},WS P h0 S0.length H st ρ τ F→GS P h0 S0 X.lv H st (xS Φ n s ρ st) (yS Ψ ΨM X n s τ (bf F))
 | .set t e,H,st,ρ,τ,F,w=>by
   have gen:∀ (r:Ou FlT),r=((yE Ψ e τ).bind fun x=>sX (aW t x τ) (fF X (dn (fun i lv=>gts X.μ i lv 0 e) (bf F)) t e x τ))→GS P h0 S0 X.lv H st (xS Φ n (.set t e) ρ st) r:=fun r hr=>by
     subst hr
     simp only [xS]
     obtain ⟨H0,F0,e0,w0,s0⟩:=w.dn0 fun i lv=>gts X.μ i lv 0 e
     rw [← e0]
     exact (Nk HP t e w0 (iY e0)).back s0
   by_cases hc:∃ f v es,e=.call f (.var v :: es)
   · obtain ⟨f,v,es,rfl⟩:=hc
     by_cases hm:0 < (X.μ f).mv
     · simp only [xS,bR,gO,gH,fP,fR,gN,ei,bH,gL]
       rw [if_pos hm]
       refine AD HP HM w hm fun u d st' H' F' e' w' p=>?_
       have lv0:dm X.μ (.call f (.var v :: es))=0:=(HM f hm).1
       have own0:∀ F x,fF X (bf F) t (.call f (.var v :: es)) x (τ.set v none)=dn (frg t) (bf F):=fun F x=>by
         cases t with
         | tp is=>rfl
         | nm i=>simp only [fF,lv0,Nat.zero_min,if_true]; split <;> rfl
       rw [← e',own0]
       obtain ⟨H1,F1,e1,w1,s1⟩:=w'.dn0 (frg t)
       rw [← e1]
       have p1:PX 0 H1 st' u d:=.of p.1 fun l hl=>⟨(p.av l hl).1,fun q=>(p.av l hl).2 (s1.hid l (p.av l hl).1 q)⟩
       refine GS.back s1 ?_
       cases z:aW t d (τ.set v none) with
       | none=>trivial
       | some τ'=>
         obtain ⟨ρ',f1,w3⟩:=w1.hR (qV e1) p1 z
         rw [f1]
         exact ⟨_,_,rfl,H1,F1,rfl,w3,.refl⟩
     · refine gen _ ?_
       exact if_neg hm
   · refine gen _ ?_
     cases e with
     | call f es=>
       cases es with
       | nil=>rfl
       | cons a r=>
         cases a with
         | var v=>exact absurd ⟨f,v,r,rfl⟩ hc
         | _=>rfl
     | _=>rfl
 | .put a i e,H,st,ρ,τ,F,w=>by
   cases a with
   | var v=>exact Lz HP n v i e w
   | _=>trivial
 | .mth m a es,H,st,ρ,τ,F,w=>by
   cases a with
   | var v=>exact L1 HP n m v es w
   | _=>trivial
 | .ret e,H,st,ρ,τ,F,w=>Mn HP hP e w n
 | .ite c a d,H,st,ρ,τ,F,w=>by
   simp only [xS,bR,gO,gH,fP,fR,gN,ei,bH,gL]
   obtain ⟨H0,F0,e0,w0,s0⟩:=w.dn0 fun k lv=>gts X.μ k lv 2 c
   rw [← e0]
   refine (iL w0 (gE HP c 2 w0.we w0.wf (iY e0)) fun x x' st1 H1 g1 w1 hx=>?_).back s0
   cases x' with
   | bl r=>
     have:=hx.1.jH; subst this
     cases r with
     | true=>exact gSs a w1
     | false=>exact gSs d w1
   | _=>trivial
 | .for t it body,H,st,ρ,τ,F,w=>by
   simp only [xS,bR,gO,gH,fP,fR,gN,ei,bH,gL]
   obtain ⟨H0,F0,e0,w0,s0⟩:=w.dn0 fun k lv=>gG X.μ k lv 0 it
   rw [← e0]
   refine (GS.noX (iL w0 (gIt HP it 0 (Nat.zero_le _) w0.we w0.wf (iY e0)) fun q xs st1 H1 g1 w1 hq=>?_)).back s0
   rw [hq.2.len]
   have:=vJ (P:=P) (h0:=h0) (S0:=S0) (lv:=X.lv) (f:=fun x ρ' st'=>match hR t x ρ' with | some ρ2=>xSs Φ n body ρ2 st' | none=>.bad) (g:=fun x τ' own'=>match aW t x τ' with | some τ2=>ySs Ψ ΨM X n body τ2 (dn (frg t) own') | none=>.bad) (q:=q) (xs:=xs) (fun x u st H ρ τ F w px=>by
     cases z:aW t x τ with
     | none=>trivial
     | some τ'=>
       obtain ⟨H2,F2,e2,w2,s2⟩:=w.dn0 (frg t)
       have p2:PX 0 H2 st u x:=.of px.1 fun l hl=>⟨(px.av l hl).1,fun q=>(px.av l hl).2 (s2.hid l (px.av l hl).1 q)⟩
       obtain ⟨ρ',e1,w3⟩:=w2.hR (qV e2) p2 z
       rw [e1]
       dsimp only
       rw [← e2]
       exact (gSs body w3).back s2) (xs.length + 1) 0 st1 H1 ρ τ F0 w1 (by cases q <;> first | exact hq.1 rfl | trivial) hq.2 (Nat.zero_le _) (Nat.zero_add _)
   exact this
 | .while c body,H,st,ρ,τ,F,w=>by
   simp only [xS,bR,gO,gH,fP,fR,gN,ei,bH,gL]
   exact GS.noX (uh (fun st H ρ τ F w hk=>gE HP c 2 w.we w.wf hk) (fun st H ρ τ F w=>gSs body w) n st H ρ τ F w)
 | .rows r v c i a b,H,st,ρ,τ,F,w=>Jw w
 | .expr e,H,st,ρ,τ,F,w=>by
   have gen:∀ (r:Ou FlT),r=((yE Ψ e τ).bind fun _=>.ok (.nx τ (dn (fun i lv=>gts X.μ i lv 0 e) (bf F))))→GS P h0 S0 X.lv H st (xS Φ n (.expr e) ρ st) r:=fun r hr=>by
     subst hr
     simp only [xS]
     obtain ⟨H0,F0,e0,w0,s0⟩:=w.dn0 fun i lv=>gts X.μ i lv 0 e
     rw [← e0]
     refine (iL w0 (gE HP e 0 w0.we w0.wf (iY e0)) fun u d st1 H1 g1 w1 hu=>?_).back s0
     exact ⟨_,_,rfl,H1,F0,rfl,w1,.refl⟩
   by_cases hc:∃ f v es,e=.call f (.var v :: es)
   · obtain ⟨f,v,es,rfl⟩:=hc
     by_cases hm:0 < (X.μ f).mv
     · simp only [xS,bR,gO,gH,fP,fR,gN,ei,bH,gL]
       rw [if_pos hm]
       refine AD HP HM w hm fun u d st' H' F' e' w' p=>?_
       rw [← e']
       exact ⟨_,_,rfl,H',F',rfl,w',.refl⟩
     · refine gen _ ?_
       exact if_neg hm
   · refine gen _ ?_
     cases e with
     | call f es=>
       cases es with
       | nil=>rfl
       | cons a r=>
         cases a with
         | var v=>exact absurd ⟨f,v,r,rfl⟩ hc
         | _=>rfl
     | _=>rfl
 | .nev,H,st,ρ,τ,F,w=>trivial
theorem gSs:∀ (s:List S) {H:Hd} {st:Sto} {ρ:Env} {τ:ao} {F:List En},WS P h0 S0.length H st ρ τ F→GS P h0 S0 X.lv H st (xSs Φ n s ρ st) (ySs Ψ ΨM X n s τ (bf F))
 | [],H,st,ρ,τ,F,w=>⟨_,_,rfl,H,F,rfl,w,.refl⟩
 | s :: ss,H,st,ρ,τ,F,w=>by
   simp only [xSs,ySs]
   refine zX (gS s w) fun fl fl' st' o=>?_
   cases fl <;> cases fl' <;> first | exact o.elim | skip
   · obtain ⟨H1,F1,rfl,w1,s1⟩:=o
     exact (gSs ss w1).back s1
   · exact ⟨_,_,rfl,o⟩
end
end
end Sv
namespace Sv
open PySem PySem.Spec L2
open Ev (D aL aT ag)
noncomputable def bI (md:Md):Ou FlT→Ou T
 | .ok (.rt d)=>if md.sc && !t7 md.lv d then .bad else .ok d
 | .ok (.nx _ _)=>.ok .non
 | _=>.bad
noncomputable def Hz:T→Nat
 | .int i=>i.natAbs
 | _=>0
noncomputable def aR:List T→Nat
 | []=>1
 | d :: r=>Hz d + aR r
noncomputable def FN (md:Md):Own:=if md.mv=0 then [] else [(0,md.mv)]
noncomputable def mkT (Ψ ΨM:FnT) (μ:Nat→Md) (md:Md) (need:List Nat) (ir:List S) (np nl:Nat) (ds:List T):Ou T:=
 if ds.length=np then bI md (ySs Ψ ΨM ⟨μ,need,md.lv⟩ (aR ds) ir (ds.map some++List.replicate (nl - np) none) (FN md)) else .bad
noncomputable def aJ (fs:List (List T→Ou T)) (i:Nat):List T→Ou T:=fs.getD i fun _=>.bad
noncomputable def cf (fs:List Md) (i:Nat):Md:=fs.getD i {}
theorem Hl {st:Sto} {u:U} {d:T} (r:Rep st u d):Ox u=Hz d:=by cases r <;> rfl
theorem xl {st:Sto}:∀ {us:List U} {ds:List T},aK st us ds→fuel us=aR ds
 | _,_,.nil=>rfl
 | _,_,.cons h r=>by rw [fuel,aR,Hl h,xl r]
theorem pre_of {st st':Sto} (hl:st.length≤st'.length) (e:∀ k,k < st.length→st'[k]?=st[k]?):st <+: st':=by
 refine ⟨st'.drop st.length,?_⟩
 apply List.ext_getElem?
 intro k
 rcases Nat.lt_or_ge k st.length with h | h
 · rw [List.getElem?_append_left h,e k h]
 · rw [List.getElem?_append_right h,List.getElem?_drop]
   congr 1; omega
theorem HG {us:List U} {ds:List T} {st:Sto} (r:aK st us ds) {n i:Nat} {d:T} (e:(ds.map some++List.replicate n none)[i]?=some (some d)):∃ u,(us.map some++List.replicate n none)[i]?=some (some u)∧us[i]?=some u∧ds[i]?=some d∧Rep st u d:=by
 by_cases q:i < ds.length
 · rw [List.getElem?_append_left (by rw [List.length_map]; exact q),List.getElem?_map] at e
   cases z:ds[i]? with
   | none=>rw [z] at e; cases e
   | some y=>
     rw [z] at e; cases e
     obtain ⟨v,h1,h2⟩:=r.get z
     refine ⟨v,?_,h1,rfl,h2⟩
     rw [List.getElem?_append_left (by rw [List.length_map,r.length]; exact q),List.getElem?_map,h1]; rfl
 · rw [List.getElem?_append_right (by rw [List.length_map]; omega)] at e
   have:=List.mem_of_getElem? e
   rw [List.mem_replicate] at this
   cases this.2
theorem DR {h:Hd} {st:Sto} {us:List U} {ds:List T} (wf:Wf h st) (p:PXs 0 h st us ds) (n:Nat) :
   WS (fun k=>k < st.length) h st.length h st (us.map some++List.replicate n none) (ds.map some++List.replicate n none) []:=
 ⟨by simp [p.1.length],fun i d e=>let ⟨u,e1,e2,_,r⟩:=HG p.1 e; ⟨u,e1,r,fun _=>(p.2 u (List.mem_of_getElem? e2)).zero⟩,wf,(fun _ z=>nomatch z),List.nodup_nil,List.nodup_nil,fun k z=>⟨z,wf.lt k z⟩,fun _ z=>z,fun _ z=>.inl z,fun _ z=>.inl z,fun _ z=>z,Nat.le_refl _⟩
section
variable {Φ:Fn} {Ψ ΨM:FnT} {μ:Nat→Md} (HP:∀ f,Pure (μ f) (Φ f) (Ψ f)) (HM:∀ f,oY (μ f) (Φ f) (ΨM f))
theorem CS {md:Md} {r:Ou FlT} {d:T} (hs:md.sc=true) (h:bI md r=.ok d):t7 md.lv d=true:=by
 match r,h with
 | .ok (.rt x),h=>
   simp only [bI] at h
   split at h
   · cases h
   · rename_i hc
     cases h
     rw [hs,Bool.true_and,Bool.not_eq_true',Bool.not_eq_false] at hc
     exact hc
 | .ok (.nx _ _),h=>cases h; rfl
 | .exc _,h=>cases h
 | .bad,h=>cases h
include HP HM
theorem Am (md:Md) (hm:md.mv=0) (need:List Nat) (ir:List S) (np nl:Nat):Pure md (mk Φ ir np nl) (mkT Ψ ΨM μ md need ir np nl):=by
 refine ⟨fun hs ds d h=>?_,fun h st us ds wf p=>?_⟩
 · unfold mkT at h
   split at h
   · exact CS hs h
   · cases h
 · unfold mk mkT
   rw [p.1.length,xl p.1]
   split
   · have g:=gSs (X:=⟨μ,need,md.lv⟩) HP HM (S0:=st) (fun _ k hk=>hk) (aR ds) ir (DR wf p (nl - np))
     have e0:bf ([]:List En)=FN md:=by unfold FN; rw [if_pos hm]; rfl
     rw [e0] at g
     generalize ySs Ψ ΨM ⟨μ,need,md.lv⟩ (aR ds) ir (ds.map some++List.replicate (nl - np) none) (FN md)=y at g ⊢
     have fin:∀ {H':Hd} {st':Sto},Fin (fun k=>k < st.length) h st.length st H' st'→Gr h st H' st':=fun {H' st'} f=>⟨pre_of f.len f.lo,f.hm,f.gm,f.hn,f.gn,f.wf⟩
     cases y with
     | bad=>trivial
     | exc c=>trivial
     | ok f=>
       obtain ⟨f',st',e,o⟩:=g
       rw [e]
       cases f <;> cases f' <;> first | exact o.elim | trivial | skip
       · obtain ⟨H1,F1,_,w,s⟩:=o
         obtain ⟨H2,w2,s2⟩:=w.fin
         refine ⟨_,_,H2,rfl,fin ((w2.out.back s2).back s),?_⟩
         unfold FrR
         rw [if_pos (.inr rfl)]
         exact .of .non .non
       · obtain ⟨H1,f1,r1⟩:=o
         simp only [bI]
         split
         · trivial
         · exact ⟨_,_,H1,rfl,fin f1,r1⟩
   · trivial
end
theorem Ff {md:Md} {F:List U→Sto→Rs U}:Pure md F fun _=>.bad:=⟨(fun _ _ _ h=>by cases h),fun _ _ _ _ _ _=>trivial⟩
theorem qw {md:Md} {F:List U→Sto→Rs U} {G:List T→Ou T} (h:md.mv=0):oY md F G:=fun z=>absurd z (by omega)
inductive bL:List (List U→Sto→Rs U)→List Md→List (List T→Ou T)→List (List T→Ou T)→Prop where
 | nil:bL [] [] [] []
 | cons {f:List U→Sto→Rs U} {m:Md} {g g':List T→Ou T} {fs:List (List U→Sto→Rs U)} {ms:List Md} {gs gs':List (List T→Ou T)} (h:Pure m f g) (h':oY m f g') (r:bL fs ms gs gs'):bL (f :: fs) (m :: ms) (g :: gs) (g' :: gs')
theorem bL.at:∀ {fs:List (List U→Sto→Rs U)} {ms:List Md} {gs gs':List (List T→Ou T)},bL fs ms gs gs'→(∀ i,Pure (cf ms i) (tab fs i) (aJ gs i))∧∀ i,oY (cf ms i) (tab fs i) (aJ gs' i)
 | _,_,_,_,.nil=>⟨fun i=>by unfold aJ; simp only [List.getD_nil]; exact Ff,fun i=>qw (by simp [cf])⟩
 | _,_,_,_,.cons h h' r=>by
   obtain ⟨r1,r2⟩:=r.at
   refine ⟨fun i=>?_,fun i=>?_⟩
   · cases i with
     | zero=>exact h
     | succ i=>
       have:=r1 i
       unfold tab aJ cf at this ⊢
       simpa using this
   · cases i with
     | zero=>exact h'
     | succ i=>
       have:=r2 i
       unfold tab aJ cf at this ⊢
       simpa using this
theorem bL.snoc:∀ {fs:List (List U→Sto→Rs U)} {ms:List Md} {gs gs':List (List T→Ou T)} {f:List U→Sto→Rs U} {m:Md} {g g':List T→Ou T},bL fs ms gs gs'→Pure m f g→oY m f g'→bL (fs++[f]) (ms++[m]) (gs++[g]) (gs'++[g'])
 | _,_,_,_,_,_,_,_,.nil,h,h'=>.cons h h' .nil
 | _,_,_,_,_,_,_,_,.cons a b r,h,h'=>.cons a b (r.snoc h h')
theorem bL.def {fs:List (List U→Sto→Rs U)} {ms:List Md} {gs gs':List (List T→Ou T)} (p:bL fs ms gs gs') (md:Md) (hm:md.mv=0) (need:List Nat) (ir:List S) (np nl:Nat):bL (fs++[mk (tab fs) ir np nl]) (ms++[md]) (gs++[mkT (aJ gs) (aJ gs') (cf ms) md need ir np nl]) (gs'++[fun _=>.bad]):=
 p.snoc (Am p.at.1 p.at.2 md hm need ir np nl) (qw hm)
theorem bo {Ψ ΨM:FnT} {μ:Nat→Md} {md:Md} {need:List Nat} {ir:List S} {np nl:Nat} {ds:List T} (h:ds.length=np):mkT Ψ ΨM μ md need ir np nl ds=bI md (ySs Ψ ΨM ⟨μ,need,md.lv⟩ (aR ds) ir (ds.map some++List.replicate (nl - np) none) (FN md)):=if_pos h
noncomputable def dfT (n:Nat) (i:Int) (G:List T→Ou T):List T→Ou T:=fun ds=>if ds.length=n then G (ds++[.int i]) else G ds
theorem Pure.df {md:Md} {F:List U→Sto→Rs U} {G:List T→Ou T} (p:Pure md F G) (n:Nat) (i:Int):Pure md (dfU n i F) (dfT n i G):=by
 refine ⟨fun hs ds d h=>?_,fun h st us ds wf hp=>?_⟩
 · unfold dfT at h
   split at h
   · exact p.1 hs _ _ h
   · exact p.1 hs _ _ h
 · unfold dfU dfT
   rw [hp.1.length]
   split
   · refine p.2 _ _ _ _ wf ⟨hp.1.append (.cons .int .nil),fun u hu=>?_⟩
     rcases List.mem_append.mp hu with hu | hu
     · exact hp.2 u hu
     · cases List.mem_singleton.mp hu
       exact .inl .int
   · exact p.2 _ _ _ _ wf hp
theorem bL.df {fs:List (List U→Sto→Rs U)} {ms:List Md} {gs gs':List (List T→Ou T)} (p:bL fs ms gs gs') (n:Nat) (i:Int) (md:Md) (hm:md.mv=0) (need:List Nat) (ir:List S) (np nl:Nat):bL (fs++[dfU n i (mk (tab fs) ir np nl)]) (ms++[md]) (gs++[dfT n i (mkT (aJ gs) (aJ gs') (cf ms) md need ir np nl)]) (gs'++[fun _=>.bad]):=
 p.snoc ((Am p.at.1 p.at.2 md hm need ir np nl).df n i) (qw hm)
end Sv
namespace Sv
open PySem PySem.Spec L2
open Ev (D aL aT ag)
section
variable (Ψ ΨM:FnT) (X:Fx) (n:Nat) (τ:ao) (own:Own)
noncomputable def Kq (c:E):ao→Ou T:=fun τ=>yE Ψ c τ
noncomputable def J4 (body:List S):ao→Own→Ou FlT:=fun τ own=>ySs Ψ ΨM X n body τ own
noncomputable def bA (t:Tg) (body:List S):T→ao→Own→Ou FlT:=fun x τ own=>match aW t x τ with
 | some τ2=>ySs Ψ ΨM X n body τ2 (dn (frg t) own)
 | none=>.bad
noncomputable def hV (caps:List (Option Nat)) (t:Tg) (ifs:List E) (elt:E):T→Ou (Option T):=fun x=>match aW t x (jw τ caps++[none]) with
 | none=>.bad
 | some τ1=>(yIf Ψ ifs τ1).bind fun b=>if b then (yE Ψ elt τ1).bind fun y=>.ok (some y) else .ok none
theorem HJ (c:E):Kq Ψ c τ=yE Ψ c τ:=rfl
theorem GV (body:List S):J4 Ψ ΨM X n body τ own=ySs Ψ ΨM X n body τ own:=rfl
theorem qM (t:Tg) (body:List S) (x:T):bA Ψ ΨM X n t body x τ own=match aW t x τ with | some τ2=>ySs Ψ ΨM X n body τ2 (dn (frg t) own) | none=>.bad:=rfl
theorem eX (caps:List (Option Nat)) (t:Tg) (ifs:List E) (elt:E) (x:T):hV Ψ τ caps t ifs elt x=match aW t x (jw τ caps++[none]) with
 | none=>.bad
 | some τ1=>(yIf Ψ ifs τ1).bind fun b=>if b then (yE Ψ elt τ1).bind fun y=>.ok (some y) else .ok none:=rfl
theorem kP (caps:List (Option Nat)) (t:Tg) (it:It) (ifs:List E) (elt:E):yE Ψ (.comp caps t it ifs elt) τ=(yIt Ψ it τ).bind fun xs=>if xs.length < ag then ((cb (hV Ψ τ caps t ifs elt) xs).bind fun ys=>.ok (.lst ys)).noX else .bad:=by
 rw [yE]
 all_goals rfl
theorem aD (i:Nat):yE Ψ (.var i) τ=aH τ i:=by rw [yE]
theorem OQ:yE Ψ .cN τ=.ok .non:=by rw [yE]
theorem ku (b:Bool):yE Ψ (.cB b) τ=.ok (.bl b):=by rw [yE]
theorem cX (i:Int):yE Ψ (.cI i) τ=.ok (.int i):=by rw [yE]
theorem iK (o:Op2) (a b:E):yE Ψ (.op o a b) τ=(yE Ψ a τ).bind fun x=>(yE Ψ b τ).bind fun y=>z2 o x y:=by rw [yE]
noncomputable def Oj:T→Ou T
 | .int i=>.ok (.int (-i))
 | _=>.bad
noncomputable def N0:T→Ou T
 | .bl i=>.ok (.bl (!i))
 | _=>.bad
theorem zz (a:E):yE Ψ (.neg a) τ=(yE Ψ a τ).bind Oj:=by
 rw [yE]
 all_goals first | rfl | (congr 1; funext x; cases x <;> rfl) | (congr 1; done)
theorem gj (a:E):yE Ψ (.not a) τ=(yE Ψ a τ).bind N0:=by
 rw [yE]
 all_goals first | rfl | (congr 1; funext x; cases x <;> rfl) | (congr 1; done)
theorem dM (o:Cm) (a b:E):yE Ψ (.cmp o a b) τ=(yE Ψ a τ).bind fun x=>(yE Ψ b τ).bind fun y=>ofB (zC o x y):=by rw [yE]
noncomputable def chT (o:Option Bool) (r:Ou T):Ou T:=match o with
 | some true=>r
 | some false=>.ok (.bl false)
 | none=>.bad
theorem rz (o o':Cm) (a b c:E):yE Ψ (.chain o o' a b c) τ=(yE Ψ a τ).bind fun x=>(yE Ψ b τ).bind fun y=>chT (zC o x y) ((yE Ψ c τ).bind fun u=>ofB (zC o' y u)):=by
 rw [yE]
 all_goals first | rfl | (congr 1; funext x; congr 1; funext y; cases zC o x y <;> first | rfl | (rename_i z; cases z <;> rfl)) | (congr 1; done)
noncomputable def M6 (x:T) (r:Ou T):Ou T:=match x with
 | .bl true=>r
 | .bl false=>.ok (.bl false)
 | _=>.bad
noncomputable def orT (x:T) (r:Ou T):Ou T:=match x with
 | .bl true=>.ok (.bl true)
 | .bl false=>r
 | _=>.bad
noncomputable def xF {α:Type} (x:T) (r s:Ou α):Ou α:=match x with
 | .bl true=>r
 | .bl false=>s
 | _=>.bad
theorem iB (a b:E):yE Ψ (.and a b) τ=(yE Ψ a τ).bind fun x=>M6 x (yE Ψ b τ):=by
 rw [yE]
 all_goals first | rfl | (congr 1; funext x; cases x <;> first | rfl | (rename_i z; cases z <;> rfl)) | (congr 1; done)
theorem j3 (a b:E):yE Ψ (.or a b) τ=(yE Ψ a τ).bind fun x=>orT x (yE Ψ b τ):=by
 rw [yE]
 all_goals first | rfl | (congr 1; funext x; cases x <;> first | rfl | (rename_i z; cases z <;> rfl)) | (congr 1; done)
noncomputable def oj (f:List T→T) (xs:List T):Ou T:=if xs.length < ag then .ok (f xs) else .bad
theorem Ez (es:List E):yE Ψ (.tup es) τ=(yEs Ψ es τ).bind (oj .tup):=by rw [yE]; rfl
theorem j5 (es:List E):yE Ψ (.lst es) τ=(yEs Ψ es τ).bind (oj .lst):=by rw [yE]; rfl
theorem jT (a i:E):yE Ψ (.ix a i) τ=(yE Ψ a τ).bind fun x=>(yE Ψ i τ).bind fun y=>zI x y:=by rw [yE]
theorem bX (f:Nat) (es:List E):yE Ψ (.call f es) τ=(yEs Ψ es τ).bind (Ψ f):=by rw [yE]
theorem bZ (b:Bi) (es:List E):yE Ψ (.bi b es) τ=(yEs Ψ es τ).bind (zB b):=by rw [yE]
noncomputable def uM (t:Ty):T→Ou T
 | .exo _=>.bad
 | x=>.ok (.bl (ju t x))
theorem gp (a:E) (t:Ty):yE Ψ (.isi a t) τ=(yE Ψ a τ).bind (uM t):=by
 rw [yE]
 all_goals first | rfl | (congr 1; funext x; cases x <;> rfl) | (congr 1; done)
theorem MU (b:Bool) (a:E):yE Ψ (.isN b a) τ=(yE Ψ a τ).bind fun x=>.ok (.bl (b ^^ Jp x)):=by rw [yE]
theorem aw:yEs Ψ [] τ=.ok []:=by rw [yEs]
theorem ah (e:E) (es:List E):yEs Ψ (e :: es) τ=(yE Ψ e τ).bind fun x=>(yEs Ψ es τ).bind fun xs=>.ok (x :: xs):=by rw [yEs]
theorem iU:yIf Ψ [] τ=.ok true:=by rw [yIf]
theorem Fp (e:E) (es:List E):yIf Ψ (e :: es) τ=(yE Ψ e τ).bind fun x=>xF x (yIf Ψ es τ) (.ok false):=by
 rw [yIf]
 all_goals first | rfl | (congr 1; funext x; cases x <;> first | rfl | (rename_i z; cases z <;> rfl)) | (congr 1; done)
noncomputable def K2:T→Ou (List T)
 | .lst xs=>.ok xs
 | .tup xs=>.ok xs
 | _=>.bad
noncomputable def Mu:T→Ou (List T)
 | .int j=>if -(2 ^ 62)≤j∧j < 2 ^ 62 then .ok (rangeT 0 j.toNat) else .bad
 | _=>.bad
noncomputable def Gs:T→T→Ou (List T)
 | .int i,.int j=>if (-(2 ^ 62)≤i∧i < 2 ^ 62)∧-(2 ^ 62)≤j∧j < 2 ^ 62 then .ok (rangeT i (j - i).toNat) else .bad
 | _,_=>.bad
noncomputable def enT:T→Ou (List T)
 | .lst xs=>.ok (mB 0 xs)
 | _=>.bad
theorem eD (e:E):yIt Ψ (.seq e) τ=(yE Ψ e τ).bind K2:=by
 rw [yIt]
 all_goals first | rfl | (congr 1; funext x; cases x <;> rfl) | (congr 1; done)
theorem GL (e:E):yIt Ψ (.rng e) τ=(yE Ψ e τ).bind Mu:=by
 rw [yIt]
 all_goals first | rfl | (congr 1; funext x; cases x <;> rfl) | (congr 1; done)
theorem xT (a b:E):yIt Ψ (.rng2 a b) τ=(yE Ψ a τ).bind fun x=>(yE Ψ b τ).bind fun y=>Gs x y:=by
 rw [yIt]
 all_goals first | rfl | (congr 1; funext x; congr 1; funext y; cases x <;> cases y <;> rfl) | (congr 1; done)
theorem Hg (e:E):yIt Ψ (.enu e) τ=(yE Ψ e τ).bind enT:=by
 rw [yIt]
 all_goals first | rfl | (congr 1; funext x; cases x <;> rfl) | (congr 1; done)
theorem Ha (a b:E):yIt Ψ (.zip a b) τ=(yE Ψ a τ).bind fun x=>(yE Ψ b τ).bind fun y=>zpT x y:=by
 rw [yIt]
theorem Ot (xs ys:List T):zpT (.lst xs) (.lst ys)=.ok (mq xs ys):=rfl
noncomputable def gU (μ:Nat→Md) (k:Nat) (e:E):Nat→Nat→Bool:=fun i lv=>gts μ i lv k e
noncomputable def gUL (μ:Nat→Md) (k:Nat) (es:List E):Nat→Nat→Bool:=fun i lv=>dz μ i lv k es
noncomputable def gUI (μ:Nat→Md) (k:Nat) (it:It):Nat→Nat→Bool:=fun i lv=>gG μ i lv k it
noncomputable def gP (μ:Nat→Md) (e i:E):Nat→Nat→Bool:=fun k lv=>gts μ k lv 0 e || gts μ k lv 2 i
theorem BA (μ:Nat→Md) (k:Nat) (e:E) (i lv:Nat):gU μ k e i lv=gts μ i lv k e:=rfl
theorem Dw (μ:Nat→Md) (k:Nat) (e:List E) (i lv:Nat):gUL μ k e i lv=dz μ i lv k e:=rfl
theorem Ds (μ:Nat→Md) (k:Nat) (e:It) (i lv:Nat):gUI μ k e i lv=gG μ i lv k e:=rfl
theorem nr {α:Type} {a:α}:a=a:=of_eq_true (eq_self a)
noncomputable def DH:E→Bool
 | .var _=>true
 | _=>false
noncomputable def Eh:List E→Bool
 | []=>false
 | e :: _=>DH e
noncomputable def pG (X:Fx):E→Bool
 | .call f es=>Eh es && decide (0 < (X.μ f).mv)
 | _=>false
theorem ur (f:Nat) (es:List E):pG X (.call f es)=(Eh es && decide (0 < (X.μ f).mv)):=nr
theorem Cd (e:E) (es:List E):Eh (e :: es)=DH e:=nr
theorem x8 (i:Nat):pG X (.var i)=false:=nr
theorem Dr (i:Nat):DH (.var i)=true:=nr
theorem A8 (μ:Nat→Md) (i:Nat):dm μ (.var i)=0:=rfl
theorem qc (o:Op2) (a b:E):pG X (.op o a b)=false:=nr
theorem wA (es:List E):pG X (.lst es)=false:=nr
theorem Bn (o:Bi) (es:List E):pG X (.bi o es)=false:=nr
theorem Bc (μ:Nat→Md) (es:List E):dm μ (.lst es)=1:=by simp only [dm]
theorem vU (μ:Nat→Md) (cs:List (Option Nat)) (t:Tg) (it:It) (fs:List E) (e:E):dm μ (.comp cs t it fs e)=if dm μ e=0 then 1 else 2:=by simp only [dm]
theorem E2 (μ:Nat→Md) (f:Nat) (es:List E):dm μ (.call f es)=(μ f).lv:=by simp only [dm]
theorem CY (μ:Nat→Md) (es:List E):dm μ (.bi .list es)=1:=by simp only [dm]
theorem DP (μ:Nat→Md) (a b:E):dm μ (.op .fdiv a b)=0:=rfl
theorem uO (μ:Nat→Md) (a b:E):dm μ (.op .mod a b)=0:=rfl
theorem xH (μ:Nat→Md) (es:List E):dm μ (.bi .abs es)=0:=rfl
theorem Bw (xs:List T):lvT (.lst xs)=if xs.all isL then 2 else 1:=rfl
theorem fB (t:Tg) (e:E) (hm:pG X e=false):yS Ψ ΨM X n (.set t e) τ own=(yE Ψ e τ).bind fun x=>sX (aW t x τ) (fF X (dn (gU X.μ 0 e) own) t e x τ):=by
 cases e with
 | call f es=>
   cases es with
   | nil=>rfl
   | cons a r=>
     cases a with
     | var v=>exact if_neg (by simpa [pG,Eh,DH] using hm)
     | _=>rfl
 | _=>rfl
theorem pZ (e:E) (hm:pG X e=false):yS Ψ ΨM X n (.expr e) τ own=(yE Ψ e τ).bind fun _=>.ok (.nx τ (dn (gU X.μ 0 e) own)):=by
 cases e with
 | call f es=>
   cases es with
   | nil=>rfl
   | cons a r=>
     cases a with
     | var v=>exact if_neg (by simpa [pG,Eh,DH] using hm)
     | _=>rfl
 | _=>rfl
theorem J5 (v:Nat) (i e:E):yS Ψ ΨM X n (.put (.var v) i e) τ own=(yE Ψ e τ).bind fun z=>gB (hU (aH τ v)) fun xs=>(yE Ψ i τ).bind fun y=>DB τ (dn (gP X.μ e i) own) v xs y z:=by rfl
theorem Me (v:Nat) (es:List E):yS Ψ ΨM X n (.mth .extend (.var v) es) τ own=Dt X.μ τ own v es (yEs Ψ es τ):=by rfl
theorem Hc (r v:Nat) (c:Bool) (i:E) (a b:Int):yS Ψ ΨM X n (.rows r v c i a b) τ own=vP τ (dn (frg (.nm r)) own) r v c i a b:=by rfl
theorem EI (v:Nat) (es:List E):yS Ψ ΨM X n (.mth .append (.var v) es) τ own=gB (hU (aH τ v)) fun xs=>if 0 < cJ (dn (gUL X.μ 0 es) own) v then (yEs Ψ es τ).bind fun ds=>wG .append τ (dn (gUL X.μ 0 es) own) v xs ds else .bad:=by rfl
theorem HS (v:Nat) (es:List E):yS Ψ ΨM X n (.mth .rot (.var v) es) τ own=gB (hU (aH τ v)) fun xs=>if 0 < cJ (dn (gUL X.μ 0 es) own) v then (yEs Ψ es τ).bind fun ds=>wG .rot τ (dn (gUL X.μ 0 es) own) v xs ds else .bad:=by rfl
noncomputable def Dh (X:Fx) (own:Own) (e:E) (x:T):Ou FlT:=if X.lv=0∨isL x=false then .ok (.rt x) else if X.lv≤(match e with | .var i=>cJ own i | e=>min (dm X.μ e) (lvT x)) then .ok (.rt x) else .bad
theorem bC (e:E):yS Ψ ΨM X n (.ret e) τ own=(yE Ψ e τ).bind (Dh X own e):=by
 rw [fP]
 congr 1
 funext x
 unfold Dh
 split
 · rfl
 · cases e <;> rfl
theorem dU (c:E) (a b:List S):yS Ψ ΨM X n (.ite c a b) τ own=(yE Ψ c τ).bind fun x=>xF x (ySs Ψ ΨM X n a τ (dn (gU X.μ 2 c) own)) (ySs Ψ ΨM X n b τ (dn (gU X.μ 2 c) own)):=by
 rw [fR]
 all_goals first | rfl | (congr 1; funext x; cases x <;> first | rfl | (rename_i z; cases z <;> rfl)) | (congr 1; done)
theorem zc (t:Tg) (it:It) (body:List S):yS Ψ ΨM X n (.for t it body) τ own=((yIt Ψ it τ).bind fun xs=>bN (bA Ψ ΨM X n t body) xs τ (dn (gUI X.μ 0 it) own)).noX:=by
 rfl
theorem xm (c:E) (body:List S):yS Ψ ΨM X n (.while c body) τ own=(i3 (Kq Ψ c) (gU X.μ 2 c) (J4 Ψ ΨM X n body) n τ own).noX:=by
 rfl
theorem ax:ySs Ψ ΨM X n [] τ own=.ok (.nx τ own):=by rw [ySs]
noncomputable def Lk (r:FlT) (k:ao→Own→Ou FlT):Ou FlT:=match r with
 | .nx τ own=>k τ own
 | r=>.ok r
theorem au (s:S) (ss:List S):ySs Ψ ΨM X n (s :: ss) τ own=(yS Ψ ΨM X n s τ own).bind fun r=>Lk r (ySs Ψ ΨM X n ss):=by
 rw [ySs]
 all_goals first | rfl | (congr 1; funext r; cases r <;> rfl) | (congr 1; done)
end
theorem br (τ:ao) (own:Own) (k:ao→Own→Ou FlT):Lk (.nx τ own) k=k τ own:=rfl
theorem aU (d:T) (k:ao→Own→Ou FlT):Lk (.rt d) k=.ok (.rt d):=rfl
theorem cP (τ:ao) (own:Own):sX (some τ) own=.ok (.nx τ own):=rfl
theorem bT {α β:Type} (a:α) (f:α→Ou β):gB (some a) f=f a:=rfl
theorem yb (xs:List T):hU (.ok (.lst xs))=some xs:=rfl
theorem mE (r:Ou T):M6 (.bl true) r=r:=rfl
theorem rT (r:Ou T):M6 (.bl false) r=.ok (.bl false):=rfl
theorem Dx (r:Ou T):orT (.bl true) r=.ok (.bl true):=rfl
theorem nR (r:Ou T):orT (.bl false) r=r:=rfl
theorem hJ {α:Type} (r s:Ou α):xF (.bl true) r s=r:=rfl
theorem i6 {α:Type} (r s:Ou α):xF (.bl false) r s=s:=rfl
theorem NU (r:Ou T):chT (some true) r=r:=rfl
theorem Ow (r:Ou T):chT (some false) r=.ok (.bl false):=rfl
theorem gv (b:Bool):N0 (.bl b)=.ok (.bl (!b)):=rfl
theorem yR (b:Int):Oj (.int b)=.ok (.int (-b)):=rfl
theorem ba (b:Bool):ofB (some b)=.ok (.bl b):=rfl
theorem uG (t:Ty) (i:Int):uM t (.int i)=.ok (.bl (ju t (.int i))):=rfl
theorem zb (t:Ty) (i:Bool):uM t (.bl i)=.ok (.bl (ju t (.bl i))):=rfl
theorem vh (t:Ty):uM t .non=.ok (.bl (ju t .non)):=rfl
theorem uI (t:Ty) (x:Str):uM t (.str x)=.ok (.bl (ju t (.str x))):=rfl
theorem jA (t:Ty) (x:List T):uM t (.tup x)=.ok (.bl (ju t (.tup x))):=rfl
theorem pX (t:Ty) (x:List T):uM t (.lst x)=.ok (.bl (ju t (.lst x))):=rfl
theorem oD (xs:List T):K2 (.lst xs)=.ok xs:=rfl
theorem OD (xs:List T):enT (.lst xs)=.ok (mB 0 xs):=rfl
theorem u4 (lv mv:Nat) (d:T):bI ⟨false,lv,mv⟩ (.ok (.rt d))=.ok d:=rfl
theorem cL (md:Md) (b:Bool):bI md (.ok (.rt (.bl b)))=.ok (.bl b):=by cases md; rename_i s _ _; cases s <;> rfl
theorem jg (md:Md) (b:Int):bI md (.ok (.rt (.int b)))=.ok (.int b):=by cases md; rename_i s _ _; cases s <;> rfl
theorem bE (μ:Nat→Md) (need:List Nat) (own:Own) (e:E) (x:T):Dh ⟨μ,need,0⟩ own e x=.ok (.rt x):=if_pos (.inl rfl)
theorem HB (μ:Nat→Md) (lv:Nat) (own:Own) (t:Tg) (e:E) (x:T) (τ:ao):fF ⟨μ,[],lv⟩ own t e x τ=dn (frg t) own:=by cases t <;> rfl
theorem bj (g:Nat→Nat→Bool):dn g []=[]:=rfl
theorem qe (g:Nat→Nat→Bool) (i lv:Nat) (r:Own):dn g ((i,lv) :: r)=if g i lv then (if lv=2∧g i 1=false then (i,1) :: dn g r else dn g r) else (i,lv) :: dn g r:=by rw [dn]
theorem qd (f:List T→T):oj f []=.ok (f []):=rfl
theorem A5 (f:List T→T) (a:T):oj f [a]=.ok (f [a]):=rfl
theorem AM (f:List T→T) (a b:T):oj f [a,b]=.ok (f [a,b]):=rfl
theorem I0 (f:List T→T) (a b c d:T):oj f [a,b,c,d]=.ok (f [a,b,c,d]):=rfl
theorem pW (i:Int):eqK (.int i):=⟨rfl,Nat.zero_le _⟩
theorem ck (i j:Int):zC .eq (.int i) (.int j)=some (decide (i=j)):=by
 show (if eqK (.int i)∧eqK (.int j) then some (eqT (.int i) (.int j)) else none)=_
 rw [if_pos ⟨pW i,pW j⟩,eqT,Bool.beq_eq_decide_eq]
theorem dD (i j:Int):zC .ne (.int i) (.int j)=some (!decide (i=j)):=by
 show (if eqK (.int i)∧eqK (.int j) then some (!eqT (.int i) (.int j)) else none)=_
 rw [if_pos ⟨pW i,pW j⟩,eqT,Bool.beq_eq_decide_eq]
theorem gX (i j:Int):zC .lt (.int i) (.int j)=some (decide (i < j)):=rfl
theorem oI (i j:Int):zC .le (.int i) (.int j)=some (decide (i≤j)):=rfl
theorem tN (i j:Int):zC .gt (.int i) (.int j)=some (decide (j < i)):=rfl
theorem fw (i j:Int):zC .ge (.int i) (.int j)=some (decide (j≤i)):=rfl
theorem Ai (i j:Int):z2 .add (.int i) (.int j)=.ok (.int (i + j)):=rfl
theorem E5 (i j:Int):z2 .sub (.int i) (.int j)=.ok (.int (i - j)):=rfl
theorem jR {i j:Int} (h:0 < j):z2 .mod (.int i) (.int j)=.ok (.int (i % j)):=by
 show (if j ≠ 0 then Ou.ok (T.int (i.fmod j)) else .bad)=_
 rw [if_pos (by omega),Int.fmod_eq_emod_of_nonneg i (by omega)]
theorem Be {α:Type} {xs:List α} {k:Nat} {d:α} (h:xs[k]?=some d):L2.atI xs (k:Int)=some d:=by
 have hl:=(List.getElem?_eq_some_iff.mp h).1
 unfold L2.atI L2.ixN
 rw [if_pos (by omega),if_pos (by omega)]
 simpa using h
theorem iF {xs:List T} {k:Nat} {d:T} (h:xs[k]?=some d):zI (.lst xs) (.int (k:Nat))=.ok d:=by
 rw [zI,Be h]
theorem EW {xs:List T} {k:Nat} {d:T} (h:xs[k]?=some d):zI (.tup xs) (.int (k:Nat))=.ok d:=by
 rw [zI,Be h]
theorem D1 (x0:T) (xs:List T):zI (.lst (x0 :: xs)) (.int 0)=.ok x0:=iF (k:=0) rfl
theorem tS (x0:T) (xs:List T):zI (.tup (x0 :: xs)) (.int 0)=.ok x0:=EW (k:=0) rfl
theorem OP (x0 x1:T) (xs:List T):zI (.lst (x0 :: x1 :: xs)) (.int 1)=.ok x1:=iF (k:=1) rfl
theorem tQ (x0 x1:T) (xs:List T):zI (.tup (x0 :: x1 :: xs)) (.int 1)=.ok x1:=EW (k:=1) rfl
theorem OS (x0 x1 x2:T) (xs:List T):zI (.lst (x0 :: x1 :: x2 :: xs)) (.int 2)=.ok x2:=iF (k:=2) rfl
theorem N7 (x0 x1 x2 x3:T) (xs:List T):zI (.lst (x0 :: x1 :: x2 :: x3 :: xs)) (.int 3)=.ok x3:=iF (k:=3) rfl
theorem Ic {xs:List T} {d:T} (h:xs.getLast?=some d):zI (.lst xs) (.int (-1))=.ok d:=by
 have hl:0 < xs.length:=List.length_pos_iff.mpr fun z=>by subst z; cases h
 have e:L2.atI xs (-1)=some d:=by
   unfold L2.atI L2.ixN
   rw [if_neg (by decide),if_pos (by omega),← h,List.getLast?_eq_getElem?]
   have:(-1 + (xs.length:Int)).toNat=xs.length - 1:=by omega
   rw [this]; rfl
 rw [zI,e]
noncomputable def big:Nat:=10 ^ 2700
theorem qu {n:Nat} (h:n < big):n.log2 < 9000:=by
 rcases Nat.eq_zero_or_pos n with h0 | hp
 · subst h0; decide
 · refine (Nat.log2_lt (by omega)).mpr (Nat.lt_of_lt_of_le h ?_)
   unfold big
   exact Nat.le_of_ble_eq_true (by decide +kernel)
theorem kO {n:Nat} (h:n < 10 ^ 200):n < big:=Nat.lt_of_lt_of_le h (Nat.pow_le_pow_right (by decide) (by decide))
theorem wK {j:Int} (h0:j ≠ 0) (h:j.natAbs < big):aT j:=⟨h0,qu h⟩
theorem mulOk_of {i j:Int} (h:i.natAbs < big) (h':j.natAbs < big):aL i j:=.inr (.inr ⟨Nat.lt_of_lt_of_le (qu h) (by decide),Nat.lt_of_lt_of_le (qu h') (by decide)⟩)
theorem eY {i j:Int} (h:j.natAbs < 2 ^ 64):aL i j:=.inr (.inl (by
 rcases Nat.eq_zero_or_pos j.natAbs with h0 | hp
 · rw [h0]; decide
 · exact (Nat.log2_lt (by omega)).mpr h))
theorem fN {i j:Int} (h:i.natAbs < 2 ^ 64):aL i j:=.inl (by
 rcases Nat.eq_zero_or_pos i.natAbs with h0 | hp
 · rw [h0]; decide
 · exact (Nat.log2_lt (by omega)).mpr h)
theorem iX {i j:Int} (h:0 < j) (h':j.natAbs < big):z2 .fdiv (.int i) (.int j)=.ok (.int (i / j)):=by
 show (if aT j then Ou.ok (T.int (i.fdiv j)) else .bad)=_
 rw [if_pos (wK (by omega) h'),Int.fdiv_eq_ediv_of_nonneg i (by omega)]
theorem FQ {i j:Int} (h:j ≠ 0) (h':j.natAbs < big):z2 .fdiv (.int i) (.int j)=.ok (.int (i.fdiv j)):=by
 show (if aT j then Ou.ok (T.int (i.fdiv j)) else .bad)=_
 rw [if_pos (wK h h')]
theorem e6 {i j:Int} (h:aL i j):z2 .mul (.int i) (.int j)=.ok (.int (i * j)):=by
 show (if aL i j then Ou.ok (T.int (i * j)) else .bad)=_
 rw [if_pos h]
theorem Np {i:Int} {n:Nat} (h:n≤1000000) (h':i.natAbs < 2 ^ 64):z2 .pow (.int i) (.int (n:Int))=.ok (.int (i ^ n)):=by
 show (if 0≤(n:Int)∧(n:Int)≤1000000∧i.natAbs < 2 ^ 64 then Ou.ok (T.int (i ^ (n:Int).toNat)) else .bad)=_
 rw [if_pos ⟨by omega,by omega,h'⟩]
 rfl
theorem oq (i:Int):zB .abs [.int i]=.ok (.int (i.natAbs:Int)):=by
 show Ou.ok (T.int (if i < 0 then -i else i))=_
 congr 2
 split <;> omega
theorem eJ (xs:List T):zB .len [.lst xs]=.ok (.int (xs.length:Nat)):=rfl
theorem g9 (xs:List T):zB .len [.tup xs]=.ok (.int (xs.length:Nat)):=rfl
theorem KJ (i j:Int):zB .max [.int i,.int j]=.ok (.int (max i j)):=by
 show Ou.ok (T.int (if j > i then j else i))=_
 congr 2; rw [Int.max_def]; split <;> split <;> omega
theorem DC (i j:Int):zB .min [.int i,.int j]=.ok (.int (min i j)):=by
 show Ou.ok (T.int (if j < i then j else i))=_
 congr 2; rw [Int.min_def]; split <;> split <;> omega
theorem Fe {α:Type} (xs:List α) (f:α→Bool):uF (xs.map fun x=>.bl (f x))=some (xs.all f):=by
 induction xs with
 | nil=>rfl
 | cons x xs ih=>simp only [List.map_cons,uF,ih,Option.map_some,List.all_cons]
theorem rj {α:Type} (xs:List α) (f:α→Bool):zB .all [.lst (xs.map fun x=>.bl (f x))]=.ok (.bl (xs.all f)):=by
 show ofB (uF _)=_
 rw [Fe]; rfl
theorem cO {α:Type} (xs:List α) {g:α→T} {f:T→Ou (Option T)} {k:α→T} (h:∀ x ∈ xs,f (g x)=.ok (some (k x))):cb f (xs.map g)=.ok (xs.map k):=by
 induction xs with
 | nil=>rfl
 | cons x xs ih=>
   rw [List.map_cons,cb,h x (List.mem_cons_self ..),ih fun y hy=>h y (List.mem_cons_of_mem _ hy)]
   rfl
theorem AY (xs:List T) {f:T→Ou (Option T)} {k:T→T} (h:∀ x ∈ xs,f x=.ok (some (k x))):cb f xs=.ok (xs.map k):=by
 have:=cO (g:=id) xs h
 rwa [List.map_id] at this
theorem xf {α:Type} (xs:List α) {g:α→T} {f:T→Ou (Option T)} {p:α→Bool} {k:α→T} (h:∀ x ∈ xs,f (g x)=.ok (if p x then some (k x) else none)):cb f (xs.map g)=.ok ((xs.filter p).map k):=by
 induction xs with
 | nil=>rfl
 | cons x xs ih=>
   rw [List.map_cons,cb,h x (List.mem_cons_self ..),ih fun y hy=>h y (List.mem_cons_of_mem _ hy),List.filter_cons]
   cases p x <;> rfl
theorem EX (a b:Nat) (h:b ≠ 0):Nat.gcd b (a % b)=Nat.gcd a b:=by
 rw [Nat.gcd_comm a b,Nat.gcd_rec b a,Nat.gcd_comm]
end Sv
namespace Sv
open PySem PySem.Spec L2
open Ev (D aL aT ag)
noncomputable def Au (r:FlT) (k:ao→Own→Ou FlT):Ou FlT:=match r with
 | .nx τ own=>k τ own
 | .rt d=>.ok (.rt d)
theorem cU (τ:ao) (own:Own) (k:ao→Own→Ou FlT):Au (.nx τ own) k=k τ own:=rfl
theorem yB (d:T) (k:ao→Own→Ou FlT):Au (.rt d) k=.ok (.rt d):=rfl
theorem dH (f:T→ao→Own→Ou FlT) (τ:ao) (own:Own):bN f [] τ own=.ok (.nx τ own):=by rw [bN]
theorem bu (f:T→ao→Own→Ou FlT) (x:T) (xs:List T) (τ:ao) (own:Own):bN f (x :: xs) τ own=(f x τ own).bind fun r=>Au r (bN f xs):=by
 rw [bN]
 all_goals first | rfl | (congr 1; funext r; cases r <;> rfl) | (congr 1; done)
theorem wM (c:ao→Ou T) (g:Nat→Nat→Bool) (f:ao→Own→Ou FlT) (n:Nat) (τ:ao) (own:Own) :
   i3 c g f (n + 1) τ own=(c τ).bind fun x=>xF x ((f τ (dn g own)).bind fun r=>Au r (i3 c g f n)) (.ok (.nx τ (dn g own))):=by
 rw [i3]
 all_goals first | rfl | (congr 1; done) | (congr 1; funext x; cases x <;> first | rfl | (rename_i z; cases z <;> first | rfl | (show Ou.bind _ _=Ou.bind _ _; congr 1; funext r; cases r <;> rfl)))
theorem xy (Ψ ΨM:FnT) (X:Fx) (n:Nat) (c:E) (body:List S) (g:Nat→Nat→Bool) (mkE:T→T→Option T→ao)
   (hc:∀ (a b:Nat) r,yE Ψ c (mkE (.int a) (.int b) r)=.ok (.bl (decide (b ≠ 0))))
   (hb:∀ (a b:Nat) r,b ≠ 0→ySs Ψ ΨM X n body (mkE (.int a) (.int b) r) []=.ok (.nx (mkE (.int b) (.int ((a % b:Nat):Int)) (some (.int ((a % b:Nat):Int)))) [])) :
   ∀ (m a b:Nat) (r:Option T),b < m→∃ r',i3 (Kq Ψ c) g (J4 Ψ ΨM X n body) m (mkE (.int a) (.int b) r) []=.ok (.nx (mkE (.int (Nat.gcd a b:Nat)) (.int 0) r') []):=by
 intro m
 induction m with
 | zero=>intro a b r h; omega
 | succ m ih=>
   intro a b r h
   rw [wM,HJ,hc,Ou.aa]
   by_cases hb0:b=0
   · subst hb0
     exact ⟨r,by rw [Nat.gcd_zero_right]; rfl⟩
   · obtain ⟨r',e⟩:=ih b (a % b) (some (.int ((a % b:Nat):Int))) (by have:=Nat.mod_lt a (show 0 < b by omega); omega)
     refine ⟨r',?_⟩
     rw [decide_eq_true hb0,hJ,bj,GV,hb a b r hb0,Ou.aa,cU,e,EX a b hb0]
noncomputable def oA:List S:=[.set (.nm 0) (.bi .abs [(.var 0)]),.set (.nm 1) (.bi .abs [(.var 1)]),.while (.cmp .gt (.var 1) (.cI 0)) [.set (.nm 2) (.op .mod (.var 0) (.var 1)),.set (.nm 0) (.var 1),.set (.nm 1) (.var 2)],.ret (.var 0)]
noncomputable def rR:List S:=[.set (.nm 2) (.bi .abs [(.var 0)]),.set (.nm 3) (.bi .abs [(.var 1)]),.while (.cmp .ne (.var 3) (.cI 0)) [.set (.nm 4) (.op .mod (.var 2) (.var 3)),.set (.nm 2) (.var 3),.set (.nm 3) (.var 4)],.ret (.var 2)]
theorem By (a b:Nat) (h:b ≠ 0):z2 .mod (.int (a:Int)) (.int (b:Int))=.ok (.int ((a % b:Nat):Int)):=by
 rw [jR (by omega)]; rfl
theorem sm (Ψ ΨM:FnT) (μ:Nat→Md) (sc:Bool) (a b:Int):mkT Ψ ΨM μ ⟨sc,0,0⟩ [] oA 2 3 [.int a,.int b]=.ok (.int (Int.gcd a b:Nat)):=by
 obtain ⟨r',e⟩:=xy Ψ ΨM ⟨μ,[],0⟩ (aR [.int a,.int b]) (.cmp .gt (.var 1) (.cI 0)) [.set (.nm 2) (.op .mod (.var 0) (.var 1)),.set (.nm 0) (.var 1),.set (.nm 1) (.var 2)] (gU μ 2 (.cmp .gt (.var 1) (.cI 0))) (fun x y r=>[some x,some y,r])
   (fun a b r=>by
     simp only [aD,cX,dM,ba,Ou.aa,aH,tN,List.getElem?_cons_zero,List.getElem?_cons_succ]
     congr 2
     exact decide_eq_decide.mpr (by omega))
   (fun a b r hb=>by simp only [aD,iK,fB,ax,au,x8,A8,qc,uO,br,cP,bj,Ou.aa,aH,aW.eq_def,fF,List.getElem?_cons_zero,List.getElem?_cons_succ,List.set_cons_zero,List.set_cons_succ,List.contains_nil,Option.isSome_some,Bool.and_true,Bool.false_eq_true,if_false,Nat.min_def,and_true,By a b hb]) (aR [.int a,.int b]) a.natAbs b.natAbs none (by simp only [aR,Hz]; omega)
 show bI ⟨sc,0,0⟩ (ySs Ψ ΨM ⟨μ,[],0⟩ _ oA [some (.int a),some (.int b),none] [])=_
 simp only [oA,aD,bZ,aw,ah,fB,xm,au,Bn,xH,br,cP,bj,Ou.aa,aH,aW.eq_def,fF,oq,List.getElem?_cons_zero,List.getElem?_cons_succ,List.set_cons_zero,List.set_cons_succ,List.contains_nil,Option.isSome_some,Bool.and_true,Bool.false_eq_true,if_false,Nat.min_def,and_true]
 simp only [e,aD,bC,au,br,aU,jg,bE,Ou.aa,Ou.ip,aH,List.getElem?_cons_zero]
 rfl
theorem B1 (Ψ ΨM:FnT) (μ:Nat→Md) (sc:Bool) (a b:Int):mkT Ψ ΨM μ ⟨sc,0,0⟩ [] rR 2 5 [.int a,.int b]=.ok (.int (Int.gcd a b:Nat)):=by
 obtain ⟨r',e⟩:=xy Ψ ΨM ⟨μ,[],0⟩ (aR [.int a,.int b]) (.cmp .ne (.var 3) (.cI 0)) [.set (.nm 4) (.op .mod (.var 2) (.var 3)),.set (.nm 2) (.var 3),.set (.nm 3) (.var 4)] (gU μ 2 (.cmp .ne (.var 3) (.cI 0))) (fun x y r=>[some (.int a),some (.int b),some x,some y,r])
   (fun a b r=>by
     simp only [aD,cX,dM,ba,Ou.aa,aH,dD,List.getElem?_cons_zero,List.getElem?_cons_succ]
     congr 2
     rw [← decide_not]
     exact decide_eq_decide.mpr (by omega))
   (fun a b r hb=>by simp only [aD,iK,fB,ax,au,x8,A8,qc,uO,br,cP,bj,Ou.aa,aH,aW.eq_def,fF,List.getElem?_cons_zero,List.getElem?_cons_succ,List.set_cons_zero,List.set_cons_succ,List.contains_nil,Option.isSome_some,Bool.and_true,Bool.false_eq_true,if_false,Nat.min_def,and_true,By a b hb]) (aR [.int a,.int b]) a.natAbs b.natAbs none (by simp only [aR,Hz]; omega)
 show bI ⟨sc,0,0⟩ (ySs Ψ ΨM ⟨μ,[],0⟩ _ rR [some (.int a),some (.int b),none,none,none] [])=_
 simp only [rR,aD,bZ,aw,ah,fB,xm,au,Bn,xH,br,cP,bj,Ou.aa,aH,aW.eq_def,fF,oq,List.getElem?_cons_zero,List.getElem?_cons_succ,List.set_cons_zero,List.set_cons_succ,List.contains_nil,Option.isSome_some,Bool.and_true,Bool.false_eq_true,if_false,Nat.min_def,and_true]
 simp only [e,aD,bC,au,br,aU,jg,bE,Ou.aa,Ou.ip,aH,List.getElem?_cons_zero,List.getElem?_cons_succ]
 rfl
noncomputable def uB:List S:=[.ite (.cmp .lt (.var 1) (.bi .len [(.var 0)])) [.ret (.ix (.var 0) (.var 1))] [],.ret (.cI 0)]
noncomputable def inT (ns:List Int):T:=.lst (ns.map .int)
theorem Jc (Ψ ΨM:FnT) (μ:Nat→Md) (sc:Bool) (ns:List Int) (k:Nat):∃ c:Int,mkT Ψ ΨM μ ⟨sc,0,0⟩ [] uB 2 2 [inT ns,.int (k:Nat)]=.ok (.int c):=by
 show ∃ c:Int,bI ⟨sc,0,0⟩ (ySs Ψ ΨM ⟨μ,[],0⟩ _ uB [some (inT ns),some (.int (k:Nat))] [])=_
 unfold inT
 by_cases h:(k:Int) < ((ns.map T.int).length:Nat)
 · have hk':k < ns.length:=by rw [List.length_map] at h; omega
   have g:zI (.lst (ns.map .int)) (.int (k:Nat))=.ok (.int ns[k]):=iF (by rw [List.getElem?_map,List.getElem?_eq_getElem hk']; rfl)
   exact ⟨ns[k],by simp only [uB,aD,dM,jT,bZ,aw,ah,bC,dU,ax,au,aU,hJ,ba,jg,bE,bj,Ou.aa,aH,gX,eJ,List.getElem?_cons_zero,List.getElem?_cons_succ,decide_true,h,decide_true,g]⟩
 · exact ⟨0,by simp only [uB,aD,cX,dM,jT,bZ,aw,ah,bC,dU,ax,au,br,aU,i6,ba,jg,bE,bj,Ou.aa,aH,gX,eJ,List.getElem?_cons_zero,List.getElem?_cons_succ,decide_false,h,decide_false]⟩
noncomputable def vq:List S:=[.ite (.cmp .ge (.bi .abs [(.var 0)]) (.op .pow (.cI 10) (.cI 18))) [.ret (.op .fdiv (.var 0) (.var 1))] [],.ret (.op .add (.var 0) (.var 1))]
theorem DY (i:Int) (n:Nat) (h':i.natAbs < 2 ^ 64:=by decide) (h:n≤1000000:=by decide):z2 .pow (.int i) (.int (n:Int))=.ok (.int (i ^ n)):=Np h h'
theorem p18:z2 .pow (.int 10) (.int 18)=.ok (.int (10 ^ 18)):=DY 10 18
theorem p40:z2 .pow (.int 10) (.int 40)=.ok (.int (10 ^ 40)):=DY 10 40
theorem IT (Ψ ΨM:FnT) (μ:Nat→Md) (sc:Bool) (c u:Int) (h0:0 < u) (h1:u.natAbs < 10 ^ 200):∃ r:Int,mkT Ψ ΨM μ ⟨sc,0,0⟩ [] vq 2 2 [.int c,.int u]=.ok (.int r):=by
 show ∃ c':Int,bI ⟨sc,0,0⟩ (ySs Ψ ΨM ⟨μ,[],0⟩ _ vq [some (.int c),some (.int u)] [])=_
 by_cases h:(10:Int) ^ 18≤(c.natAbs:Int)
 · exact ⟨c / u,by simp only [vq,aD,cX,iK,dM,bZ,aw,ah,bC,dU,ax,au,aU,hJ,ba,jg,bE,bj,Ou.aa,aH,fw,oq,List.getElem?_cons_zero,List.getElem?_cons_succ,decide_true,p18,h,decide_true,iX h0 (kO h1)]⟩
 · exact ⟨c + u,by simp only [vq,aD,cX,iK,dM,bZ,aw,ah,bC,dU,ax,au,br,aU,i6,ba,jg,bE,bj,Ou.aa,aH,fw,Ai,oq,List.getElem?_cons_zero,List.getElem?_cons_succ,decide_false,p18,h,decide_false]⟩
noncomputable def Dig:List Int→List Int→Prop
 | [],[]=>True
 | r :: rs,b :: bs=>(0≤r∧r < b)∧Dig rs bs
 | _,_=>False
theorem Dig.length:∀ {rs bs:List Int},Dig rs bs→rs.length=bs.length
 | [],[],_=>rfl
 | _ :: _,_ :: _,h=>congrArg (· + 1) h.2.length
theorem N5 (l:List T) (d:T):(l++[d]).length=l.length + 1:=by rw [List.length_append,List.length_singleton]
theorem Gu {l:List T} {d:T} (h:l.length < ag):zM .append l [d]=some (l++[d]):=by
 show (if l.length < ag then some (l++[d]) else none)=_
 rw [if_pos h]
noncomputable def A9:List S:=[.mth .append (.var 2) [(.op .mod (.var 0) (.var 3))],.set (.nm 0) (.op .fdiv (.var 0) (.var 3))]
noncomputable def pz:List S:=[.set (.nm 5) (.op .mod (.op .add (.op .add (.op .add (.op .mul (.var 0) (.cI 48271)) (.op .mul (.op .mul (.var 4) (.var 4)) (.cI 69621))) (.op .mul (.var 4) (.cI 16807))) (.cI 11)) (.cI 2147483647)),.mth .append (.var 2) [(.op .mod (.op .fdiv (.op .mod (.op .add (.op .add (.op .mul (.var 5) (.cI 40692)) (.var 0)) (.op .mul (.cI 31) (.var 4))) (.cI 2147483399)) (.cI 7)) (.var 3))]]
noncomputable def la:List S:=[.set (.nm 2) (.lst []),.ite (.cmp .ge (.bi .abs [(.var 0)]) (.op .pow (.cI 10) (.cI 18))) [.for (.nm 3) (.seq (.var 1)) A9,.ret (.var 2)] [],.for (.tp [4,3]) (.enu (.var 1)) pz,.ret (.var 2)]
theorem t9 (Ψ ΨM:FnT) (μ:Nat→Md) (n:Nat):∀ (bs:List Int) (c:Int) (x r3 r4 r5:Option T) (row:List T),(∀ b ∈ bs,0 < b∧b.natAbs < big)→row.length + bs.length < ag →
   ∃ (rs:List Int) (c':Int) (r3':Option T),Dig rs bs∧bN (bA Ψ ΨM ⟨μ,[2],0⟩ n (.nm 3) A9) (bs.map T.int) [some (.int c),x,some (.lst row),r3,r4,r5] [(2,1)]
     = .ok (.nx [some (.int c'),x,some (.lst (row++rs.map T.int)),r3',r4,r5] [(2,1)])
 | [],c,x,r3,r4,r5,row,_,_=>⟨[],c,r3,trivial,by simp only [List.map_nil,dH,List.append_nil]⟩
 | b :: bs,c,x,r3,r4,r5,row,hb,hl=>by
   obtain ⟨h0,h1⟩:=hb b (by simp)
   simp only [List.length_cons] at hl
   obtain ⟨rs,c',r3',dg,e⟩:=t9 Ψ ΨM μ n bs (c / b) x (some (.int b)) r4 r5 (row++[.int (c % b)]) (fun y hy=>hb y (by simp [hy])) (by rw [N5]; omega)
   refine ⟨(c % b) :: rs,c',r3',⟨⟨Int.emod_nonneg _ (by omega),Int.emod_lt_of_pos _ h0⟩,dg⟩,?_⟩
   have hlt:row.length < ag:=by omega
   rw [List.map_cons,bu]
   have e1:bA Ψ ΨM ⟨μ,[2],0⟩ n (.nm 3) A9 (.int b) [some (.int c),x,some (.lst row),r3,r4,r5] [(2,1)]=.ok (.nx [some (.int (c / b)),x,some (.lst (row++[.int (c % b)])),some (.int b),r4,r5] [(2,1)]):=by
     simp only [A9,aD,iK,aw,ah,fB,EI,ax,au,qc,DP,br,cP,bT,yb,bj,qe,Ou.aa,aH,aW.eq_def,fF,frg,cJ,BA,Dw,gts,dz,tgN,wG,qM,List.getElem?_cons_zero,List.getElem?_cons_succ,List.set_cons_zero,List.set_cons_succ,List.contains_cons,List.contains_nil,List.lookup_cons,Option.getD_some,Option.isSome_some,Bool.and_true,Bool.and_false,Bool.or_false,Bool.false_eq_true,if_true,if_false,beq_self_eq_true,Nat.reduceBEq,Nat.reduceLT,Nat.min_def,Nat.lt_irrefl,decide_false,and_true,and_false,Nat.reduceEqDiff,jR h0,iX h0 h1,Gu hlt]
   rw [e1,Ou.aa,cU,e]
   simp only [List.append_assoc,List.cons_append,List.nil_append,List.map_cons]
theorem t8 (Ψ ΨM:FnT) (μ:Nat→Md) (n:Nat):∀ (bs:List Int) (k:Nat) (c:Int) (x r3 r4 r5:Option T) (row:List T),(∀ b ∈ bs,0 < b∧b.natAbs < big)→row.length + bs.length < ag→k + bs.length < ag →
   ∃ (rs:List Int) (r3' r4' r5':Option T),Dig rs bs∧bN (bA Ψ ΨM ⟨μ,[2],0⟩ n (.tp [4,3]) pz) (mB k (bs.map T.int)) [some (.int c),x,some (.lst row),r3,r4,r5] [(2,1)]
     = .ok (.nx [some (.int c),x,some (.lst (row++rs.map T.int)),r3',r4',r5'] [(2,1)])
 | [],k,c,x,r3,r4,r5,row,_,_,_=>⟨[],r3,r4,r5,trivial,by simp only [List.map_nil,mB,dH,List.append_nil]⟩
 | b :: bs,k,c,x,r3,r4,r5,row,hb,hl,hk=>by
   obtain ⟨h0,h1⟩:=hb b (by simp)
   simp only [List.length_cons] at hl hk
   have hlt:row.length < ag:=by omega
   have lm:ag=1000000:=rfl
   have kk:(k:Int) < 1000000:=by omega
   have k2:(k:Int) * (k:Int) < 1000000 * 1000000:=by
     rcases Nat.eq_zero_or_pos k with z | z
     · subst z; decide
     · exact Int.mul_lt_mul kk (by omega) (by omega) (by decide)
   have k3:(0:Int)≤(k:Int) * (k:Int):=Int.mul_nonneg (by omega) (by omega)
   have m1:z2 .mul (.int c) (.int 48271)=.ok (.int (c * 48271)):=e6 (eY (by decide))
   have m2:z2 .mul (.int (k:Int)) (.int (k:Int))=.ok (.int ((k:Int) * (k:Int))):=e6 (eY (by omega))
   have m3:z2 .mul (.int ((k:Int) * (k:Int))) (.int 69621)=.ok (.int ((k:Int) * (k:Int) * 69621)):=e6 (eY (by decide))
   have m4:z2 .mul (.int (k:Int)) (.int 16807)=.ok (.int ((k:Int) * 16807)):=e6 (eY (by decide))
   have m5:∀ z:Int,z2 .mul (.int z) (.int 40692)=.ok (.int (z * 40692)):=fun z=>e6 (eY (by decide))
   have m6:z2 .mul (.int 31) (.int (k:Int))=.ok (.int (31 * (k:Int))):=e6 (fN (by decide))
   have m7:∀ z:Int,z2 .mod (.int z) (.int 2147483647)=.ok (.int (z % 2147483647)):=fun z=>jR (by decide)
   have m8:∀ z:Int,z2 .mod (.int z) (.int 2147483399)=.ok (.int (z % 2147483399)):=fun z=>jR (by decide)
   have m9:∀ z:Int,z2 .fdiv (.int z) (.int 7)=.ok (.int (z / 7)):=fun z=>iX (by decide) (kO (by decide))
   generalize hv:((((c * 48271 + (k:Int) * (k:Int) * 69621 + (k:Int) * 16807 + 11) % 2147483647 * 40692 + c + 31 * (k:Int)) % 2147483399 / 7) % b)=v
   obtain ⟨rs,r3',r4',r5',dg,e⟩:=t8 Ψ ΨM μ n bs (k + 1) c x (some (.int b)) (some (.int (k:Int))) (some (.int ((c * 48271 + (k:Int) * (k:Int) * 69621 + (k:Int) * 16807 + 11) % 2147483647))) (row++[.int v]) (fun y hy=>hb y (by simp [hy])) (by rw [N5]; omega) (by omega)
   refine ⟨v :: rs,r3',r4',r5',⟨⟨by rw [← hv]; exact Int.emod_nonneg _ (by omega),by rw [← hv]; exact Int.emod_lt_of_pos _ h0⟩,dg⟩,?_⟩
   rw [List.map_cons,mB,bu]
   have e1:bA Ψ ΨM ⟨μ,[2],0⟩ n (.tp [4,3]) pz (.tup [.int (k:Nat),.int b]) [some (.int c),x,some (.lst row),r3,r4,r5] [(2,1)]=.ok (.nx [some (.int c),x,some (.lst (row++[.int v])),some (.int b),some (.int (k:Int)),some (.int ((c * 48271 + (k:Int) * (k:Int) * 69621 + (k:Int) * 16807 + 11) % 2147483647))] [(2,1)]):=by
     simp only [pz,aD,cX,iK,aw,ah,fB,EI,ax,au,qc,uO,br,cP,bT,yb,bj,qe,Ou.aa,aH,aW.eq_def,sr,fF,frg,cJ,BA,Dw,gts,dz,tgN,wG,Ai,qM,List.getElem?_cons_zero,List.getElem?_cons_succ,List.set_cons_zero,List.set_cons_succ,List.contains_cons,List.contains_nil,List.lookup_cons,Option.getD_some,Option.isSome_some,Bool.and_true,Bool.and_false,Bool.or_false,Bool.false_eq_true,if_true,if_false,beq_self_eq_true,Nat.reduceBEq,Nat.reduceLT,Nat.min_def,Nat.lt_irrefl,decide_false,and_true,and_false,Nat.reduceEqDiff,m1,m2,m3,m4,m5,m6,m7,m8,m9,jR h0,Gu hlt,hv]
   rw [e1,Ou.aa,cU,e]
   simp only [List.append_assoc,List.cons_append,List.nil_append,List.map_cons]
theorem za (Ψ ΨM:FnT) (μ:Nat→Md) (c:Int) (bs:List Int) (hb:∀ b ∈ bs,0 < b∧b.natAbs < 10 ^ 200) (hl:bs.length < ag):∃ rs:List Int,Dig rs bs∧mkT Ψ ΨM μ ⟨false,0,0⟩ [2] la 2 6 [.int c,inT bs]=.ok (inT rs):=by
 have hb':∀ b ∈ bs,0 < b∧b.natAbs < big:=fun b h=>⟨(hb b h).1,kO (hb b h).2⟩
 show ∃ rs:List Int,Dig rs bs∧bI ⟨false,0,0⟩ (ySs Ψ ΨM ⟨μ,[2],0⟩ _ la [some (.int c),some (.lst (bs.map .int)),none,none,none,none] [])=.ok (.lst (rs.map .int))
 by_cases h:(10:Int) ^ 18≤(c.natAbs:Int)
 · obtain ⟨rs,c',r3',dg,e⟩:=t9 Ψ ΨM μ (aR [.int c,inT bs]) bs c (some (.lst (bs.map T.int))) none none none [] hb' (by simpa using hl)
   refine ⟨rs,dg,?_⟩
   simp only [la,aD,cX,iK,dM,j5,bZ,aw,ah,eD,fB,dU,zc,ax,au,wA,Bc,Bw,br,cP,hJ,ba,oD,bj,qe,qd,Ou.aa,aH,aW.eq_def,fF,BA,Ds,gts,dz,gG,fw,oq,List.getElem?_cons_zero,List.getElem?_cons_succ,List.set_cons_zero,List.set_cons_succ,List.contains_cons,List.contains_nil,List.all_nil,Option.isSome_some,Bool.and_true,Bool.and_false,Bool.or_false,Bool.false_eq_true,if_true,if_false,beq_self_eq_true,Nat.reduceBEq,Nat.reduceLT,Nat.min_def,Nat.lt_irrefl,decide_true,decide_false,and_true,and_false,reduceCtorEq,Nat.reduceEqDiff,Nat.reduceLeDiff,p18,h,decide_true]
   simp only [e,aD,bC,au,br,aU,u4,bE,Ou.aa,Ou.ip,aH,List.getElem?_cons_zero,List.getElem?_cons_succ,List.nil_append]
 · obtain ⟨rs,r3',r4',r5',dg,e⟩:=t8 Ψ ΨM μ (aR [.int c,inT bs]) bs 0 c (some (.lst (bs.map T.int))) none none none [] hb' (by simpa using hl) (by simpa using hl)
   refine ⟨rs,dg,?_⟩
   simp only [la,aD,cX,iK,dM,j5,bZ,aw,ah,eD,Hg,fB,dU,zc,ax,au,wA,Bc,Bw,br,cP,i6,ba,oD,OD,bj,qe,qd,Ou.aa,aH,aW.eq_def,fF,BA,Ds,gts,dz,gG,fw,oq,List.getElem?_cons_zero,List.getElem?_cons_succ,List.set_cons_zero,List.set_cons_succ,List.contains_cons,List.contains_nil,List.all_nil,Option.isSome_some,Bool.and_true,Bool.and_false,Bool.or_false,Bool.false_eq_true,if_true,if_false,beq_self_eq_true,Nat.reduceBEq,Nat.reduceLT,Nat.min_def,Nat.lt_irrefl,decide_true,decide_false,and_true,and_false,reduceCtorEq,Nat.reduceEqDiff,Nat.reduceLeDiff,p18,h,decide_false]
   simp only [e,aD,bC,au,br,aU,u4,bE,Ou.aa,Ou.ip,aH,List.getElem?_cons_zero,List.getElem?_cons_succ,List.nil_append]
structure Low (t b:Int):Prop where
 pos:1≤b
 cop:Int.gcd t b=1
noncomputable def pU (t b:Int):T:=.tup [.int t,.int b]
noncomputable def AI (Ψ:FnT) (dv:Nat):Prop:=∀ a b:Int,Ψ dv [.int a,.int b]=.ok (.int (Int.gcd a b:Nat))
theorem EH (t b:Int) (hb:b ≠ 0):Int.gcd t b≤b.natAbs:=Nat.le_of_dvd (by omega) (Int.natAbs_dvd_natAbs.mpr (Int.gcd_dvd_right t b))
noncomputable def yY (dv:Nat):List S:=[.set (.nm 2) (.call dv [(.var 0),(.var 1)]),.ret (.tup [(.op .fdiv (.var 0) (.var 2)),(.op .fdiv (.var 1) (.var 2))])]
theorem Jt (sc:Bool) (a b:Int):bI ⟨sc,0,0⟩ (.ok (.rt (.tup [.int a,.int b])))=.ok (pU a b):=by cases sc <;> rfl
theorem Hu {Ψ ΨM:FnT} {μ:Nat→Md} {sc:Bool} {dv:Nat} (hmv:(μ dv).mv=0) (hd:AI Ψ dv) (t b:Int) (hb:0 < b) (hs:b.natAbs < big):mkT Ψ ΨM μ ⟨sc,0,0⟩ [] (yY dv) 2 3 [.int t,.int b]=.ok (pU (t / (Int.gcd t b:Int)) (b / (Int.gcd t b:Int))):=by
 have hg:0 < Int.gcd t b:=Int.gcd_pos_of_ne_zero_right _ (by omega)
 have hl:=EH t b (by omega)
 have d1:∀ i:Int,z2 .fdiv (.int i) (.int (Int.gcd t b:Int))=.ok (.int (i / (Int.gcd t b:Int))):=fun i=>iX (by omega) (by rw [Int.natAbs_natCast]; omega)
 show bI ⟨sc,0,0⟩ (ySs Ψ ΨM ⟨μ,[],0⟩ _ (yY dv) [some (.int t),some (.int b),none] [])=_
 simp only [yY,aD,iK,Ez,bX,aw,ah,fB,bC,au,ur,Cd,Dr,E2,br,aU,cP,bE,bj,AM,Ou.aa,aH,aW.eq_def,fF,List.getElem?_cons_zero,List.getElem?_cons_succ,List.set_cons_zero,List.set_cons_succ,List.contains_nil,Option.isSome_some,Bool.and_true,Bool.and_false,Bool.false_eq_true,if_false,Nat.min_def,Nat.lt_irrefl,decide_false,and_true,and_false,hmv,hd t b,d1,Jt]
structure Nu (t b:Int):Prop where
 low:Low t b
 st:t.natAbs≤10 ^ 40
 sb:b.natAbs≤10 ^ 40
theorem mJ (i:Int) (j:Int) (h:0 < j:=by decide):z2 .mod (.int i) (.int j)=.ok (.int (i % j)):=jR h
end Sv
namespace Sv
open PySem PySem.Spec L2
open Ev (D aL aT ag)
mutual
noncomputable def nx:T→Bool
 | .exo _=>false
 | .tup xs=>nxs xs
 | .lst xs=>nxs xs
 | _=>true
noncomputable def nxs:List T→Bool
 | []=>true
 | x :: xs=>nx x && nxs xs
end
theorem uN:∀ {xs:List T} {x:T},nxs xs=true→x ∈ xs→nx x=true
 | y :: ys,x,h,hx=>by
   rw [nxs,Bool.and_eq_true] at h
   rcases List.mem_cons.mp hx with rfl | hx
   · exact h.1
   · exact uN h.2 hx
theorem E0:∀ {xs:List T},(∀ x ∈ xs,nx x=true)→nxs xs=true
 | [],_=>rfl
 | x :: xs,h=>by rw [nxs,h x (List.mem_cons_self ..),E0 fun y hy=>h y (List.mem_cons_of_mem _ hy)]; rfl
theorem EO {xs:List T} (h:∀ x ∈ xs,nx x=true):nx (.lst xs)=true:=by rw [nx]; exact E0 h
theorem JJ {xs:List T} (h:nx (.lst xs)=true):∀ x ∈ xs,nx x=true:=fun x hx=>uN (by rwa [nx] at h) hx
theorem DQ {xs:List T} (h:nx (.tup xs)=true):∀ x ∈ xs,nx x=true:=fun x hx=>uN (by rwa [nx] at h) hx
noncomputable def vA:T→Bool
 | .int _=>true
 | _=>false
theorem yo {d:T} (h:vA d=true):∃ i,d=.int i:=by
 cases d with
 | int i=>exact ⟨i,rfl⟩
 | _=>cases h
noncomputable def uv:List S:=[.ret (.and (.isi (.var 0) .int) (.not (.isi (.var 0) .bool)))]
noncomputable def KS (Ψ:FnT) (w:Nat):Prop:=∀ d,nx d=true→Ψ w [d]=.ok (.bl (vA d))
theorem qW {Ψ ΨM:FnT} {μ:Nat→Md} {sc:Bool} (d:T) (h:nx d=true):mkT Ψ ΨM μ ⟨sc,0,0⟩ [] uv 1 1 [d]=.ok (.bl (vA d)):=by
 show bI ⟨sc,0,0⟩ (ySs Ψ ΨM ⟨μ,[],0⟩ _ uv [some d] [])=_
 cases d <;> first | (simp [nx] at h; done) | (simp only [uv,aD,gj,iB,gp,bC,au,aU,mE,rT,gv,uG,zb,vh,uI,jA,pX,cL,bE,Ou.aa,aH,ju.eq_def,List.getElem?_cons_zero,Bool.not_true,Bool.not_false,vA])
noncomputable def rG:T→Bool
 | .tup [.int a,.int b]=>decide (1≤b) && decide (Int.gcd a b=1)
 | _=>false
theorem Fv {xs:List T} (h:xs.length ≠ 2):rG (.tup xs)=false:=by
 match xs,h with
 | [],_=>rfl
 | [a],_=>cases a <;> rfl
 | [a,b],h=>simp at h
 | a :: b :: c :: r,_=>cases a <;> first | rfl | (cases b <;> rfl)
theorem wo {a b:T} (h:(vA a && vA b)=false):rG (.tup [a,b])=false:=by
 cases a <;> cases b <;> first | rfl | (simp [vA] at h)
noncomputable def iM (wh cd:Nat):List S:=[.ite (.or (.not (.isi (.var 0) .tuple)) (.cmp .ne (.bi .len [(.var 0)]) (.cI 2))) [.ret (.cB false)] [],.ite (.or (.not (.call wh [(.ix (.var 0) (.cI 0))])) (.not (.call wh [(.ix (.var 0) (.cI 1))]))) [.ret (.cB false)] [],.ret (.and (.cmp .ge (.ix (.var 0) (.cI 1)) (.cI 1)) (.cmp .eq (.call cd [(.ix (.var 0) (.cI 0)),(.ix (.var 0) (.cI 1))]) (.cI 1)))]
noncomputable def NW (Ψ:FnT) (f:Nat):Prop:=∀ d,nx d=true→Ψ f [d]=.ok (.bl (rG d))
theorem O7 {xs:List T} (h:xs.length=2):∃ a b,xs=[a,b]:=by
 match xs,h with
 | [a,b],_=>exact ⟨a,b,rfl⟩
theorem ne2 {xs:List T} (h:xs.length ≠ 2):¬ ((xs.length:Nat):Int)=2:=by omega
section
variable {Ψ ΨM:FnT} {μ:Nat→Md} {sc:Bool} {wh cd:Nat}
theorem Gj (hw:KS Ψ wh) (hc:AI Ψ cd) (d:T) (h:nx d=true):mkT Ψ ΨM μ ⟨sc,0,0⟩ [] (iM wh cd) 1 1 [d]=.ok (.bl (rG d)):=by
 show bI ⟨sc,0,0⟩ (ySs Ψ ΨM ⟨μ,[],0⟩ _ (iM wh cd) [some d] [])=_
 cases d with
 | exo c=>simp [nx] at h
 | tup xs=>
   by_cases hl:xs.length=2
   · obtain ⟨a,b,rfl⟩:=O7 hl
     have ha:=DQ h a (by simp)
     have hb:=DQ h b (by simp)
     have l2:((([a,b]:List T).length:Nat):Int)=2:=rfl
     cases wa:vA a with
     | false=>simp only [iM,aD,ku,cX,gj,dM,j3,jT,bX,bZ,gp,aw,ah,bC,dU,ax,au,br,aU,Dx,nR,hJ,i6,gv,ba,jA,cL,bE,bj,Ou.aa,aH,dD,tS,tQ,g9,ju,List.getElem?_cons_zero,Bool.not_true,Bool.not_false,decide_true,l2,hw a ha,hw b hb,wa,wo (a:=a) (b:=b) (by rw [wa]; rfl)]
     | true=>
       cases wb:vA b with
       | false=>simp only [iM,aD,ku,cX,gj,dM,j3,jT,bX,bZ,gp,aw,ah,bC,dU,ax,au,br,aU,nR,hJ,i6,gv,ba,jA,cL,bE,bj,Ou.aa,aH,dD,tS,tQ,g9,ju,List.getElem?_cons_zero,Bool.and_false,Bool.not_true,Bool.not_false,decide_true,and_false,l2,hw a ha,hw b hb,wa,wb,wo (a:=a) (b:=b) (by rw [wb,Bool.and_false])]
       | true=>
         obtain ⟨i,rfl⟩:=yo wa
         obtain ⟨j,rfl⟩:=yo wb
         by_cases hj:1≤j
         · simp only [iM,aD,ku,cX,gj,dM,iB,j3,jT,bX,bZ,gp,aw,ah,bC,dU,ax,au,br,aU,mE,nR,i6,gv,ba,jA,cL,bE,bj,Ou.aa,aH,ck,dD,fw,tS,tQ,g9,ju.eq_def,List.getElem?_cons_zero,Bool.true_and,Bool.not_true,decide_true,true_and,l2,hw _ ha,hw _ hb,wa,wb,hj,hc i j,rG]
           congr 2
           exact decide_eq_decide.mpr (by omega)
         · simp only [iM,aD,ku,cX,gj,dM,iB,j3,jT,bX,bZ,gp,aw,ah,bC,dU,ax,au,br,aU,rT,nR,i6,gv,ba,jA,cL,bE,bj,Ou.aa,aH,ck,dD,fw,tS,tQ,g9,ju.eq_def,List.getElem?_cons_zero,Bool.false_and,Bool.not_true,decide_true,decide_false,false_and,l2,hw _ ha,hw _ hb,wa,wb,hj,hc i j,rG]
   · simp only [iM,aD,ku,cX,gj,dM,j3,bZ,gp,aw,ah,bC,dU,ax,au,aU,nR,hJ,gv,ba,jA,cL,bE,bj,Ou.aa,aH,dD,g9,ju.eq_def,List.getElem?_cons_zero,Bool.not_true,Bool.not_false,decide_false,ne2 hl,Fv hl]
 | _=>simp only [iM,aD,ku,cX,gj,dM,j3,bZ,gp,aw,ah,bC,dU,ax,au,aU,Dx,hJ,gv,ba,uG,zb,vh,uI,pX,cL,bE,bj,Ou.aa,aH,dD,eJ,ju.eq_def,List.getElem?_cons_zero,Bool.not_false,rG]
end
end Sv
namespace Sv
open PySem PySem.Spec L2
open Ev (D aL aT ag)
noncomputable def oy:T→Bool
 | .lst xs=>decide (1≤xs.length) && decide (xs.length≤7)
 | _=>false
noncomputable def nK (p:T→Bool):T→Bool
 | .lst xs=>xs.all p
 | _=>false
noncomputable def pH (d:T):Bool:=oy d && nK rG d
noncomputable def td:T→Nat
 | .lst xs=>xs.length
 | _=>0
noncomputable def hdT:T→T
 | .lst (x :: _)=>x
 | _=>.non
noncomputable def zW (d:T):Bool:=oy d && nK pH d && nK (fun r=>decide (td r=td (hdT d))) d
theorem rA {d:T} (h:oy d=true):∃ x xs,d=.lst (x :: xs)∧(x :: xs).length≤7:=by
 cases d with
 | lst ys=>
   simp only [oy,Bool.and_eq_true,decide_eq_true_eq] at h
   cases ys with
   | nil=>simp at h
   | cons x xs=>exact ⟨x,xs,rfl,h.2⟩
 | _=>cases h
theorem EG {d:T} (h:pH d=true):∃ xs,d=.lst xs∧xs.length≤7:=by
 unfold pH at h
 rw [Bool.and_eq_true] at h
 obtain ⟨x,xs,rfl,hl⟩:=rA h.1
 exact ⟨_,rfl,hl⟩
theorem dY {n:Nat} (h:n≤7):n < ag:=Nat.lt_of_le_of_lt h (by decide)
noncomputable def nJ:List S:=[.ret (.and (.isi (.var 0) .list) (.chain .le .le (.cI 1) (.bi .len [(.var 0)]) (.cI 7)))]
noncomputable def Bv (sl fr:Nat):List S:=[.ret (.and (.call sl [(.var 0)]) (.bi .all [(.comp [none] (.nm 0) (.seq (.var 0)) [] (.call fr [(.var 0)]))]))]
noncomputable def kC (sl rw:Nat):List S:=[.ite (.or (.not (.call sl [(.var 0)])) (.not (.bi .all [(.comp [none] (.nm 0) (.seq (.var 0)) [] (.call rw [(.var 0)]))]))) [.ret (.cB false)] [],.ret (.bi .all [(.comp [none,some 0] (.nm 0) (.seq (.var 0)) [] (.cmp .eq (.bi .len [(.var 0)]) (.bi .len [(.ix (.var 1) (.cI 0))])))])]
noncomputable def LQ (Ψ:FnT) (f:Nat):Prop:=∀ d,nx d=true→Ψ f [d]=.ok (.bl (oy d))
noncomputable def N2 (Ψ:FnT) (f:Nat):Prop:=∀ d,nx d=true→Ψ f [d]=.ok (.bl (pH d))
section
variable {Ψ ΨM:FnT} {μ:Nat→Md} {sc:Bool} {sl fr rw':Nat}
theorem Cq (d:T) (h:nx d=true):mkT Ψ ΨM μ ⟨sc,0,0⟩ [] nJ 1 1 [d]=.ok (.bl (oy d)):=by
 show bI ⟨sc,0,0⟩ (ySs Ψ ΨM ⟨μ,[],0⟩ _ nJ [some d] [])=_
 cases d with
 | exo c=>simp [nx] at h
 | lst xs=>
   by_cases h1:1≤xs.length
   · have h1':(1:Int)≤((xs.length:Nat):Int):=by omega
     simp only [nJ,aD,cX,rz,iB,bZ,gp,aw,ah,bC,au,aU,mE,NU,ba,pX,cL,bE,Ou.aa,aH,oI,eJ,ju.eq_def,List.getElem?_cons_zero,Bool.true_and,decide_true,true_and,h1',oy,h1]
     congr 2
     exact decide_eq_decide.mpr (by omega)
   · have h1':¬ (1:Int)≤((xs.length:Nat):Int):=by omega
     simp only [nJ,aD,cX,rz,iB,bZ,gp,aw,ah,bC,au,aU,mE,Ow,ba,pX,cL,bE,Ou.aa,aH,oI,eJ,ju.eq_def,List.getElem?_cons_zero,Bool.false_and,decide_false,false_and,h1',oy,h1]
 | _=>simp only [nJ,aD,cX,rz,iB,bZ,gp,aw,ah,bC,au,aU,rT,ba,uG,zb,vh,uI,jA,cL,bE,Ou.aa,aH,oI,g9,ju.eq_def,List.getElem?_cons_zero,oy]
theorem oK {f:Nat} {p:T→Bool} {τ:ao} {xs:List T} (hf:∀ x ∈ xs,Ψ f [x]=.ok (.bl (p x))):cb (hV Ψ τ [none] (.nm 0) [] (.call f [(.var 0)])) xs=.ok (xs.map fun x=>.bl (p x)):=
 AY xs fun x hx=>by simp only [aD,bX,aw,ah,iU,Ou.aa,aH,aW.eq_def,jw,eX,List.getElem?_cons_zero,List.set_cons_zero,List.map_cons,List.map_nil,List.nil_append,List.cons_append,Option.bind_none,if_true,hf x hx]
theorem ND (hs:LQ Ψ sl) (hf:NW Ψ fr) (d:T) (h:nx d=true):mkT Ψ ΨM μ ⟨sc,0,0⟩ [] (Bv sl fr) 1 1 [d]=.ok (.bl (pH d)):=by
 show bI ⟨sc,0,0⟩ (ySs Ψ ΨM ⟨μ,[],0⟩ _ (Bv sl fr) [some d] [])=_
 cases hd:oy d with
 | false=>simp only [Bv,aD,iB,bX,bZ,kP,aw,ah,eD,bC,au,aU,rT,cL,bE,Ou.aa,aH,List.getElem?_cons_zero,Bool.false_and,false_and,hs d h,hd,pH]
 | true=>
   obtain ⟨x,xs,rfl,hl⟩:=rA hd
   have hc:=oK (Ψ:=Ψ) (f:=fr) (p:=rG) (τ:=[some (.lst (x :: xs))]) (xs:=x :: xs) fun y hy=>hf y (JJ h y hy)
   simp only [Bv,aD,iB,bX,bZ,kP,aw,ah,eD,bC,au,mE,oD,Ou.aa,aH,List.getElem?_cons_zero,Bool.true_and,true_and,hs _ h,hd,pH,if_pos (dY hl)]
   simp only [List.map_cons] at hc
   simp only [hc,Ou.aa,Ou.ip,List.all_cons,nK]
   have:=rj (x :: xs) rG
   simp only [List.map_cons,List.all_cons] at this
   simp only [this,aU,cL,bE,Ou.aa]
theorem BC (hs:LQ Ψ sl) (hr:N2 Ψ rw') (d:T) (h:nx d=true):mkT Ψ ΨM μ ⟨sc,0,0⟩ [] (kC sl rw') 1 1 [d]=.ok (.bl (zW d)):=by
 show bI ⟨sc,0,0⟩ (ySs Ψ ΨM ⟨μ,[],0⟩ _ (kC sl rw') [some d] [])=_
 cases hd:oy d with
 | false=>simp only [kC,aD,ku,gj,j3,bX,bZ,kP,aw,ah,eD,bC,dU,ax,au,aU,Dx,hJ,gv,cL,bE,bj,Ou.aa,aH,List.getElem?_cons_zero,Bool.false_and,Bool.not_false,false_and,hs d h,hd,zW]
 | true=>
   obtain ⟨x,xs,rfl,hl⟩:=rA hd
   have hc:=oK (Ψ:=Ψ) (f:=rw') (p:=pH) (τ:=[some (.lst (x :: xs))]) (xs:=x :: xs) fun y hy=>hr y (JJ h y hy)
   have ha:=rj (x :: xs) pH
   generalize hX:x :: xs=X at *
   cases hA:X.all pH with
   | false=>
     rw [hA] at ha
     simp only [kC,aD,ku,gj,j3,bX,bZ,kP,aw,ah,eD,bC,dU,ax,au,aU,nR,hJ,gv,oD,cL,bE,bj,Ou.aa,Ou.ip,aH,List.getElem?_cons_zero,Bool.false_and,Bool.and_false,Bool.not_true,Bool.not_false,and_false,false_and,hs _ h,hd,zW,if_pos (dY hl),hc,ha,nK,hA]
   | true=>
     rw [hA] at ha
     have hx0:zI (.lst X) (.int 0)=.ok x:=by rw [← hX]; exact D1 x xs
     have hrow:∀ y ∈ X,∃ ys,y=.lst ys:=fun y hy=>let ⟨ys,e,_⟩:=EG (List.all_eq_true.mp hA y hy); ⟨ys,e⟩
     obtain ⟨zs,hz⟩:=hrow x (by rw [← hX]; exact List.mem_cons_self ..)
     have hh:hdT (.lst X)=x:=by rw [← hX]; rfl
     have h2:cb (hV Ψ [some (.lst X)] [none,some 0] (.nm 0) [] (.cmp .eq (.bi .len [(.var 0)]) (.bi .len [(.ix (.var 1) (.cI 0))]))) X=.ok (X.map fun r=>.bl (decide (td r=td x))):=
       AY X fun y hy=>by
         obtain ⟨ys,rfl⟩:=hrow y hy
         subst hz
         simp only [aD,cX,dM,jT,bZ,aw,ah,iU,ba,Ou.aa,aH,aW.eq_def,jw,ck,eJ,eX,List.getElem?_cons_zero,List.getElem?_cons_succ,List.set_cons_zero,List.map_cons,List.map_nil,List.nil_append,List.cons_append,Option.bind_some,Option.bind_none,Option.join_some,if_true,hx0,td]
         congr 3
         exact decide_eq_decide.mpr (by omega)
     have h3:=rj X fun r=>decide (td r=td x)
     simp only [kC,aD,ku,gj,j3,bX,bZ,kP,aw,ah,eD,bC,dU,ax,au,br,aU,nR,i6,gv,oD,cL,bE,bj,Ou.aa,Ou.ip,aH,List.getElem?_cons_zero,Bool.true_and,Bool.and_true,Bool.not_true,and_true,true_and,hs _ h,hd,zW,if_pos (dY hl),hc,ha,nK,hA,h2,h3,hh]
end
end Sv
namespace Sv
open PySem PySem.Spec L2
open Ev (D aL aT ag)
noncomputable def FJ (Ψ:FnT) (nb:Nat):Prop:=∀ (c:Int) (bs:List Int),(∀ b ∈ bs,0 < b∧b.natAbs < 10 ^ 200)→bs.length < ag→∃ rs:List Int,Dig rs bs∧Ψ nb [.int c,inT bs]=.ok (inT rs)
noncomputable def fr2 (p:Int × Int):T:=pU p.1 p.2
noncomputable def Tbl (rows:List (List (Int × Int))) (m w:Nat):Prop:=rows.length=m∧∀ r ∈ rows,r.length=w∧∀ p ∈ r,Nu p.1 p.2
noncomputable def Fg (nb nu:Nat):List S:=[.set (.nm 4) (.ix (.lst [(.cI 114),(.cI 5),(.cI 60),(.op .mul (.op .mul (.cI 2) (.op .pow (.cI 10) (.cI 40))) (.op .pow (.cI 10) (.cI 40)))]) (.var 3)),.set (.nm 5) (.call nb [(.var 0),(.comp [none,some 4] (.nm 0) (.rng (.op .mul (.var 1) (.var 2))) [] (.var 1))]),.ret (.comp [none,some 3,some 5,some 2] (.nm 0) (.rng (.var 1)) [] (.comp [none,some 0,some 1,some 2,some 3] (.nm 0) (.rng (.var 3)) [] (.call nu [(.var 2),(.ix (.var 3) (.op .add (.op .mul (.var 4) (.var 1)) (.var 0)))])))]
theorem Jr (n:Nat) (h:n < 1000000):Mu (.int (n:Nat))=.ok ((List.range n).map fun k=>.int (k:Nat)):=by
 rw [Mu,if_pos (by omega),Int.toNat_natCast]
 unfold rangeT
 congr 2
 funext k
 rw [Int.zero_add]
theorem iu {Ψ:FnT} {e:E} {τ:ao} {n:Nat} (h:yE Ψ e τ=.ok (.int (n:Nat))) (hn:n < 1000000):yIt Ψ (.rng e) τ=.ok ((List.range n).map fun k=>.int (k:Nat)):=by
 rw [GL,h,Ou.aa,Jr n hn]
noncomputable def gF (k:Nat):Int:=if k=0 then 114 else if k=1 then 5 else if k=2 then 60 else 2 * 10 ^ 40 * 10 ^ 40
theorem D7 (k:Nat):0 < gF k∧(gF k).natAbs < 10 ^ 200:=by
 unfold gF
 split
 · decide
 split
 · decide
 split
 · decide
 · exact ⟨by decide,by decide +kernel⟩
theorem ID (k:Nat) (h:k < 4):zI (.lst [.int 114,.int 5,.int 60,.int (2 * 10 ^ 40 * 10 ^ 40)]) (.int (k:Nat))=.ok (.int (gF k)):=by
 match k,h with
 | 0,_=>exact D1 _ _
 | 1,_=>exact OP _ _ _
 | 2,_=>exact OS _ _ _ _
 | 3,_=>exact N7 _ _ _ _ _
theorem dP {Ψ:FnT} {τ:ao} {caps:List (Option Nat)} {t:Tg} {it:It} {ifs:List E} {elt:E} {xs ys:List T} (h1:yIt Ψ it τ=.ok xs) (h2:xs.length < ag) (h3:cb (hV Ψ τ caps t ifs elt) xs=.ok ys):yE Ψ (.comp caps t it ifs elt) τ=.ok (.lst ys):=by
 rw [kP,h1,Ou.aa,if_pos h2,h3]; rfl
theorem IJ {Ψ ΨM:FnT} {μ:Nat→Md} {nb nu:Nat} {R:Int→Int→Prop} (hmv:(μ nb).mv=0) (hn:FJ Ψ nb) (c:Int) (m w k:Nat) (hm:m≤7) (hw:w≤7) (hk:k < 4) (hu:∀ p:Int,∃ t b,Ψ nu [.int (k:Nat),.int p]=.ok (pU t b)∧R t b) :
   ∃ F:Nat→Nat→Int × Int,(∀ i j,R (F i j).1 (F i j).2)∧mkT Ψ ΨM μ ⟨false,2,0⟩ [] (Fg nb nu) 4 6 [.int c,.int (m:Nat),.int (w:Nat),.int (k:Nat)]=.ok (.lst ((List.range m).map fun i=>.lst ((List.range w).map fun j=>fr2 (F i j)))):=by
 show ∃ F:Nat→Nat→Int × Int,_∧bI ⟨false,2,0⟩ (ySs Ψ ΨM ⟨μ,[],2⟩ _ (Fg nb nu) [some (.int c),some (.int (m:Nat)),some (.int (w:Nat)),some (.int (k:Nat)),none,none] [])=_
 have mw:m * w≤49:=Nat.mul_le_mul hm hw
 obtain ⟨rs,dg,e⟩:=hn c (List.replicate (m * w) (gF k)) (fun b hb=>by rw [List.eq_of_mem_replicate hb]; exact D7 k) (by rw [List.length_replicate]; exact Nat.lt_of_le_of_lt mw (by decide))
 have hl:rs.length=m * w:=by rw [dg.length,List.length_replicate]
 obtain ⟨f,hf⟩:=Classical.axiomOfChoice fun p:Int=>show ∃ q:Int × Int,Ψ nu [.int (k:Nat),.int p]=.ok (pU q.1 q.2)∧R q.1 q.2 from let ⟨t,b,h1,h2⟩:=hu p; ⟨(t,b),h1,h2⟩
 have t40:z2 .mul (.int 2) (.int (10 ^ 40))=.ok (.int (2 * 10 ^ 40)):=e6 (fN (by decide))
 have t80:z2 .mul (.int (2 * 10 ^ 40)) (.int (10 ^ 40))=.ok (.int (2 * 10 ^ 40 * 10 ^ 40)):=e6 (mulOk_of (kO (by decide)) (kO (by decide)))
 have tmw:z2 .mul (.int (m:Nat)) (.int (w:Nat))=.ok (.int ((m * w:Nat):Int)):=by rw [e6 (fN (by omega)),Int.natCast_mul]
 have c1:cb (hV Ψ [some (.int c),some (.int (m:Nat)),some (.int (w:Nat)),some (.int (k:Nat)),some (.int (gF k)),none] [none,some 4] (.nm 0) [] (.var 1)) ((List.range (m * w)).map fun j=>.int (j:Nat))=.ok ((List.range (m * w)).map fun _=>.int (gF k)):=
   cO _ fun j _=>by simp only [aD,iU,Ou.aa,aH,aW.eq_def,jw,eX,List.getElem?_cons_zero,List.getElem?_cons_succ,List.set_cons_zero,List.map_cons,List.map_nil,List.nil_append,List.cons_append,Option.bind_some,Option.bind_none,Option.join_some,if_true]
 have r1:((List.range (m * w)).map fun _=>T.int (gF k))=(List.replicate (m * w) (gF k)).map .int:=by
   rw [List.map_replicate,List.map_const',List.length_range]
 have inner:∀ i,i < m→∀ (x:Option T),cb (hV Ψ [some (.int (i:Nat)),some (.int (k:Nat)),some (inT rs),some (.int (w:Nat)),x] [none,some 0,some 1,some 2,some 3] (.nm 0) [] (.call nu [(.var 2),(.ix (.var 3) (.op .add (.op .mul (.var 4) (.var 1)) (.var 0)))])) ((List.range w).map fun j=>.int (j:Nat))
     = .ok ((List.range w).map fun j=>fr2 (f (rs.getD (w * i + j) 0))):=fun i hi x=>cO _ fun j hj=>by
   have hj:=List.mem_range.mp hj
   have hlt:w * i + j < rs.length:=by
     rw [hl,Nat.mul_comm m w]
     exact Nat.lt_of_lt_of_le (Nat.add_lt_add_left hj _) (by rw [← Nat.mul_succ]; exact Nat.mul_le_mul_left w hi)
   have g1:z2 .mul (.int (w:Nat)) (.int (i:Nat))=.ok (.int ((w * i:Nat):Int)):=by rw [e6 (fN (by omega)),Int.natCast_mul]
   have g2:((w * i:Nat):Int) + (j:Nat)=((w * i + j:Nat):Int):=by omega
   have g3:zI (inT rs) (.int ((w * i + j:Nat):Int))=.ok (.int (rs.getD (w * i + j) 0)):=iF (by
     rw [List.getElem?_map,List.getElem?_eq_getElem hlt,List.getD_eq_getElem?_getD,List.getElem?_eq_getElem hlt]; rfl)
   simp only [aD,iK,jT,bX,aw,ah,iU,Ou.aa,aH,aW.eq_def,jw,Ai,eX,List.getElem?_cons_zero,List.getElem?_cons_succ,List.set_cons_zero,List.map_cons,List.map_nil,List.nil_append,List.cons_append,Option.bind_some,Option.bind_none,Option.join_some,if_true,g1,g2,g3,(hf _).1,fr2]
 refine ⟨fun i j=>f (rs.getD (w * i + j) 0),fun i j=>(hf _).2,?_⟩
 · have lw:((List.range w).map fun j=>T.int (j:Nat)).length < ag:=by rw [List.length_map,List.length_range]; exact dY hw
   have lm:((List.range m).map fun j=>T.int (j:Nat)).length < ag:=by rw [List.length_map,List.length_range]; exact dY hm
   have lmw:((List.range (m * w)).map fun j=>T.int (j:Nat)).length < ag:=by rw [List.length_map,List.length_range]; exact Nat.lt_of_le_of_lt mw (by decide)
   have ci:∀ i,i < m→yE Ψ (.comp [none,some 0,some 1,some 2,some 3] (.nm 0) (.rng (.var 3)) [] (.call nu [(.var 2),(.ix (.var 3) (.op .add (.op .mul (.var 4) (.var 1)) (.var 0)))])) [some (.int (i:Nat)),some (.int (k:Nat)),some (inT rs),some (.int (w:Nat)),none]=.ok (.lst ((List.range w).map fun j=>fr2 (f (rs.getD (w * i + j) 0)))):=fun i hi=>
     dP (iu (by rw [aD]; rfl) (Nat.lt_of_le_of_lt hw (by decide))) lw (inner i hi none)
   have outer:cb (hV Ψ [some (.int c),some (.int (m:Nat)),some (.int (w:Nat)),some (.int (k:Nat)),some (.int (gF k)),some (inT rs)] [none,some 3,some 5,some 2] (.nm 0) [] (.comp [none,some 0,some 1,some 2,some 3] (.nm 0) (.rng (.var 3)) [] (.call nu [(.var 2),(.ix (.var 3) (.op .add (.op .mul (.var 4) (.var 1)) (.var 0)))]))) ((List.range m).map fun j=>.int (j:Nat))
       = .ok ((List.range m).map fun i=>.lst ((List.range w).map fun j=>fr2 (f (rs.getD (w * i + j) 0)))):=cO _ fun i hi=>by
     simp only [iU,Ou.aa,aW.eq_def,jw,eX,List.getElem?_cons_zero,List.getElem?_cons_succ,List.set_cons_zero,List.map_cons,List.map_nil,List.nil_append,List.cons_append,Option.bind_some,Option.bind_none,Option.join_some,if_true,ci i (List.mem_range.mp hi)]
   have co:=dP (Ψ:=Ψ) (it:=.rng (.var 1)) (iu (by rw [aD]; rfl) (Nat.lt_of_le_of_lt hm (by decide))) lm outer
   have c1':=dP (Ψ:=Ψ) (it:=.rng (.op .mul (.var 1) (.var 2))) (iu (by rw [iK,aD,aD]; exact tmw) (Nat.lt_of_le_of_lt mw (by decide))) lmw c1
   have e':Ψ nb [.int c,.lst ((List.range (m * w)).map fun _=>.int (gF k))]=.ok (inT rs):=by rw [r1]; exact e
   have e1:yE Ψ (.ix (.lst [(.cI 114),(.cI 5),(.cI 60),(.op .mul (.op .mul (.cI 2) (.op .pow (.cI 10) (.cI 40))) (.op .pow (.cI 10) (.cI 40)))]) (.var 3)) [some (.int c),some (.int (m:Nat)),some (.int (w:Nat)),some (.int (k:Nat)),none,none]=.ok (.int (gF k)):=by
     simp only [jT,j5,ah,aw,cX,iK,Ou.aa,aD,aH,List.getElem?_cons_succ,List.getElem?_cons_zero,p40,t40,t80,I0]
     exact ID k hk
   have e2:yE Ψ (.call nb [(.var 0),(.comp [none,some 4] (.nm 0) (.rng (.op .mul (.var 1) (.var 2))) [] (.var 1))]) [some (.int c),some (.int (m:Nat)),some (.int (w:Nat)),some (.int (k:Nat)),some (.int (gF k)),none]=.ok (inT rs):=by
     rw [bX,ah,aD,ah,c1',aw]
     exact e'
   have s1:∀ n,yS Ψ ΨM ⟨μ,[],2⟩ n (.set (.nm 4) (.ix (.lst [(.cI 114),(.cI 5),(.cI 60),(.op .mul (.op .mul (.cI 2) (.op .pow (.cI 10) (.cI 40))) (.op .pow (.cI 10) (.cI 40)))]) (.var 3))) [some (.int c),some (.int (m:Nat)),some (.int (w:Nat)),some (.int (k:Nat)),none,none] []=.ok (.nx [some (.int c),some (.int (m:Nat)),some (.int (w:Nat)),some (.int (k:Nat)),some (.int (gF k)),none] []):=fun n=>by
     rw [fB _ _ _ _ _ _ _ _ nr,e1]; rfl
   have s2:∀ n,yS Ψ ΨM ⟨μ,[],2⟩ n (.set (.nm 5) (.call nb [(.var 0),(.comp [none,some 4] (.nm 0) (.rng (.op .mul (.var 1) (.var 2))) [] (.var 1))])) [some (.int c),some (.int (m:Nat)),some (.int (w:Nat)),some (.int (k:Nat)),some (.int (gF k)),none] []=.ok (.nx [some (.int c),some (.int (m:Nat)),some (.int (w:Nat)),some (.int (k:Nat)),some (.int (gF k)),some (inT rs)] []):=fun n=>by
     rw [fB _ _ _ _ _ _ _ _ (by rw [ur]; simp only [hmv]; rfl),e2]; rfl
   have al:((List.range m).map fun i=>T.lst ((List.range w).map fun j=>fr2 (f (rs.getD (w * i + j) 0)))).all isL=true:=by
     rw [List.all_map,List.all_eq_true]
     intro i _
     rfl
   have rt2:Dh ⟨μ,[],2⟩ [] (.comp [none,some 3,some 5,some 2] (.nm 0) (.rng (.var 1)) [] (.comp [none,some 0,some 1,some 2,some 3] (.nm 0) (.rng (.var 3)) [] (.call nu [(.var 2),(.ix (.var 3) (.op .add (.op .mul (.var 4) (.var 1)) (.var 0)))]))) (.lst ((List.range m).map fun i=>.lst ((List.range w).map fun j=>fr2 (f (rs.getD (w * i + j) 0)))))=.ok (.rt (.lst ((List.range m).map fun i=>.lst ((List.range w).map fun j=>fr2 (f (rs.getD (w * i + j) 0)))))):=by
     unfold Dh
     rw [if_neg (by simp [isL]),if_pos]
     have l2:lvT (.lst ((List.range m).map fun i=>.lst ((List.range w).map fun j=>fr2 (f (rs.getD (w * i + j) 0)))))=2:=by
       show (if _ then 2 else 1)=2
       rw [if_pos al]
     rw [l2]
     have fe:dm μ (.comp [none,some 3,some 5,some 2] (.nm 0) (.rng (.var 1)) [] (.comp [none,some 0,some 1,some 2,some 3] (.nm 0) (.rng (.var 3)) [] (.call nu [(.var 2),(.ix (.var 3) (.op .add (.op .mul (.var 4) (.var 1)) (.var 0)))])))=2:=by
       rw [vU,if_neg]
       rw [vU]
       split <;> decide
     show 2≤min (dm μ _) 2
     rw [fe]
     decide
   have fl2:t7 2 (.lst ((List.range m).map fun i=>.lst ((List.range w).map fun j=>fr2 (f (rs.getD (w * i + j) 0)))))=true:=by
     show ((List.range m).map fun i=>T.lst ((List.range w).map fun j=>fr2 (f (rs.getD (w * i + j) 0)))).all D3=true
     rw [List.all_map,List.all_eq_true]
     intro i _
     show o2 ((List.range w).map fun j=>fr2 (f (rs.getD (w * i + j) 0)))=true
     induction List.range w with
     | nil=>rfl
     | cons k ks ih=>rw [List.map_cons]; simp only [o2,ih]; rfl
   rw [Fg,au,s1,Ou.aa,br,au,s2,Ou.aa,br,au,bC,co,Ou.aa,rt2,Ou.aa,aU]
   simp only [bI,fl2,Bool.not_true,Bool.and_false]
   rfl
end Sv
namespace Sv
open PySem PySem.Spec PyProof.Rows L2
theorem tX {Z:Zt} {m:List Addr} {H:Hp}:∀ ns:List Int,ar Z m H (ns.map V.int) (ns.map U.int)
 | []=>.nil
 | _ :: r=>.cons .int (tX r)
theorem xG {st:Sto}:∀ ns:List Int,aK st (ns.map U.int) (ns.map T.int)
 | []=>.nil
 | _ :: r=>.cons .int (xG r)
theorem La {md:Md} {F:List U→Sto→Rs U} {G:List T→Ou T} (p:Pure md F G) (hG:∀ ns:List Int,ns.length≤63→G [inT ns]=.ok (.bl true)) {K:Params→PySem.W.Frag} {cl:Nat→Addr} (w:World) (H:Hp) (a:Addr) (ns:List Int) (hl:ns.length≤63) (hO:GH H) (hS:SqL (K w.params) H a (ns.map V.int)) :
   spU ⟨K w.params,cl⟩ F [.ref a] H (fun v _=>v=.bl true) fun _ _ _=>False:=by
 have hF:SqF (K w.params) H a (ns.map V.int):=by
   rcases hS with (h | ⟨o,h⟩) | h
   · rcases hO a with z | ⟨o,xs,z⟩
     · rw [z] at h; cases h
     · rw [z] at h; cases h
   · exact .inl ⟨o,h⟩
   · exact .inr (.inr h)
 have g:=p.plain (h:=⟨fun _=>False,fun _=>False,fun _ z=>z⟩) (st:=[]) (us:=[.kl (ns.map .int)]) (ds:=[inT ns]) ⟨fun k fz us _ e=>by simp at e,fun _ z=>z.elim⟩
   (.cons (.of (.kl (xG ns)) (Av.kl.mpr fun u hu=>by obtain ⟨i,_,rfl⟩:=List.mem_map.mp hu; exact .int)) .nil)
 rw [hG ns hl] at g
 obtain ⟨u,st',h',e,_,r,_⟩:=g
 have:=r.jH
 subst this
 refine ⟨[],[],[.kl (ns.map .int)],⟨rfl,fun i j a e=>by simp at e,fun l a fz ds e=>by simp at e⟩,.cons (.kl hF (tX ns)) .nil,?_⟩
 rw [e]
 exact fun m' H' v _ _ dv=>jQ dv
theorem _root_.L2.Fun.Nz {K:PySem.W.Frag} {x qual:Str} {st:Stmt} {f T:Addr} {fd:FuncData} {ps:List Str} {c:Value} {d:Option Addr} {items:Array Value} {n:Nat} {sl:Array (Option Value)} (_:L2.Fun K x qual st f fd) (hd:fd.defaults=.ref T) (lT:K.lookup T=some ⟨c,d,.seq items n,sl⟩)
   (h:∀ us:List Value,us.length=ps.length→∃ k,bindArgs fd ⟨us,[]⟩=seqItems? fd.defaults >>= k∧k (some items)=pure (ps.zip us)):L2.Binds K fd ps []:=fun s us X hl=>by
 rw [List.append_nil] at hl ⊢
 obtain ⟨k,h1,h2⟩:=h us hl
 exact .of_defaults hd (X _ _ lT) rfl h1 h2
theorem _root_.L2.Fun.NF {K:PySem.W.Frag} {x qual:Str} {st:Stmt} {f T:Addr} {fd:FuncData} {p:Str} {ps:List Str} {c d:Value} {dd:Option Addr} {items:Array Value} {n:Nat} {sl:Array (Option Value)} (_:L2.Fun K x qual st f fd) (hd:fd.defaults=.ref T) (lT:K.lookup T=some ⟨c,dd,.seq items n,sl⟩)
   (h:∀ us:List Value,us.length=ps.length→∃ k,bindArgs fd ⟨us,[]⟩=seqItems? fd.defaults >>= k∧k (some items)=pure ((p :: ps).zip (us++[d]))):L2.Binds K fd (p :: ps) [d]:=fun s us X hl=>by
 obtain ⟨k,h1,h2⟩:=h us (by simpa using hl)
 exact .of_defaults hd (X _ _ lT) rfl h1 h2
end Sv
namespace Sv
open PySem PySem.Spec L2
open Ev (D aL aT ag)
noncomputable def i4 (cs:List Nat):T:=.lst (cs.map fun k=>.int (k:Nat))
structure Ch (cs:List Nat) (n:Nat):Prop where
 ne:cs ≠ []
 up:∀ (i j a b:Nat),cs[i]?=some a→cs[j]?=some b→i < j→a < b
 lt:∀ a ∈ cs,a < n
theorem Ch.len {cs:List Nat} {n:Nat} (h:Ch cs n):cs.length≤n:=by
 have key:∀ (i a:Nat),cs[i]?=some a→i≤a:=by
   intro i
   induction i with
   | zero=>intro a _; exact Nat.zero_le _
   | succ i ih=>
     intro a ha
     have hi:i < cs.length:=by have:=(List.getElem?_eq_some_iff.mp ha).1; omega
     have:=ih _ (List.getElem?_eq_getElem hi)
     have:=h.up i (i + 1) _ _ (List.getElem?_eq_getElem hi) ha (by omega)
     omega
 rcases Nat.eq_zero_or_pos cs.length with z | z
 · omega
 · have hl:cs.length - 1 < cs.length:=by omega
   have h1:=key _ _ (List.getElem?_eq_getElem hl)
   have h2:=h.lt _ (List.getElem_mem hl)
   omega
noncomputable def qp:List S:=[.ret (.bi .all [(.comp [none,some 0] (.nm 0) (.rng2 (.cI 1) (.bi .len [(.var 0)])) [] (.cmp .lt (.ix (.var 1) (.op .sub (.var 0) (.cI 1))) (.ix (.var 1) (.var 0))))])]
theorem Hq {Ψ:FnT} {a b:E} {τ:ao} {n:Nat} (h0:yE Ψ a τ=.ok (.int 1)) (h:yE Ψ b τ=.ok (.int (n:Nat))) (hn:n < 1000000):yIt Ψ (.rng2 a b) τ=.ok ((List.range (n - 1)).map fun k=>.int ((k + 1:Nat):Int)):=by
 rw [xT,h0,Ou.aa,h,Ou.aa]
 simp only [Gs]
 rw [if_pos (by omega)]
 unfold rangeT
 have:(((n:Nat):Int) - 1).toNat=n - 1:=by omega
 rw [this]
 congr 1
 exact List.map_congr_left fun k _=>by congr 1; omega
theorem BQ {Ψ ΨM:FnT} {μ:Nat→Md} {sc:Bool} {cs:List Nat} {n:Nat} (h:Ch cs n) (hn:n≤7):mkT Ψ ΨM μ ⟨sc,0,0⟩ [] qp 1 1 [i4 cs]=.ok (.bl true):=by
 have hl:=h.len
 have co:yE Ψ (.comp [none,some 0] (.nm 0) (.rng2 (.cI 1) (.bi .len [(.var 0)])) [] (.cmp .lt (.ix (.var 1) (.op .sub (.var 0) (.cI 1))) (.ix (.var 1) (.var 0)))) [some (i4 cs)]=.ok (.lst ((List.range (cs.length - 1)).map fun _=>.bl true)):=by
   refine dP (Hq (n:=cs.length) (by rw [cX]) ?_ (by omega)) (by rw [List.length_map,List.length_range]; exact dY (by omega)) (cO _ fun j hj=>?_)
   · simp only [aD,bZ,aw,ah,Ou.aa,aH,eJ,List.getElem?_cons_zero,i4,List.length_map]
   · have hj':=List.mem_range.mp hj
     have a1:zI (i4 cs) (.int ((j:Nat):Int))=.ok (.int ((cs[j]'(by omega):Nat):Int)):=iF (by rw [List.getElem?_map,List.getElem?_eq_getElem (by omega)]; rfl)
     have a2:zI (i4 cs) (.int ((j + 1:Nat):Int))=.ok (.int ((cs[j + 1]'(by omega):Nat):Int)):=iF (by rw [List.getElem?_map,List.getElem?_eq_getElem (by omega)]; rfl)
     have e0:((j + 1:Nat):Int) - 1=(j:Nat):=by omega
     have lt:=h.up j (j + 1) _ _ (List.getElem?_eq_getElem (by omega)) (List.getElem?_eq_getElem (by omega)) (by omega)
     have lt':((cs[j]'(by omega):Nat):Int) < ((cs[j + 1]'(by omega):Nat):Int):=by omega
     simp only [aD,cX,iK,dM,jT,iU,ba,Ou.aa,aH,aW,jw,gX,E5,eX,List.getElem?_cons_zero,List.getElem?_cons_succ,List.set_cons_zero,List.map_cons,List.map_nil,List.nil_append,List.cons_append,Option.bind_some,Option.bind_none,Option.join_some,if_true,decide_true,e0,a1,a2,lt',decide_true]
 have ha:=rj (List.range (cs.length - 1)) fun _=>true
 have hb:(List.range (cs.length - 1)).all (fun _=>true)=true:=List.all_eq_true.mpr fun _ _=>rfl
 rw [hb] at ha
 refine (bo rfl).trans ?_
 show bI ⟨sc,0,0⟩ (ySs Ψ ΨM ⟨μ,[],0⟩ (aR _) qp [some (i4 cs)] [])=_
 rw [show qp=[.ret (.bi .all [(.comp [none,some 0] (.nm 0) (.rng2 (.cI 1) (.bi .len [(.var 0)])) [] (.cmp .lt (.ix (.var 1) (.op .sub (.var 0) (.cI 1))) (.ix (.var 1) (.var 0))))])] from rfl]
 rw [au,bC,bZ,ah,co,Ou.aa,aw,Ou.aa,Ou.aa,ha,Ou.aa,bE,Ou.aa,aU]
 cases sc <;> rfl
noncomputable def qB (wh ri:Nat):List S:=[.ite (.or (.not (.call wh [(.var 1)])) (.or (.not (.isi (.var 0) .list)) (.cmp .eq (.bi .len [(.var 0)]) (.cI 0)))) [.ret (.cB false)] [],.ite (.not (.bi .all [(.comp [none] (.nm 0) (.seq (.var 0)) [] (.call wh [(.var 0)]))])) [.ret (.cB false)] [],.ret (.and (.call ri [(.var 0)]) (.and (.cmp .ge (.ix (.var 0) (.cI 0)) (.cI 0)) (.cmp .lt (.ix (.var 0) (.neg (.cI 1))) (.var 1))))]
theorem B9 {Ψ ΨM:FnT} {μ:Nat→Md} {sc:Bool} {wh ri:Nat} (hw:KS Ψ wh) {cs:List Nat} {n:Nat} (h:Ch cs n) (hn:n≤7) (hr:Ψ ri [i4 cs]=.ok (.bl true)):mkT Ψ ΨM μ ⟨sc,0,0⟩ [] (qB wh ri) 2 2 [i4 cs,.int (n:Nat)]=.ok (.bl true):=by
 have hl:=h.len
 have hw1:Ψ wh [.int (n:Nat)]=.ok (.bl true):=hw _ rfl
 have co:cb (hV Ψ [some (i4 cs),some (.int (n:Nat))] [none] (.nm 0) [] (.call wh [(.var 0)])) (cs.map fun k=>.int (k:Nat))=.ok ((cs.map fun k=>T.int (k:Nat)).map fun _=>.bl true):=
   oK (p:=fun _=>true) fun x hx=>by
     obtain ⟨k,_,rfl⟩:=List.mem_map.mp hx
     exact hw _ rfl
 have ha:=rj (cs.map fun k=>T.int (k:Nat)) fun _=>true
 have hb:(cs.map fun k=>T.int (k:Nat)).all (fun _=>true)=true:=List.all_eq_true.mpr fun _ _=>rfl
 rw [hb] at ha
 have hlen:cs.length < ag:=dY (by omega)
 have n0:¬ ((cs.length:Nat):Int)=0:=by
   have:cs.length ≠ 0:=fun z=>h.ne (List.length_eq_zero_iff.mp z)
   omega
 obtain ⟨a,as,rfl⟩:∃ a as,cs=a :: as:=by
   cases cs with
   | nil=>exact absurd rfl h.ne
   | cons a as=>exact ⟨a,as,rfl⟩
 obtain ⟨z,hz,hzm⟩:∃ z,(a :: as).getLast?=some z∧z ∈ a :: as:=by
   refine ⟨(a :: as).getLast (by simp),List.getLast?_eq_some_getLast (by simp),List.getLast_mem _⟩
 have e1:zI (i4 (a :: as)) (.int 0)=.ok (.int (a:Nat)):=D1 _ _
 have e2:zI (i4 (a :: as)) (.int (-1))=.ok (.int (z:Nat)):=Ic (by rw [List.getLast?_map,hz]; rfl)
 have l1:(0:Int)≤((a:Nat):Int):=by omega
 have l2:((z:Nat):Int) < ((n:Nat):Int):=by have:=h.lt z hzm; omega
 have b1:zB .len [i4 (a :: as)]=.ok (.int (((a :: as).length:Nat):Int)):=by rw [i4,eJ,List.length_map]
 have i1:uM .list (i4 (a :: as))=.ok (.bl true):=rfl
 have sq:K2 (i4 (a :: as))=.ok ((a :: as).map fun k=>.int (k:Nat)):=rfl
 have cp:yE Ψ (.comp [none] (.nm 0) (.seq (.var 0)) [] (.call wh [(.var 0)])) [some (i4 (a :: as)),some (.int (n:Nat))]=.ok (.lst (((a :: as).map fun k=>T.int (k:Nat)).map fun _=>.bl true)):=
   dP (by simp only [aD,eD,Ou.aa,aH,List.getElem?_cons_zero,List.map_cons,sq]) (by rw [List.length_map]; exact hlen) co
 obtain ⟨LL,cp,ha⟩:∃ LL:List T,yE Ψ (.comp [none] (.nm 0) (.seq (.var 0)) [] (.call wh [(.var 0)])) [some (i4 (a :: as)),some (.int (n:Nat))]=.ok (.lst LL)∧zB .all [.lst LL]=.ok (.bl true):=⟨_,cp,ha⟩
 refine (bo rfl).trans ?_
 show bI ⟨sc,0,0⟩ (ySs Ψ ΨM ⟨μ,[],0⟩ (aR _) (qB wh ri) [some (i4 (a :: as)),some (.int (n:Nat))] [])=_
 simp only [qB,aD,ku,cX,zz,gj,dM,iB,j3,jT,bX,bZ,gp,aw,ah,bC,dU,ax,au,br,aU,mE,nR,i6,gv,yR,ba,cL,bE,bj,Ou.aa,aH,ck,gX,fw,List.getElem?_cons_zero,List.getElem?_cons_succ,Bool.not_true,decide_true,decide_false,hw1,b1,i1,cp,ha,e1,e2,hr,n0,l1,l2,decide_true,decide_false]
theorem Iw {α:Type} {xs:List α} {i:Nat} {d:α} (h:i < xs.length):xs[i]?=some (xs.getD i d):=by
 rw [List.getD_eq_getElem?_getD,List.getElem?_eq_getElem h,Option.getD_some]
noncomputable def JH (rows:List (List (Int × Int))) (w:Nat):List (List (Int × Int)):=(List.range w).map fun j=>rows.map fun r=>r.getD j (0,1)
theorem Tbl.turn {rows:List (List (Int × Int))} {m w:Nat} (h:Tbl rows m w):Tbl (JH rows w) w m:=by
 refine ⟨by simp [JH],fun r hr=>?_⟩
 obtain ⟨j,hj,rfl⟩:=List.mem_map.mp hr
 refine ⟨by rw [List.length_map,h.1],fun p hp=>?_⟩
 obtain ⟨r,hr',rfl⟩:=List.mem_map.mp hp
 have hj':j < r.length:=by rw [(h.2 r hr').1]; exact List.mem_range.mp hj
 exact (h.2 r hr').2 _ (List.mem_of_getElem? (Iw hj'))
end Sv
namespace K09
open PySem PySem.Spec L2 Sv
noncomputable def lF0:List (List U→Sto→Rs U):=[]
noncomputable def ld0:List Md:=[]
noncomputable def lG0:List (List T→Ou T):=[]
noncomputable def lH0:List (List T→Ou T):=[]
noncomputable def lS0:List Str:=[]
noncomputable def gJ:List S:=[.set (.nm 2) (.lst []),.ite (.cmp .ge (.bi .abs [(.var 0)]) (.op .pow (.cI 10) (.cI 18))) [.for (.nm 3) (.seq (.var 1)) [.mth .append (.var 2) [(.op .mod (.var 0) (.var 3))],.set (.nm 0) (.op .fdiv (.var 0) (.var 3))],.ret (.var 2)] [],.for (.tp [4,3]) (.enu (.var 1)) [.set (.nm 5) (.op .mod (.op .add (.op .add (.op .add (.op .mul (.var 0) (.cI 48271)) (.op .mul (.op .mul (.var 4) (.var 4)) (.cI 69621))) (.op .mul (.var 4) (.cI 16807))) (.cI 11)) (.cI 2147483647)),.mth .append (.var 2) [(.op .mod (.op .fdiv (.op .mod (.op .add (.op .add (.op .mul (.var 5) (.cI 40692)) (.var 0)) (.op .mul (.cI 31) (.var 4))) (.cI 2147483399)) (.cI 7)) (.var 3))]],.ret (.var 2)]
noncomputable def yk:Fn:=tab lF0
noncomputable def pg:List U→Sto→Rs U:=mk yk gJ 2 6
noncomputable def wd:FnT:=aJ lG0
noncomputable def xq:FnT:=aJ lH0
noncomputable def xw:Nat→Md:=cf ld0
noncomputable def vZ:Md:=⟨false,0,0⟩
noncomputable def ph:List T→Ou T:=mkT wd xq xw ⟨false,0,0⟩ [2] gJ 2 6
noncomputable def wD:List T→Ou T:=fun _=>.bad
noncomputable def lF1:List (List U→Sto→Rs U):=lF0++[pg]
noncomputable def ld1:List Md:=ld0++[vZ]
noncomputable def lG1:List (List T→Ou T):=lG0++[ph]
noncomputable def lH1:List (List T→Ou T):=lH0++[wD]
noncomputable def lS1:List Str:=lS0++[("_law_numbers" : Str)]
theorem xU:bL lF1 ld1 lG1 lH1:=bL.nil.def ⟨false,0,0⟩ rfl [2] gJ 2 6
noncomputable def gR:List S:=[.set (.nm 0) (.bi .abs [(.var 0)]),.set (.nm 1) (.bi .abs [(.var 1)]),.while (.cmp .gt (.var 1) (.cI 0)) [.set (.nm 2) (.op .mod (.var 0) (.var 1)),.set (.nm 0) (.var 1),.set (.nm 1) (.var 2)],.ret (.var 0)]
noncomputable def wH:Fn:=tab lF1
noncomputable def pq:List U→Sto→Rs U:=mk wH gR 2 3
noncomputable def wC:FnT:=aJ lG1
noncomputable def x9:FnT:=aJ lH1
noncomputable def xC:Nat→Md:=cf ld1
noncomputable def wI:Md:=⟨false,0,0⟩
noncomputable def ki:List T→Ou T:=mkT wC x9 xC ⟨false,0,0⟩ [] gR 2 3
noncomputable def vT:List T→Ou T:=fun _=>.bad
noncomputable def lF2:List (List U→Sto→Rs U):=lF1++[pq]
noncomputable def ld2:List Md:=ld1++[wI]
noncomputable def lG2:List (List T→Ou T):=lG1++[ki]
noncomputable def lH2:List (List T→Ou T):=lH1++[vT]
noncomputable def lS2:List Str:=lS1++[("_law_divisor" : Str)]
theorem xt:bL lF2 ld2 lG2 lH2:=xU.def ⟨false,0,0⟩ rfl [] gR 2 3
noncomputable def lu:List S:=[.set (.nm 2) (.call 1 [(.var 0),(.var 1)]),.ret (.tup [(.op .fdiv (.var 0) (.var 2)),(.op .fdiv (.var 1) (.var 2))])]
noncomputable def FE:Fn:=tab lF2
noncomputable def yc:List U→Sto→Rs U:=mk FE lu 2 3
noncomputable def xV:FnT:=aJ lG2
noncomputable def xQ:FnT:=aJ lH2
noncomputable def yr:Nat→Md:=cf ld2
noncomputable def Fu:Md:=⟨false,0,0⟩
noncomputable def qX:List T→Ou T:=mkT xV xQ yr ⟨false,0,0⟩ [] lu 2 3
noncomputable def DA:List T→Ou T:=fun _=>.bad
noncomputable def lF3:List (List U→Sto→Rs U):=lF2++[yc]
noncomputable def ld3:List Md:=ld2++[Fu]
noncomputable def lG3:List (List T→Ou T):=lG2++[qX]
noncomputable def lH3:List (List T→Ou T):=lH2++[DA]
noncomputable def lS3:List Str:=lS2++[("_law_made" : Str)]
theorem Ej:bL lF3 ld3 lG3 lH3:=xt.def ⟨false,0,0⟩ rfl [] lu 2 3
noncomputable def cw:List S:=[.ite (.cmp .eq (.var 0) (.cI 1)) [.ret (.tup [(.op .sub (.op .mod (.var 1) (.cI 5)) (.cI 2)),(.cI 1)])] [],.ite (.cmp .eq (.var 0) (.cI 3)) [.set (.nm 2) (.op .mul (.op .mod (.op .fdiv (.var 1) (.cI 2)) (.op .pow (.cI 10) (.cI 40))) (.op .sub (.cI 1) (.op .mul (.cI 2) (.op .mod (.var 1) (.cI 2))))),.ret (.call 2 [(.var 2),(.op .add (.cI 1) (.op .mod (.op .fdiv (.var 1) (.op .mul (.cI 2) (.op .pow (.cI 10) (.cI 40)))) (.op .sub (.op .pow (.cI 10) (.cI 40)) (.cI 1))))])] [],.ite (.cmp .eq (.var 0) (.cI 2)) [.ret (.call 2 [(.op .mod (.var 1) (.cI 10)),(.op .add (.cI 1) (.op .mod (.op .fdiv (.var 1) (.cI 10)) (.cI 6)))])] [],.ret (.call 2 [(.op .sub (.op .mod (.var 1) (.cI 19)) (.cI 9)),(.op .add (.cI 1) (.op .mod (.op .fdiv (.var 1) (.cI 19)) (.cI 6)))])]
noncomputable def zv:Fn:=tab lF3
noncomputable def rm:List U→Sto→Rs U:=mk zv cw 2 3
noncomputable def dj:FnT:=aJ lG3
noncomputable def iA:FnT:=aJ lH3
noncomputable def ie:Nat→Md:=cf ld3
noncomputable def zT:Md:=⟨false,0,0⟩
noncomputable def cC:List T→Ou T:=mkT dj iA ie ⟨false,0,0⟩ [] cw 2 3
noncomputable def zN:List T→Ou T:=fun _=>.bad
theorem fU (x0 x1:T):cC [x0,x1]=bI ⟨false,0,0⟩ (ySs dj iA ⟨ie,[],0⟩ (aR [x0,x1]) cw [some x0,some x1,none] []):=bo rfl
noncomputable def lF4:List (List U→Sto→Rs U):=lF3++[rm]
noncomputable def ld4:List Md:=ld3++[zT]
noncomputable def lG4:List (List T→Ou T):=lG3++[cC]
noncomputable def lH4:List (List T→Ou T):=lH3++[zN]
noncomputable def lS4:List Str:=lS3++[("_law_number" : Str)]
theorem zL:bL lF4 ld4 lG4 lH4:=Ej.def ⟨false,0,0⟩ rfl [] cw 2 3
noncomputable def jB:List S:=[.set (.nm 4) (.ix (.lst [(.cI 114),(.cI 5),(.cI 60),(.op .mul (.op .mul (.cI 2) (.op .pow (.cI 10) (.cI 40))) (.op .pow (.cI 10) (.cI 40)))]) (.var 3)),.set (.nm 5) (.call 0 [(.var 0),(.comp [none,some 4] (.nm 0) (.rng (.op .mul (.var 1) (.var 2))) [] (.var 1))]),.ret (.comp [none,some 3,some 5,some 2] (.nm 0) (.rng (.var 1)) [] (.comp [none,some 0,some 1,some 2,some 3] (.nm 0) (.rng (.var 3)) [] (.call 3 [(.var 2),(.ix (.var 3) (.op .add (.op .mul (.var 4) (.var 1)) (.var 0)))])))]
noncomputable def CB:Fn:=tab lF4
noncomputable def tK:List U→Sto→Rs U:=mk CB jB 4 6
noncomputable def oR:FnT:=aJ lG4
noncomputable def tT:FnT:=aJ lH4
noncomputable def ui:Nat→Md:=cf ld4
noncomputable def Ci:Md:=⟨false,2,0⟩
noncomputable def oX:List T→Ou T:=mkT oR tT ui ⟨false,2,0⟩ [] jB 4 6
noncomputable def BJ:List T→Ou T:=fun _=>.bad
theorem mr:oR 3=cC:=rfl
noncomputable def lF5:List (List U→Sto→Rs U):=lF4++[tK]
noncomputable def ld5:List Md:=ld4++[Ci]
noncomputable def lG5:List (List T→Ou T):=lG4++[oX]
noncomputable def lH5:List (List T→Ou T):=lH4++[BJ]
noncomputable def lS5:List Str:=lS4++[("_law_table" : Str)]
theorem BU:bL lF5 ld5 lG5 lH5:=zL.def ⟨false,2,0⟩ rfl [] jB 4 6
noncomputable def kQ:List S:=[.ite (.cmp .ge (.bi .abs [(.var 0)]) (.op .pow (.cI 10) (.cI 18))) [.ret (.op .fdiv (.var 0) (.var 1))] [],.ret (.op .add (.var 0) (.var 1))]
noncomputable def EF:Fn:=tab lF5
noncomputable def xx:List U→Sto→Rs U:=mk EF kQ 2 2
noncomputable def Fo:FnT:=aJ lG5
noncomputable def Fw:FnT:=aJ lH5
noncomputable def FA:Nat→Md:=cf ld5
noncomputable def Gh:Md:=⟨false,0,0⟩
noncomputable def qA:List T→Ou T:=mkT Fo Fw FA ⟨false,0,0⟩ [] kQ 2 2
noncomputable def Dq:List T→Ou T:=fun _=>.bad
noncomputable def lF6:List (List U→Sto→Rs U):=lF5++[xx]
noncomputable def ld6:List Md:=ld5++[Gh]
noncomputable def lG6:List (List T→Ou T):=lG5++[qA]
noncomputable def lH6:List (List T→Ou T):=lH5++[Dq]
noncomputable def lS6:List Str:=lS5++[("_law_rest" : Str)]
theorem FK:bL lF6 ld6 lG6 lH6:=BU.def ⟨false,0,0⟩ rfl [] kQ 2 2
noncomputable def fM:List S:=[.set (.nm 2) (.call 0 [(.var 0),(.lst [(.cI 5),(.cI 4),(.cI 8),(.cI 5),(.cI 5)])]),.set (.nm 3) (.op .add (.cI 1) (.ix (.var 2) (.cI 0))),.set (.nm 4) (.ix (.var 2) (.cI 1)),.ite (.and (.cmp .eq (.var 4) (.cI 3)) (.var 1)) [.set (.nm 3) (.bi .min [(.var 3),(.cI 3)])] [.ite (.cmp .eq (.var 4) (.cI 3)) [.set (.nm 4) (.cI 0)] []],.set (.nm 5) (.call 4 [(.call 5 [(.var 0),(.cI 4000)]),(.var 3),(.var 3),(.var 4)]),.set (.nm 6) (.op .mod (.ix (.var 2) (.cI 3)) (.var 3)),.set (.nm 7) (.op .mod (.ix (.var 2) (.cI 4)) (.var 3)),.ite (.cmp .eq (.ix (.var 2) (.cI 2)) (.cI 0)) [.put (.var 5) (.var 6) (.comp [none] (.nm 0) (.seq (.ix (.var 5) (.var 6))) [] (.tup [(.cI 0),(.cI 1)]))] [],.ite (.cmp .eq (.ix (.var 2) (.cI 2)) (.cI 1)) [.put (.var 5) (.var 6) (.bi .list [(.ix (.var 5) (.var 7))])] [],.ite (.cmp .eq (.ix (.var 2) (.cI 2)) (.cI 2)) [.rows 8 5 true (.cI 0) 0 1] [],.ite (.cmp .eq (.ix (.var 2) (.cI 2)) (.cI 3)) [.rows 8 5 false (.var 7) 0 1] [],.ret (.var 5)]
noncomputable def BH:Fn:=tab lF6
noncomputable def t5:List U→Sto→Rs U:=mk BH fM 2 9
noncomputable def bO:FnT:=aJ lG6
noncomputable def fL:FnT:=aJ lH6
noncomputable def dF:Nat→Md:=cf ld6
noncomputable def CT:Md:=⟨false,0,0⟩
noncomputable def kY:List T→Ou T:=mkT bO fL dF ⟨false,0,0⟩ [5] fM 2 9
noncomputable def BL:List T→Ou T:=fun _=>.bad
theorem uZ (x0 x1:T):kY [x0,x1]=bI ⟨false,0,0⟩ (ySs bO fL ⟨dF,[5],0⟩ (aR [x0,x1]) fM [some x0,some x1,none,none,none,none,none,none,none] []):=bo rfl
theorem nU:bO 4=oX:=rfl
theorem oV:bO 5=qA:=rfl
noncomputable def lF7:List (List U→Sto→Rs U):=lF6++[t5]
noncomputable def ld7:List Md:=ld6++[CT]
noncomputable def lG7:List (List T→Ou T):=lG6++[kY]
noncomputable def lH7:List (List T→Ou T):=lH6++[BL]
noncomputable def lS7:List Str:=lS6++[("_law_drawn" : Str)]
theorem Cn:bL lF7 ld7 lG7 lH7:=FK.def ⟨false,0,0⟩ rfl [5] fM 2 9
noncomputable def gh:List S:=[.set (.nm 1) (.lst [(.lst [])]),.for (.nm 2) (.rng (.var 0)) [.set (.nm 3) (.lst []),.for (.nm 4) (.seq (.var 1)) [.mth .extend (.var 3) [(.comp [none,some 4] (.nm 0) (.rng (.var 0)) [(.cmp .nin (.var 0) (.var 1))] (.op .add (.var 1) (.lst [(.var 0)])))]],.set (.nm 1) (.var 3)],.ret (.var 1)]
noncomputable def yK:Fn:=tab lF7
noncomputable def ql:List U→Sto→Rs U:=mk yK gh 1 5
noncomputable def fJ:FnT:=aJ lG7
noncomputable def hW:FnT:=aJ lH7
noncomputable def ig:Nat→Md:=cf ld7
noncomputable def Ae:Md:=⟨false,0,0⟩
noncomputable def jF:List T→Ou T:=mkT fJ hW ig ⟨false,0,0⟩ [3] gh 1 5
noncomputable def Af:List T→Ou T:=fun _=>.bad
theorem sG (x0:T):jF [x0]=bI ⟨false,0,0⟩ (ySs fJ hW ⟨ig,[3],0⟩ (aR [x0]) gh [some x0,none,none,none,none] []):=bo rfl
noncomputable def lF8:List (List U→Sto→Rs U):=lF7++[ql]
noncomputable def ld8:List Md:=ld7++[Ae]
noncomputable def lG8:List (List T→Ou T):=lG7++[jF]
noncomputable def lH8:List (List T→Ou T):=lH7++[Af]
noncomputable def lS8:List Str:=lS7++[("_law_orders" : Str)]
theorem zx:bL lF8 ld8 lG8 lH8:=Cn.def ⟨false,0,0⟩ rfl [3] gh 1 5
noncomputable def km:List S:=[.set (.nm 1) (.bi .len [(.var 0)]),.set (.nm 2) (.cI 1),.for (.nm 3) (.seq (.var 0)) [.for (.nm 4) (.seq (.var 3)) [.set (.nm 2) (.op .fdiv (.op .mul (.var 2) (.ix (.var 4) (.cI 1))) (.call 1 [(.var 2),(.ix (.var 4) (.cI 1))]))]],.set (.nm 5) (.cI 1),.for (.nm 6) (.rng (.var 1)) [.set (.nm 5) (.op .mul (.var 5) (.var 2))],.set (.nm 7) (.cI 0),.for (.nm 8) (.seq (.call 7 [(.var 1)])) [.set (.nm 9) (.cI 1),.for (.nm 10) (.rng (.var 1)) [.set (.nm 4) (.ix (.ix (.var 0) (.var 10)) (.ix (.var 8) (.var 10))),.set (.nm 9) (.op .mul (.op .mul (.var 9) (.ix (.var 4) (.cI 0))) (.op .fdiv (.var 2) (.ix (.var 4) (.cI 1)))),.for (.nm 11) (.rng (.var 10)) [.ite (.cmp .gt (.ix (.var 8) (.var 11)) (.ix (.var 8) (.var 10))) [.set (.nm 9) (.neg (.var 9))] []]],.set (.nm 7) (.op .add (.var 7) (.var 9))],.ret (.tup [(.var 7),(.var 5)])]
noncomputable def HR:Fn:=tab lF8
noncomputable def AF:List U→Sto→Rs U:=mk HR km 1 12
noncomputable def bY:FnT:=aJ lG8
noncomputable def dO:FnT:=aJ lH8
noncomputable def dN:Nat→Md:=cf ld8
noncomputable def GW:Md:=⟨false,0,0⟩
noncomputable def p7:List T→Ou T:=mkT bY dO dN ⟨false,0,0⟩ [] km 1 12
noncomputable def Jj:List T→Ou T:=fun _=>.bad
theorem zK (x0:T):p7 [x0]=bI ⟨false,0,0⟩ (ySs bY dO ⟨dN,[],0⟩ (aR [x0]) km [some x0,none,none,none,none,none,none,none,none,none,none,none] []):=bo rfl
theorem oF:bY 7=jF:=rfl
noncomputable def lF9:List (List U→Sto→Rs U):=lF8++[AF]
noncomputable def ld9:List Md:=ld8++[GW]
noncomputable def lG9:List (List T→Ou T):=lG8++[p7]
noncomputable def lH9:List (List T→Ou T):=lH8++[Jj]
noncomputable def lS9:List Str:=lS8++[("_law_due" : Str)]
theorem HF:bL lF9 ld9 lG9 lH9:=zx.def ⟨false,0,0⟩ rfl [] km 1 12
noncomputable def lq:List S:=[.ite (.cmp .lt (.var 1) (.bi .len [(.var 0)])) [.ret (.ix (.var 0) (.var 1))] [],.ret (.cI 0)]
noncomputable def Eb:Fn:=tab lF9
noncomputable def vK:List U→Sto→Rs U:=mk Eb lq 2 2
noncomputable def Ea:FnT:=aJ lG9
noncomputable def Gy:FnT:=aJ lH9
noncomputable def ES:Nat→Md:=cf ld9
noncomputable def Dz:Md:=⟨false,0,0⟩
noncomputable def qI:List T→Ou T:=mkT Ea Gy ES ⟨false,0,0⟩ [] lq 2 2
noncomputable def EM:List T→Ou T:=fun _=>.bad
noncomputable def Ho:List (List U→Sto→Rs U):=lF9++[vK]
noncomputable def JZ:List Md:=ld9++[Dz]
noncomputable def M1:List (List T→Ou T):=lG9++[qI]
noncomputable def Ni:List (List T→Ou T):=lH9++[EM]
noncomputable def LK:List Str:=lS9++[("_law_cell" : Str)]
theorem Du:bL Ho JZ M1 Ni:=HF.def ⟨false,0,0⟩ rfl [] lq 2 2
noncomputable def jN:List S:=[.ret (.and (.isi (.var 0) .int) (.not (.isi (.var 0) .bool)))]
noncomputable def CK:Fn:=tab Ho
noncomputable def tP:List U→Sto→Rs U:=mk CK jN 1 1
noncomputable def BW:FnT:=aJ M1
noncomputable def BE:FnT:=aJ Ni
noncomputable def BS:Nat→Md:=cf JZ
noncomputable def Cy:Md:=⟨false,0,0⟩
noncomputable def tR:List T→Ou T:=mkT BW BE BS ⟨false,0,0⟩ [] jN 1 1
noncomputable def B5:List T→Ou T:=fun _=>.bad
noncomputable def HW:List (List U→Sto→Rs U):=Ho++[tP]
noncomputable def LM:List Md:=JZ++[Cy]
noncomputable def Lu:List (List T→Ou T):=M1++[tR]
noncomputable def Km:List (List T→Ou T):=Ni++[B5]
noncomputable def KZ:List Str:=LK++[("_law_whole" : Str)]
theorem BM:bL HW LM Lu Km:=Du.def ⟨false,0,0⟩ rfl [] jN 1 1
noncomputable def cT:List S:=[.ite (.or (.not (.isi (.var 0) .tuple)) (.or (.cmp .ne (.bi .len [(.var 0)]) (.cI 2)) (.or (.not (.call 10 [(.ix (.var 0) (.cI 0))])) (.not (.call 10 [(.ix (.var 0) (.cI 1))]))))) [.ret (.cB false)] [],.ite (.or (.cmp .lt (.ix (.var 0) (.cI 1)) (.cI 1)) (.cmp .ne (.call 1 [(.ix (.var 0) (.cI 0)),(.ix (.var 0) (.cI 1))]) (.cI 1))) [.ret (.cB false)] [],.ret (.cmp .eq (.op .mul (.ix (.var 0) (.cI 0)) (.var 2)) (.op .mul (.var 1) (.ix (.var 0) (.cI 1))))]
noncomputable def sx:Fn:=tab HW
noncomputable def me:List U→Sto→Rs U:=mk sx cT 3 3
noncomputable def lK:FnT:=aJ Lu
noncomputable def lU:FnT:=aJ Km
noncomputable def ma:Nat→Md:=cf LM
noncomputable def tu:Md:=⟨false,0,0⟩
noncomputable def fQ:List T→Ou T:=mkT lK lU ma ⟨false,0,0⟩ [] cT 3 3
noncomputable def sY:List T→Ou T:=fun _=>.bad
theorem oo (x0 x1 x2:T):fQ [x0,x1,x2]=bI ⟨false,0,0⟩ (ySs lK lU ⟨ma,[],0⟩ (aR [x0,x1,x2]) cT [some x0,some x1,some x2] []):=bo rfl
noncomputable def Ia:List (List U→Sto→Rs U):=HW++[me]
noncomputable def LG:List Md:=LM++[tu]
noncomputable def Lj:List (List T→Ou T):=Lu++[fQ]
noncomputable def JY:List (List T→Ou T):=Km++[sY]
noncomputable def MI:List Str:=KZ++[("_law_is_number" : Str)]
theorem tm:bL Ia LG Lj JY:=BM.def ⟨false,0,0⟩ rfl [] cT 3 3
noncomputable def eE:List S:=[.ret (.and (.isi (.var 0) .list) (.chain .le .le (.cI 1) (.bi .len [(.var 0)]) (.cI 7)))]
noncomputable def pO:Fn:=tab Ia
noncomputable def jV:List U→Sto→Rs U:=mk pO eE 1 1
noncomputable def pI:FnT:=aJ Lj
noncomputable def pR:FnT:=aJ JY
noncomputable def pE:Nat→Md:=cf LG
noncomputable def pN:Md:=⟨false,0,0⟩
noncomputable def jS:List T→Ou T:=mkT pI pR pE ⟨false,0,0⟩ [] eE 1 1
noncomputable def pP:List T→Ou T:=fun _=>.bad
noncomputable def HH:List (List U→Sto→Rs U):=Ia++[jV]
noncomputable def LD:List Md:=LG++[pN]
noncomputable def LY:List (List T→Ou T):=Lj++[jS]
noncomputable def Ld:List (List T→Ou T):=JY++[pP]
noncomputable def Nc:List Str:=MI++[("is_short_list" : Str)]
theorem pK:bL HH LD LY Ld:=tm.def ⟨false,0,0⟩ rfl [] eE 1 1
noncomputable def iV:List S:=[.ret (.and (.isi (.var 0) .int) (.not (.isi (.var 0) .bool)))]
noncomputable def y3:Fn:=tab HH
noncomputable def qy:List U→Sto→Rs U:=mk y3 iV 1 1
noncomputable def zg:FnT:=aJ LY
noncomputable def zA:FnT:=aJ Ld
noncomputable def yO:Nat→Md:=cf LD
noncomputable def yM:Md:=⟨false,0,0⟩
noncomputable def mH:List T→Ou T:=mkT zg zA yO ⟨false,0,0⟩ [] iV 1 1
noncomputable def zJ:List T→Ou T:=fun _=>.bad
noncomputable def Hh:List (List U→Sto→Rs U):=HH++[qy]
noncomputable def K6:List Md:=LD++[yM]
noncomputable def Mw:List (List T→Ou T):=LY++[mH]
noncomputable def Le:List (List T→Ou T):=Ld++[zJ]
noncomputable def Lr:List Str:=Nc++[("is_whole" : Str)]
theorem y8:bL Hh K6 Mw Le:=pK.def ⟨false,0,0⟩ rfl [] iV 1 1
noncomputable def dQ:List S:=[.set (.nm 2) (.bi .abs [(.var 0)]),.set (.nm 3) (.bi .abs [(.var 1)]),.while (.cmp .ne (.var 3) (.cI 0)) [.set (.nm 4) (.op .mod (.var 2) (.var 3)),.set (.nm 2) (.var 3),.set (.nm 3) (.var 4)],.ret (.var 2)]
noncomputable def oU:Fn:=tab Hh
noncomputable def jh:List U→Sto→Rs U:=mk oU dQ 2 5
noncomputable def oe:FnT:=aJ Mw
noncomputable def nZ:FnT:=aJ Le
noncomputable def oO:Nat→Md:=cf K6
noncomputable def oa:Md:=⟨false,0,0⟩
noncomputable def i9:List T→Ou T:=mkT oe nZ oO ⟨false,0,0⟩ [] dQ 2 5
noncomputable def oP:List T→Ou T:=fun _=>.bad
noncomputable def GG:List (List U→Sto→Rs U):=Hh++[jh]
noncomputable def LR:List Md:=K6++[oa]
noncomputable def Nv:List (List T→Ou T):=Mw++[i9]
noncomputable def Ky:List (List T→Ou T):=Le++[oP]
noncomputable def L4:List Str:=Lr++[("common_divisor" : Str)]
theorem oz:bL GG LR Nv Ky:=y8.def ⟨false,0,0⟩ rfl [] dQ 2 5
noncomputable def fg:List S:=[.ite (.or (.not (.isi (.var 0) .tuple)) (.cmp .ne (.bi .len [(.var 0)]) (.cI 2))) [.ret (.cB false)] [],.ite (.or (.not (.call 13 [(.ix (.var 0) (.cI 0))])) (.not (.call 13 [(.ix (.var 0) (.cI 1))]))) [.ret (.cB false)] [],.ret (.and (.cmp .ge (.ix (.var 0) (.cI 1)) (.cI 1)) (.cmp .eq (.call 14 [(.ix (.var 0) (.cI 0)),(.ix (.var 0) (.cI 1))]) (.cI 1)))]
noncomputable def sv:Fn:=tab GG
noncomputable def lN:List U→Sto→Rs U:=mk sv fg 1 1
noncomputable def lZ:FnT:=aJ Nv
noncomputable def sP:FnT:=aJ Ky
noncomputable def tG:Nat→Md:=cf LR
noncomputable def sF:Md:=⟨false,0,0⟩
noncomputable def lM:List T→Ou T:=mkT lZ sP tG ⟨false,0,0⟩ [] fg 1 1
noncomputable def tq:List T→Ou T:=fun _=>.bad
noncomputable def GR:List (List U→Sto→Rs U):=GG++[lN]
noncomputable def J7:List Md:=LR++[sF]
noncomputable def Ku:List (List T→Ou T):=Nv++[lM]
noncomputable def NK:List (List T→Ou T):=Ky++[tq]
noncomputable def LU:List Str:=L4++[("is_fraction" : Str)]
theorem sZ:bL GR J7 Ku NK:=oz.def ⟨false,0,0⟩ rfl [] fg 1 1
noncomputable def kJ:List S:=[.ret (.and (.call 12 [(.var 0)]) (.bi .all [(.comp [none] (.nm 0) (.seq (.var 0)) [] (.call 15 [(.var 0)]))]))]
noncomputable def FF:Fn:=tab GR
noncomputable def vS:List U→Sto→Rs U:=mk FF kJ 1 1
noncomputable def Ek:FnT:=aJ Ku
noncomputable def EY:FnT:=aJ NK
noncomputable def EK:Nat→Md:=cf J7
noncomputable def Ed:Md:=⟨false,0,0⟩
noncomputable def xA:List T→Ou T:=mkT Ek EY EK ⟨false,0,0⟩ [] kJ 1 1
noncomputable def FI:List T→Ou T:=fun _=>.bad
noncomputable def Hv:List (List U→Sto→Rs U):=GR++[vS]
noncomputable def J8:List Md:=J7++[Ed]
noncomputable def MY:List (List T→Ou T):=Ku++[xA]
noncomputable def MF:List (List T→Ou T):=NK++[FI]
noncomputable def LW:List Str:=LU++[("is_row" : Str)]
theorem CV:bL Hv J8 MY MF:=sZ.def ⟨false,0,0⟩ rfl [] kJ 1 1
noncomputable def iW:List S:=[.ite (.or (.not (.call 12 [(.var 0)])) (.not (.bi .all [(.comp [none] (.nm 0) (.seq (.var 0)) [] (.call 16 [(.var 0)]))]))) [.ret (.cB false)] [],.ret (.bi .all [(.comp [none,some 0] (.nm 0) (.seq (.var 0)) [] (.cmp .eq (.bi .len [(.var 0)]) (.bi .len [(.ix (.var 1) (.cI 0))])))])]
noncomputable def zy:Fn:=tab Hv
noncomputable def rX:List U→Sto→Rs U:=mk zy iW 1 1
noncomputable def zq:FnT:=aJ MY
noncomputable def yQ:FnT:=aJ MF
noncomputable def zG:Nat→Md:=cf J8
noncomputable def zU:Md:=⟨false,0,0⟩
noncomputable def qU:List T→Ou T:=mkT zq yQ zG ⟨false,0,0⟩ [] iW 1 1
noncomputable def ze:List T→Ou T:=fun _=>.bad
noncomputable def IK:List (List U→Sto→Rs U):=Hv++[rX]
noncomputable def KQ:List Md:=J8++[zU]
noncomputable def KU:List (List T→Ou T):=MY++[qU]
noncomputable def J6:List (List T→Ou T):=MF++[ze]
noncomputable def LO:List Str:=LW++[("is_table" : Str)]
theorem zZ:bL IK KQ KU J6:=CV.def ⟨false,0,0⟩ rfl [] iW 1 1
noncomputable def dE:List S:=[.ite (.not (.call 17 [(.var 0)])) [.nev] []]
noncomputable def vj:Fn:=tab IK
noncomputable def mX:List U→Sto→Rs U:=mk vj dE 1 1
noncomputable def js:FnT:=aJ KU
noncomputable def nS:FnT:=aJ J6
noncomputable def nE:Nat→Md:=cf KQ
noncomputable def uD:Md:=⟨false,0,0⟩
noncomputable def jz:List T→Ou T:=mkT js nS nE ⟨false,0,0⟩ [] dE 1 1
noncomputable def vd:List T→Ou T:=fun _=>.bad
theorem pF (x0:T):jz [x0]=bI ⟨false,0,0⟩ (ySs js nS ⟨nE,[],0⟩ (aR [x0]) dE [some x0] []):=bo rfl
noncomputable def Ji:List (List U→Sto→Rs U):=IK++[mX]
noncomputable def Ke:List Md:=KQ++[uD]
noncomputable def KN:List (List T→Ou T):=KU++[jz]
noncomputable def KD:List (List T→Ou T):=J6++[vd]
noncomputable def L8:List Str:=LO++[("look_table" : Str)]
theorem vx:bL Ji Ke KN KD:=zZ.def ⟨false,0,0⟩ rfl [] dE 1 1
noncomputable def cQ:List S:=[.ite (.cmp .ne (.bi .len [(.var 0)]) (.bi .len [(.ix (.var 0) (.cI 0))])) [.nev] []]
noncomputable def sA:Fn:=tab Ji
noncomputable def lL:List U→Sto→Rs U:=mk sA cQ 1 1
noncomputable def lO:FnT:=aJ KN
noncomputable def lV:FnT:=aJ KD
noncomputable def lY:Nat→Md:=cf Ke
noncomputable def sQ:Md:=⟨false,0,0⟩
noncomputable def iZ:List T→Ou T:=mkT lO lV lY ⟨false,0,0⟩ [] cQ 1 1
noncomputable def tf:List T→Ou T:=fun _=>.bad
theorem oi (x0:T):iZ [x0]=bI ⟨false,0,0⟩ (ySs lO lV ⟨lY,[],0⟩ (aR [x0]) cQ [some x0] []):=bo rfl
noncomputable def HA:List (List U→Sto→Rs U):=Ji++[lL]
noncomputable def Nl:List Md:=Ke++[sQ]
noncomputable def MB:List (List T→Ou T):=KN++[iZ]
noncomputable def Kn:List (List T→Ou T):=KD++[tf]
noncomputable def K4:List Str:=L8++[("look_square" : Str)]
theorem sO:bL HA Nl MB Kn:=vx.def ⟨false,0,0⟩ rfl [] cQ 1 1
noncomputable def bG:List S:=[.set (.nm 2) (.call 14 [(.var 0),(.var 1)]),.ite (.cmp .lt (.var 1) (.cI 0)) [.set (.nm 2) (.neg (.var 2))] [],.ret (.tup [(.op .fdiv (.var 0) (.var 2)),(.op .fdiv (.var 1) (.var 2))])]
noncomputable def nA:Fn:=tab HA
noncomputable def iO:List U→Sto→Rs U:=mk nA bG 2 3
noncomputable def iR:FnT:=aJ MB
noncomputable def iQ:FnT:=aJ Kn
noncomputable def iT:Nat→Md:=cf Nl
noncomputable def mN:Md:=⟨false,0,0⟩
noncomputable def fh:List T→Ou T:=mkT iR iQ iT ⟨false,0,0⟩ [] bG 2 3
noncomputable def mU:List T→Ou T:=fun _=>.bad
theorem kq (x0 x1:T):fh [x0,x1]=bI ⟨false,0,0⟩ (ySs iR iQ ⟨iT,[],0⟩ (aR [x0,x1]) bG [some x0,some x1,none] []):=bo rfl
noncomputable def GF:List (List U→Sto→Rs U):=HA++[iO]
noncomputable def Ll:List Md:=Nl++[mN]
noncomputable def Ks:List (List T→Ou T):=MB++[fh]
noncomputable def LX:List (List T→Ou T):=Kn++[mU]
noncomputable def M8:List Str:=K4++[("in_lowest_terms" : Str)]
theorem mO:bL GF Ll Ks LX:=sO.def ⟨false,0,0⟩ rfl [] bG 2 3
noncomputable def eZ:List S:=[.ite (.or (.not (.call 13 [(.var 0)])) (.not (.call 13 [(.var 1)]))) [.nev] [],.ite (.cmp .eq (.var 1) (.cI 0)) [.nev] [],.ret (.call 20 [(.var 0),(.var 1)])]
noncomputable def Ac:Fn:=tab GF
noncomputable def rh:List U→Sto→Rs U:=mk Ac eZ 2 2
noncomputable def mI:FnT:=aJ Ks
noncomputable def rF:FnT:=aJ LX
noncomputable def rp:Nat→Md:=cf Ll
noncomputable def zi:Md:=⟨false,0,0⟩
noncomputable def mh:List T→Ou T:=mkT mI rF rp ⟨false,0,0⟩ [] eZ 2 2
noncomputable def yL:List T→Ou T:=fun _=>.bad
theorem sE (x0 x1:T):mh [x0,x1]=bI ⟨false,0,0⟩ (ySs mI rF ⟨rp,[],0⟩ (aR [x0,x1]) eZ [some x0,some x1] []):=bo rfl
noncomputable def GI:List (List U→Sto→Rs U):=GF++[dfU 1 (1) rh]
noncomputable def MD:List Md:=Ll++[zi]
noncomputable def K3:List (List T→Ou T):=Ks++[dfT 1 (1) mh]
noncomputable def Nj:List (List T→Ou T):=LX++[yL]
noncomputable def LI:List Str:=M8++[("fraction" : Str)]
theorem yU:bL GI MD K3 Nj:=mO.df 1 (1) ⟨false,0,0⟩ rfl [] eZ 2 2
noncomputable def fV:List S:=[.set (.nm 1) (.cI 1),.for (.nm 2) (.seq (.var 0)) [.set (.nm 1) (.op .mul (.op .fdiv (.var 1) (.call 14 [(.var 1),(.ix (.var 2) (.cI 1))])) (.ix (.var 2) (.cI 1)))],.ret (.var 1)]
noncomputable def zj:Fn:=tab GI
noncomputable def rV:List U→Sto→Rs U:=mk zj fV 1 3
noncomputable def jG:FnT:=aJ K3
noncomputable def jJ:FnT:=aJ Nj
noncomputable def jm:Nat→Md:=cf MD
noncomputable def yV:Md:=⟨false,0,0⟩
noncomputable def jt:List T→Ou T:=mkT jG jJ jm ⟨false,0,0⟩ [] fV 1 3
noncomputable def Ab:List T→Ou T:=fun _=>.bad
theorem sJ (x0:T):jt [x0]=bI ⟨false,0,0⟩ (ySs jG jJ ⟨jm,[],0⟩ (aR [x0]) fV [some x0,none,none] []):=bo rfl
noncomputable def IM:List (List U→Sto→Rs U):=GI++[rV]
noncomputable def MA:List Md:=MD++[yV]
noncomputable def Kr:List (List T→Ou T):=K3++[jt]
noncomputable def K9:List (List T→Ou T):=Nj++[Ab]
noncomputable def Kk:List Str:=LI++[("scale_of" : Str)]
theorem zl:bL IM MA Kr K9:=yU.def ⟨false,0,0⟩ rfl [] fV 1 3
noncomputable def cR:List S:=[.for (.nm 2) (.rng2 (.var 1) (.bi .len [(.var 0)])) [.ite (.cmp .ne (.ix (.ix (.var 0) (.var 2)) (.var 1)) (.cI 0)) [.ret (.var 2)] []],.ret .cN]
noncomputable def tx:Fn:=tab IM
noncomputable def lX:List U→Sto→Rs U:=mk tx cR 2 3
noncomputable def bS:FnT:=aJ Kr
noncomputable def dC:FnT:=aJ K9
noncomputable def dI:Nat→Md:=cf MA
noncomputable def sL:Md:=⟨true,0,0⟩
noncomputable def eG:List T→Ou T:=mkT bS dC dI ⟨true,0,0⟩ [] cR 2 3
noncomputable def tH:List T→Ou T:=fun _=>.bad
theorem oG (x0 x1:T):eG [x0,x1]=bI ⟨true,0,0⟩ (ySs bS dC ⟨dI,[],0⟩ (aR [x0,x1]) cR [some x0,some x1,none] []):=bo rfl
noncomputable def HY:List (List U→Sto→Rs U):=IM++[lX]
noncomputable def Mf:List Md:=MA++[sL]
noncomputable def Mh:List (List T→Ou T):=Kr++[eG]
noncomputable def MX:List (List T→Ou T):=K9++[tH]
noncomputable def L9:List Str:=Kk++[("pivot_place" : Str)]
theorem sI:bL HY Mf Mh MX:=zl.def ⟨true,0,0⟩ rfl [] cR 2 3
noncomputable def fG:List S:=[.set (.nm 4) (.ix (.var 1) (.var 2)),.set (.nm 5) (.ix (.var 0) (.var 2)),.ret (.comp [none,none,some 5,some 3,some 4] (.tp [0,1]) (.zip (.var 0) (.var 1)) [] (.op .fdiv (.op .sub (.op .mul (.var 0) (.var 4)) (.op .mul (.var 1) (.var 2))) (.var 3)))]
noncomputable def CQ:Fn:=tab HY
noncomputable def tV:List U→Sto→Rs U:=mk CQ fG 4 6
noncomputable def tL:FnT:=aJ Mh
noncomputable def ua:FnT:=aJ MX
noncomputable def ub:Nat→Md:=cf Mf
noncomputable def Ca:Md:=⟨false,0,0⟩
noncomputable def kS:List T→Ou T:=mkT tL ua ub ⟨false,0,0⟩ [] fG 4 6
noncomputable def BX:List T→Ou T:=fun _=>.bad
theorem uR (x0 x1 x2 x3:T):kS [x0,x1,x2,x3]=bI ⟨false,0,0⟩ (ySs tL ua ⟨ub,[],0⟩ (aR [x0,x1,x2,x3]) fG [some x0,some x1,some x2,some x3,none,none] []):=bo rfl
noncomputable def II:List (List U→Sto→Rs U):=HY++[tV]
noncomputable def J1:List Md:=Mf++[Ca]
noncomputable def Nd:List (List T→Ou T):=Mh++[kS]
noncomputable def MP:List (List T→Ou T):=MX++[BX]
noncomputable def Mv:List Str:=L9++[("cleared" : Str)]
theorem BZ:bL II J1 Nd MP:=sI.def ⟨false,0,0⟩ rfl [] fG 4 6
noncomputable def bq:List S:=[.set (.nm 1) (.bi .list [(.var 0)]),.set (.nm 2) (.bi .len [(.var 0)]),.set (.nm 3) (.cI 1),.set (.nm 4) (.cI 1),.for (.nm 5) (.rng (.var 2)) [.set (.nm 6) (.call 23 [(.var 1),(.var 5)]),.ite (.isN false (.var 6)) [.ret (.cI 0)] [],.ite (.cmp .eq (.op .mod (.op .sub (.var 6) (.var 5)) (.cI 2)) (.cI 1)) [.set (.nm 3) (.neg (.var 3))] [],.mth .rot (.var 1) [(.var 5),(.var 6)],.for (.nm 7) (.rng2 (.op .add (.var 5) (.cI 1)) (.var 2)) [.put (.var 1) (.var 7) (.call 24 [(.ix (.var 1) (.var 7)),(.ix (.var 1) (.var 5)),(.var 5),(.var 4)])],.set (.nm 4) (.ix (.ix (.var 1) (.var 5)) (.var 5))],.ret (.op .mul (.var 3) (.var 4))]
noncomputable def lx:Fn:=tab II
noncomputable def gA:List U→Sto→Rs U:=mk lx bq 1 8
noncomputable def aj:FnT:=aJ Nd
noncomputable def aC:FnT:=aJ MP
noncomputable def ay:Nat→Md:=cf J1
noncomputable def lD:Md:=⟨false,0,0⟩
noncomputable def cK:List T→Ou T:=mkT aj aC ay ⟨false,0,0⟩ [1] bq 1 8
noncomputable def lC:List T→Ou T:=fun _=>.bad
theorem jy (x0:T):cK [x0]=bI ⟨false,0,0⟩ (ySs aj aC ⟨ay,[1],0⟩ (aR [x0]) bq [some x0,none,none,none,none,none,none,none] []):=bo rfl
theorem fm:aj 23=eG:=rfl
noncomputable def Jf:List (List U→Sto→Rs U):=II++[gA]
noncomputable def Lx:List Md:=J1++[lD]
noncomputable def NA:List (List T→Ou T):=Nd++[cK]
noncomputable def Mg:List (List T→Ou T):=MP++[lC]
noncomputable def My:List Str:=Mv++[("whole_determinant" : Str)]
theorem lB:bL Jf Lx NA Mg:=BZ.def ⟨false,0,0⟩ rfl [1] bq 1 8
noncomputable def cv:List S:=[.set (.nm 1) (.cI 1),.for (.nm 2) (.seq (.var 0)) [.set (.nm 1) (.op .mul (.var 1) (.var 2))],.ret (.var 1)]
noncomputable def oJ:Fn:=tab Jf
noncomputable def jc:List U→Sto→Rs U:=mk oJ cv 1 3
noncomputable def eo:FnT:=aJ NA
noncomputable def ef:FnT:=aJ Mg
noncomputable def el:Nat→Md:=cf Lx
noncomputable def ox:Md:=⟨false,0,0⟩
noncomputable def ej:List T→Ou T:=mkT eo ef el ⟨false,0,0⟩ [] cv 1 3
noncomputable def oW:List T→Ou T:=fun _=>.bad
theorem lH (x0:T):ej [x0]=bI ⟨false,0,0⟩ (ySs eo ef ⟨el,[],0⟩ (aR [x0]) cv [some x0,none,none] []):=bo rfl
noncomputable def Jl:List (List U→Sto→Rs U):=Jf++[jc]
noncomputable def MC:List Md:=Lx++[ox]
noncomputable def KW:List (List T→Ou T):=NA++[ej]
noncomputable def Mq:List (List T→Ou T):=Mg++[oW]
noncomputable def MO:List Str:=My++[("product_of_all" : Str)]
theorem oB:bL Jl MC KW Mq:=lB.def ⟨false,0,0⟩ rfl [] cv 1 3
noncomputable def eA:List S:=[.ret (.comp [none,some 1] (.nm 0) (.seq (.var 0)) [] (.op .mul (.ix (.var 0) (.cI 0)) (.op .fdiv (.var 1) (.ix (.var 0) (.cI 1)))))]
noncomputable def xj:Fn:=tab Jl
noncomputable def o9:List U→Sto→Rs U:=mk xj eA 2 2
noncomputable def pf:FnT:=aJ KW
noncomputable def pw:FnT:=aJ Mq
noncomputable def o1:Nat→Md:=cf MC
noncomputable def wY:Md:=⟨false,0,0⟩
noncomputable def j4:List T→Ou T:=mkT pf pw o1 ⟨false,0,0⟩ [] eA 2 2
noncomputable def yH:List T→Ou T:=fun _=>.bad
theorem qQ (x0 x1:T):j4 [x0,x1]=bI ⟨false,0,0⟩ (ySs pf pw ⟨o1,[],0⟩ (aR [x0,x1]) eA [some x0,some x1] []):=bo rfl
noncomputable def Ig:List (List U→Sto→Rs U):=Jl++[o9]
noncomputable def Kw:List Md:=MC++[wY]
noncomputable def Kt:List (List T→Ou T):=KW++[j4]
noncomputable def Lc:List (List T→Ou T):=Mq++[yH]
noncomputable def Ly:List Str:=MO++[("whole_row" : Str)]
theorem v5:bL Ig Kw Kt Lc:=oB.def ⟨false,0,0⟩ rfl [] eA 2 2
noncomputable def dG:List S:=[.ret (.comp [none,none] (.tp [0,1]) (.zip (.var 0) (.var 1)) [] (.call 27 [(.var 0),(.var 1)]))]
noncomputable def vg:Fn:=tab Ig
noncomputable def nG:List U→Sto→Rs U:=mk vg dG 2 2
noncomputable def nM:FnT:=aJ Kt
noncomputable def mV:FnT:=aJ Lc
noncomputable def nB:Nat→Md:=cf Kw
noncomputable def vp:Md:=⟨false,0,0⟩
noncomputable def gK:List T→Ou T:=mkT nM mV nB ⟨false,0,0⟩ [] dG 2 2
noncomputable def vz:List T→Ou T:=fun _=>.bad
theorem pQ (x0 x1:T):gK [x0,x1]=bI ⟨false,0,0⟩ (ySs nM mV ⟨nB,[],0⟩ (aR [x0,x1]) dG [some x0,some x1] []):=bo rfl
noncomputable def HU:List (List U→Sto→Rs U):=Ig++[nG]
noncomputable def NL:List Md:=Kw++[vp]
noncomputable def Lb:List (List T→Ou T):=Kt++[gK]
noncomputable def Nf:List (List T→Ou T):=Lc++[vz]
noncomputable def Ml:List Str:=Ly++[("whole_rows" : Str)]
theorem vf:bL HU NL Lb Nf:=v5.def ⟨false,0,0⟩ rfl [] dG 2 2
noncomputable def aZ:List S:=[.expr (.call 19 [(.var 0)]),.set (.nm 1) (.comp [none] (.nm 0) (.seq (.var 0)) [] (.call 22 [(.var 0)])),.ret (.call 21 [(.call 25 [(.call 28 [(.var 0),(.var 1)])]),(.call 26 [(.var 1)])])]
noncomputable def kf:Fn:=tab HU
noncomputable def gc:List U→Sto→Rs U:=mk kf aZ 1 2
noncomputable def aE:FnT:=aJ Lb
noncomputable def fX:FnT:=aJ Nf
noncomputable def fY:Nat→Md:=cf NL
noncomputable def kD:Md:=⟨false,0,0⟩
noncomputable def cq:List T→Ou T:=mkT aE fX fY ⟨false,0,0⟩ [] aZ 1 2
noncomputable def kx:List T→Ou T:=fun _=>.bad
theorem jj (x0:T):cq [x0]=bI ⟨false,0,0⟩ (ySs aE fX ⟨fY,[],0⟩ (aR [x0]) aZ [some x0,none] []):=bo rfl
theorem gd:aE 22=jt:=rfl
theorem dS:aE 25=cK:=rfl
theorem eF:aE 26=ej:=rfl
theorem fo:aE 28=gK:=rfl
noncomputable def Jv:List (List U→Sto→Rs U):=HU++[gc]
noncomputable def JX:List Md:=NL++[kD]
noncomputable def MT:List (List T→Ou T):=Lb++[cq]
noncomputable def Nq:List (List T→Ou T):=Nf++[kx]
noncomputable def Nn:List Str:=Ml++[("square_determinant" : Str)]
theorem kI:bL Jv JX MT Nq:=vf.def ⟨false,0,0⟩ rfl [] aZ 1 2
noncomputable def cM:List S:=[.expr (.call 18 [(.var 0)]),.ret (.call 29 [(.var 0)])]
noncomputable def sN:Fn:=tab Jv
noncomputable def mf:List U→Sto→Rs U:=mk sN cM 1 1
noncomputable def fO:FnT:=aJ MT
noncomputable def lJ:FnT:=aJ Nq
noncomputable def lR:Nat→Md:=cf JX
noncomputable def sU:Md:=⟨false,0,0⟩
noncomputable def fS:List T→Ou T:=mkT fO lJ lR ⟨false,0,0⟩ [] cM 1 1
noncomputable def sW:List T→Ou T:=fun _=>.bad
theorem nY (x0:T):fS [x0]=bI ⟨false,0,0⟩ (ySs fO lJ ⟨lR,[],0⟩ (aR [x0]) cM [some x0] []):=bo rfl
noncomputable def GQ:List (List U→Sto→Rs U):=Jv++[mf]
noncomputable def K0:List Md:=JX++[sU]
noncomputable def Ms:List (List T→Ou T):=MT++[fS]
noncomputable def Kj:List (List T→Ou T):=Nq++[sW]
noncomputable def MZ:List Str:=Nn++[("determinant" : Str)]
theorem sS:bL GQ K0 Ms Kj:=kI.def ⟨false,0,0⟩ rfl [] cM 1 1
noncomputable def gQ:List S:=[.ret (.bi .all [(.comp [none,some 0] (.nm 0) (.rng2 (.cI 1) (.bi .len [(.var 0)])) [] (.cmp .lt (.ix (.var 1) (.op .sub (.var 0) (.cI 1))) (.ix (.var 1) (.var 0))))])]
noncomputable def yg:Fn:=tab GQ
noncomputable def o8:List U→Sto→Rs U:=mk yg gQ 1 1
noncomputable def ym:FnT:=aJ Ms
noncomputable def wR:FnT:=aJ Kj
noncomputable def wt:Nat→Md:=cf K0
noncomputable def wx:Md:=⟨false,0,0⟩
noncomputable def o3:List T→Ou T:=mkT ym wR wt ⟨false,0,0⟩ [] gQ 1 1
noncomputable def wy:List T→Ou T:=fun _=>.bad
noncomputable def IP:List (List U→Sto→Rs U):=GQ++[o8]
noncomputable def Mk:List Md:=K0++[wx]
noncomputable def Lg:List (List T→Ou T):=Ms++[o3]
noncomputable def Ko:List (List T→Ou T):=Kj++[wy]
noncomputable def Nr:List Str:=MZ++[("is_rising" : Str)]
theorem w6:bL IP Mk Lg Ko:=sS.def ⟨false,0,0⟩ rfl [] gQ 1 1
noncomputable def gM:List S:=[.ite (.or (.not (.call 13 [(.var 1)])) (.or (.not (.isi (.var 0) .list)) (.cmp .eq (.bi .len [(.var 0)]) (.cI 0)))) [.ret (.cB false)] [],.ite (.not (.bi .all [(.comp [none] (.nm 0) (.seq (.var 0)) [] (.call 13 [(.var 0)]))])) [.ret (.cB false)] [],.ret (.and (.call 31 [(.var 0)]) (.and (.cmp .ge (.ix (.var 0) (.cI 0)) (.cI 0)) (.cmp .lt (.ix (.var 0) (.neg (.cI 1))) (.var 1))))]
noncomputable def yx:Fn:=tab IP
noncomputable def pA:List U→Sto→Rs U:=mk yx gM 2 2
noncomputable def iH:FnT:=aJ Lg
noncomputable def xZ:FnT:=aJ Ko
noncomputable def yC:Nat→Md:=cf Mk
noncomputable def vR:Md:=⟨false,0,0⟩
noncomputable def j9:List T→Ou T:=mkT iH xZ yC ⟨false,0,0⟩ [] gM 2 2
noncomputable def yu:List T→Ou T:=fun _=>.bad
theorem jW:iH 31=o3:=rfl
noncomputable def IL:List (List U→Sto→Rs U):=IP++[pA]
noncomputable def J9:List Md:=Mk++[vR]
noncomputable def MN:List (List T→Ou T):=Lg++[j9]
noncomputable def L7:List (List T→Ou T):=Ko++[yu]
noncomputable def LA:List Str:=Nr++[("is_choice" : Str)]
theorem v9:bL IL J9 MN L7:=w6.def ⟨false,0,0⟩ rfl [] gM 2 2
noncomputable def cn:List S:=[.ite (.not (.call 32 [(.var 0),(.var 2)])) [.nev] [],.ite (.not (.call 32 [(.var 1),(.var 3)])) [.nev] []]
noncomputable def qL:Fn:=tab IL
noncomputable def kr:List U→Sto→Rs U:=mk qL cn 4 4
noncomputable def ib:FnT:=aJ MN
noncomputable def kz:FnT:=aJ L7
noncomputable def j6:Nat→Md:=cf J9
noncomputable def qv:Md:=⟨false,0,0⟩
noncomputable def fj:List T→Ou T:=mkT ib kz j6 ⟨false,0,0⟩ [] cn 4 4
noncomputable def se:List T→Ou T:=fun _=>.bad
theorem mT (x0 x1 x2 x3:T):fj [x0,x1,x2,x3]=bI ⟨false,0,0⟩ (ySs ib kz ⟨j6,[],0⟩ (aR [x0,x1,x2,x3]) cn [some x0,some x1,some x2,some x3] []):=bo rfl
theorem i7:ib 32=j9:=rfl
noncomputable def Hy:List (List U→Sto→Rs U):=IL++[kr]
noncomputable def Ln:List Md:=J9++[qv]
noncomputable def Kg:List (List T→Ou T):=MN++[fj]
noncomputable def Nb:List (List T→Ou T):=L7++[se]
noncomputable def JU:List Str:=LA++[("look_choices" : Str)]
theorem qH:bL Hy Ln Kg Nb:=v9.def ⟨false,0,0⟩ rfl [] cn 4 4
noncomputable def gZ:List S:=[.ret (.comp [none,some 0] (.nm 0) (.seq (.var 1)) [] (.ix (.var 1) (.var 0)))]
noncomputable def Es:Fn:=tab Hy
noncomputable def vW:List U→Sto→Rs U:=mk Es gZ 2 2
noncomputable def x5:FnT:=aJ Kg
noncomputable def yy:FnT:=aJ Nb
noncomputable def wu:Nat→Md:=cf Ln
noncomputable def DZ:Md:=⟨false,0,0⟩
noncomputable def qJ:List T→Ou T:=mkT x5 yy wu ⟨false,0,0⟩ [] gZ 2 2
noncomputable def E3:List T→Ou T:=fun _=>.bad
theorem vQ (x0 x1:T):qJ [x0,x1]=bI ⟨false,0,0⟩ (ySs x5 yy ⟨wu,[],0⟩ (aR [x0,x1]) gZ [some x0,some x1] []):=bo rfl
noncomputable def Jm:List (List U→Sto→Rs U):=Hy++[vW]
noncomputable def LN:List Md:=Ln++[DZ]
noncomputable def Lf:List (List T→Ou T):=Kg++[qJ]
noncomputable def MJ:List (List T→Ou T):=Nb++[E3]
noncomputable def Kp:List Str:=JU++[("picked" : Str)]
theorem EE:bL Jm LN Lf MJ:=qH.def ⟨false,0,0⟩ rfl [] gZ 2 2
noncomputable def gY:List S:=[.ret (.comp [none,some 2,some 0] (.nm 0) (.seq (.var 1)) [] (.call 34 [(.ix (.var 2) (.var 0)),(.var 1)]))]
noncomputable def EC:Fn:=tab Jm
noncomputable def yp:List U→Sto→Rs U:=mk EC gY 3 3
noncomputable def qN:FnT:=aJ Lf
noncomputable def xB:FnT:=aJ MJ
noncomputable def yI:Nat→Md:=cf LN
noncomputable def FO:Md:=⟨false,0,0⟩
noncomputable def nL:List T→Ou T:=mkT qN xB yI ⟨false,0,0⟩ [] gY 3 3
noncomputable def EB:List T→Ou T:=fun _=>.bad
theorem yj (x0 x1 x2:T):nL [x0,x1,x2]=bI ⟨false,0,0⟩ (ySs qN xB ⟨yI,[],0⟩ (aR [x0,x1,x2]) gY [some x0,some x1,some x2] []):=bo rfl
noncomputable def Iz:List (List U→Sto→Rs U):=Jm++[yp]
noncomputable def J3:List Md:=LN++[FO]
noncomputable def LV:List (List T→Ou T):=Lf++[nL]
noncomputable def JW:List (List T→Ou T):=MJ++[EB]
noncomputable def K1:List Str:=Kp++[("chosen" : Str)]
theorem FP:bL Iz J3 LV JW:=EE.def ⟨false,0,0⟩ rfl [] gY 3 3
noncomputable def jb:List S:=[.expr (.call 18 [(.var 0)]),.expr (.call 33 [(.var 1),(.var 2),(.bi .len [(.var 0)]),(.bi .len [(.ix (.var 0) (.cI 0))])]),.ret (.call 29 [(.call 35 [(.var 0),(.var 1),(.var 2)])])]
noncomputable def GZ:Fn:=tab Iz
noncomputable def Ao:List U→Sto→Rs U:=mk GZ jb 3 3
noncomputable def kR:FnT:=aJ LV
noncomputable def Bk:FnT:=aJ JW
noncomputable def Ak:Nat→Md:=cf J3
noncomputable def IQ:Md:=⟨false,0,0⟩
noncomputable def p6:List T→Ou T:=mkT kR Bk Ak ⟨false,0,0⟩ [] jb 3 3
noncomputable def He:List T→Ou T:=fun _=>.bad
theorem yX (x0 x1 x2:T):p6 [x0,x1,x2]=bI ⟨false,0,0⟩ (ySs kR Bk ⟨Ak,[],0⟩ (aR [x0,x1,x2]) jb [some x0,some x1,some x2] []):=bo rfl
theorem j2:kR 33=fj:=rfl
theorem iD:kR 29=cq:=rfl
theorem so:kR 35=nL:=rfl
noncomputable def Iu:List (List U→Sto→Rs U):=Iz++[Ao]
noncomputable def Ny:List Md:=J3++[IQ]
noncomputable def Nx:List (List T→Ou T):=LV++[p6]
noncomputable def Lh:List (List T→Ou T):=JW++[He]
noncomputable def NZ:List Str:=K1++[("minor" : Str)]
theorem Ih:bL Iu Ny Nx Lh:=FP.def ⟨false,0,0⟩ rfl [] jb 3 3
noncomputable def n8:List S:=[.for (.nm 1) (.rng (.bi .max [(.cI 1),(.bi .min [(.cI 12),(.bi .len [(.var 0)])])])) [.set (.nm 2) (.call 6 [(.call 9 [(.var 0),(.var 1)]),(.cmp .eq (.var 1) (.cI 0))]),.set (.nm 3) (.comp [none] (.nm 0) (.seq (.var 2)) [] (.bi .list [(.var 0)])),.set (.nm 4) (.call 8 [(.var 2)]),.set (.nm 5) (.bi .lrg [(.bi .len [(.var 2)])]),.ite (.or (.not (.call 11 [(.call 30 [(.var 2)]),(.ix (.var 4) (.cI 0)),(.ix (.var 4) (.cI 1))])) (.cmp .ne (.var 2) (.var 3))) [.ret (.cB false)] [],.ite (.or (.not (.call 11 [(.call 36 [(.var 2),(.var 5),(.var 5)]),(.ix (.var 4) (.cI 0)),(.ix (.var 4) (.cI 1))])) (.cmp .ne (.var 2) (.var 3))) [.ret (.cB false)] [],.ite (.not (.call 11 [(.call 30 [(.var 2)]),(.ix (.var 4) (.cI 0)),(.ix (.var 4) (.cI 1))])) [.ret (.cB false)] []],.ret (.cB true)]
noncomputable def OF:Fn:=tab Iu
noncomputable def xo:List U→Sto→Rs U:=mk OF n8 1 6
noncomputable def kg:FnT:=aJ Nx
noncomputable def An:FnT:=aJ Lh
noncomputable def A3:Nat→Md:=cf Ny
noncomputable def Oi:Md:=⟨false,0,0⟩
noncomputable def Ei:List T→Ou T:=mkT kg An A3 ⟨false,0,0⟩ [] n8 1 6
noncomputable def OZ:List T→Ou T:=fun _=>.bad
theorem Gw (x0:T):Ei [x0]=bI ⟨false,0,0⟩ (ySs kg An ⟨A3,[],0⟩ (aR [x0]) n8 [some x0,none,none,none,none,none] []):=bo rfl
theorem tj:kg 6=kY:=rfl
theorem wq:kg 8=p7:=rfl
theorem uw:kg 9=qI:=rfl
theorem nF:kg 11=fQ:=rfl
theorem mP:kg 30=fS:=rfl
theorem yG:kg 36=p6:=rfl
noncomputable def PM:List (List U→Sto→Rs U):=Iu++[xo]
noncomputable def Pu:List Md:=Ny++[Oi]
noncomputable def Pd:List (List T→Ou T):=Nx++[Ei]
noncomputable def PN:List (List T→Ou T):=Lh++[OZ]
theorem N8:bL PM Pu Pd PN:=Ih.def ⟨false,0,0⟩ rfl [] n8 1 6
end K09
namespace K09
noncomputable def aM (f:Nat→Rat):Nat→Rat
 | 0=>0
 | n + 1=>aM f n + f n
theorem aN {f g:Nat→Rat}:∀ {n:Nat},(∀ k < n,f k=g k)→aM f n=aM g n
 | 0,_=>rfl
 | n + 1,h=>by rw [aM,aM,aN fun k hk=>h k (by omega),h n (by omega)]
theorem ff (c:Rat) (f:Nat→Rat):∀ n:Nat,c * aM f n=aM (fun k=>c * f k) n
 | 0=>Rat.mul_zero c
 | n + 1=>by rw [aM,aM,Rat.mul_add,ff c f n]
theorem xc (c:Rat) (f:Nat→Rat):∀ n:Nat,aM f n * c=aM (fun k=>f k * c) n
 | 0=>Rat.zero_mul c
 | n + 1=>by rw [aM,aM,Rat.add_mul,xc c f n]
theorem mW (f g:Nat→Rat):∀ n:Nat,aM (fun k=>f k + g k) n=aM f n + aM g n
 | 0=>(Rat.add_zero 0).symm
 | n + 1=>by rw [aM,aM,aM,mW f g n]; grind
theorem nX:∀ n:Nat,aM (fun _=>0) n=0
 | 0=>rfl
 | n + 1=>by rw [aM,nX n,Rat.add_zero]
theorem uf (f:Nat→Nat→Rat) (m:Nat):∀ n:Nat,aM (fun k=>aM (fun l=>f k l) m) n=aM (fun l=>aM (fun k=>f k l) n) m
 | 0=>by simp only [aM]; exact (nX m).symm
 | n + 1=>by simp only [aM]; rw [uf f m n,← mW]
noncomputable def dq (i j:Nat):Rat:=if i=j then 1 else 0
theorem yd (A:Nat→Rat) (j:Nat):∀ n:Nat,n≤j→aM (fun k=>A k * dq k j) n=0
 | 0,_=>rfl
 | n + 1,h=>by
   rw [aM,yd A j n (by omega),dq,if_neg (by omega),Rat.mul_zero,Rat.add_zero]
theorem jk (A:Nat→Rat) (j:Nat):∀ n:Nat,j < n→aM (fun k=>A k * dq k j) n=A j
 | n + 1,h=>by
   rw [aM]
   by_cases e:j=n
   · subst e
     rw [yd A j j (Nat.le_refl _),dq,if_pos rfl,Rat.mul_one,Rat.zero_add]
   · rw [jk A j n (by omega),dq,if_neg (by omega),Rat.mul_zero,Rat.add_zero]
end K09
namespace K09
noncomputable def skp (i r:Nat):Nat:=if r < i then r else r + 1
noncomputable def minor (M:Nat→Nat→Rat) (i r c:Nat):Rat:=M (skp i r) (c + 1)
noncomputable def sgn (i:Nat):Rat:=if i % 2=0 then 1 else -1
theorem rQ (i:Nat):sgn (i + 1)=-sgn i:=by
 unfold sgn
 by_cases h:i % 2=0
 · rw [if_pos h,if_neg (by omega)]
 · rw [if_neg h,if_pos (by omega)]
   rfl
noncomputable def det:Nat→(Nat→Nat→Rat)→Rat
 | 0,_=>1
 | n + 1,M=>aM (fun i=>sgn i * M i 0 * det n (minor M i)) (n + 1)
theorem uy {i r n:Nat} (h:r < n):skp i r < n + 1:=by unfold skp; split <;> omega
theorem ME (i r:Nat):skp i r ≠ i:=by unfold skp; split <;> omega
theorem bp:∀ {n:Nat} {M M':Nat→Nat→Rat},(∀ i < n,∀ j < n,M i j=M' i j)→det n M=det n M'
 | 0,_,_,_=>rfl
 | n + 1,M,M',h=>by
   unfold det
   refine aN fun i hi=>?_
   rw [h i hi 0 (by omega),bp (M:=minor M i) (M':=minor M' i) fun r hr c hc=>h _ (uy hr) _ (by omega)]
noncomputable def ai (M:Nat→Nat→Rat) (p:Nat) (v:Nat→Rat) (r c:Nat):Rat:=if r=p then v c else M r c
noncomputable def i8 (M:Nat→Nat→Rat) (q:Nat) (v:Nat→Rat) (r c:Nat):Rat:=if c=q then v r else M r c
noncomputable def un (i p:Nat):Nat:=if p < i then p else p - 1
theorem mK (M:Nat→Nat→Rat) (p:Nat) (v:Nat→Rat):minor (ai M p v) p=minor M p:=by
 funext r c
 unfold minor ai
 rw [if_neg (ME p r)]
theorem kd (M:Nat→Nat→Rat) {i p:Nat} (h:i ≠ p) (v:Nat→Rat):minor (ai M p v) i=ai (minor M i) (un i p) fun c=>v (c + 1):=by
 funext r c
 unfold minor ai
 have:skp i r=p ↔ r=un i p:=by unfold skp un; split <;> split <;> omega
 by_cases q:skp i r=p
 · rw [if_pos q,if_pos (this.mp q)]
 · rw [if_neg q,if_neg fun z=>q (this.mpr z)]
theorem A6:∀ {n:Nat} (M:Nat→Nat→Rat) {p:Nat},p < n→∀ (a b:Rat) (x y:Nat→Rat),det n (ai M p fun c=>a * x c + b * y c)=a * det n (ai M p x) + b * det n (ai M p y)
 | 0,_,_,h,_,_,_,_=>absurd h (Nat.not_lt_zero _)
 | n + 1,M,p,hp,a,b,x,y=>by
   unfold det
   rw [ff,ff,← mW]
   refine aN fun i hi=>?_
   by_cases h:i=p
   · subst h
     rw [mK,mK,mK]
     simp only [ai,if_pos rfl]
     grind
   · rw [kd M h,kd M h,kd M h,A6 (minor M i) (show un i p < n by unfold un; split <;> omega) a b]
     simp only [ai,if_neg h]
     grind
theorem DE {f:Nat→Rat} {p:Nat} (h0:∀ i,i ≠ p→i ≠ p + 1→f i=0) (h:f p + f (p + 1)=0):∀ n,p + 1 < n→aM f n=0:=by
 have z:∀ n,n≤p→aM f n=0:=by
   intro n
   induction n with
   | zero=>intro _; rfl
   | succ n ih=>intro hn; rw [aM,ih (by omega),h0 n (by omega) (by omega),Rat.add_zero]
 intro n
 induction n with
 | zero=>intro hn; omega
 | succ n ih=>
   intro hn
   rw [aM]
   by_cases q:n=p + 1
   · subst q
     rw [aM,z p (Nat.le_refl _),Rat.zero_add]
     exact h
   · rw [ih (by omega),h0 n (by omega) q,Rat.add_zero]
theorem kX {f:Nat→Rat} {n:Nat} (h:∀ i < n,f i=0):aM f n=0:=by
 rw [aN h]; exact nX n
theorem vI:∀ {n:Nat} {M:Nat→Nat→Rat} {p:Nat},p + 1 < n→(∀ c < n,M p c=M (p + 1) c)→det n M=0
 | 0,_,_,h,_=>absurd h (Nat.not_lt_zero _)
 | n + 1,M,p,hp,h=>by
   unfold det
   let f:Nat→Rat:=fun i=>if i < n + 1 then sgn i * M i 0 * det n (minor M i) else 0
   have e:aM (fun i=>sgn i * M i 0 * det n (minor M i)) (n + 1)=aM f (n + 1):=aN fun i hi=>by simp only [f]; rw [if_pos hi]
   rw [e]
   refine DE (p:=p) (fun i h1 h2=>?_) ?_ _ hp
   · simp only [f]
     by_cases hi:i < n + 1
     · rw [if_pos hi]
       have:det n (minor M i)=0:=by
         by_cases q:i < p
         · refine vI (p:=p - 1) (by omega) fun c hc=>?_
           unfold minor skp
           rw [if_neg (by omega),if_neg (by omega),show p - 1 + 1=p by omega]
           exact h (c + 1) (by omega)
         · refine vI (p:=p) (by omega) fun c hc=>?_
           unfold minor skp
           rw [if_pos (by omega),if_pos (by omega)]
           exact h (c + 1) (by omega)
       rw [this,Rat.mul_zero]
     · rw [if_neg hi]
   · simp only [f]
     rw [if_pos (by omega),if_pos hp,rQ,← h 0 (by omega)]
     have:det n (minor M p)=det n (minor M (p + 1)):=bp fun r hr c hc=>by
       unfold minor skp
       by_cases q:r < p
       · rw [if_pos q,if_pos (by omega)]
       · rw [if_neg q]
         by_cases q2:r=p
         · subst q2
           rw [if_pos (by omega)]
           exact (h (c + 1) (by omega)).symm
         · rw [if_neg (by omega)]
     rw [this]
     grind
end K09
namespace K09
structure ML (n:Nat) (f:(Nat→Nat→Rat)→Rat):Prop where
 cong:∀ {M M':Nat→Nat→Rat},(∀ i < n,∀ j < n,M i j=M' i j)→f M=f M'
 lin:∀ (M:Nat→Nat→Rat) {p:Nat},p < n→∀ (a b:Rat) (x y:Nat→Rat),f (ai M p fun c=>a * x c + b * y c)=a * f (ai M p x) + b * f (ai M p y)
 alt:∀ {M:Nat→Nat→Rat} {p:Nat},p + 1 < n→(∀ c < n,M p c=M (p + 1) c)→f M=0
theorem j8 (n:Nat):ML n (det n):=⟨bp,A6,vI⟩
section
variable {n:Nat} {f:(Nat→Nat→Rat)→Rat}
theorem d9 (M:Nat→Nat→Rat) (p:Nat):ai M p (M p)=M:=by
 funext r c
 unfold ai
 split
 · rename_i h; rw [h]
 · rfl
theorem ee {M:Nat→Nat→Rat} {p:Nat} {v:Nat→Rat}:ai M p v p=v:=by funext c; unfold ai; rw [if_pos rfl]
theorem et {M:Nat→Nat→Rat} {p r:Nat} {v:Nat→Rat} (h:r ≠ p):ai M p v r=M r:=by funext c; unfold ai; rw [if_neg h]
theorem cA {M:Nat→Nat→Rat} {p q:Nat} {v u:Nat→Rat} (h:p ≠ q):ai (ai M p v) q u=ai (ai M q u) p v:=by
 funext r c
 unfold ai
 by_cases h1:r=q
 · rw [if_pos h1,if_neg fun z=>h (z.symm.trans h1),if_pos h1]
 · rw [if_neg h1,if_neg h1]
theorem ML.add (h:ML n f) (M:Nat→Nat→Rat) {p:Nat} (hp:p < n) (x y:Nat→Rat):f (ai M p fun c=>x c + y c)=f (ai M p x) + f (ai M p y):=by
 have:=h.lin M hp 1 1 x y
 simp only [Rat.one_mul] at this
 exact this
theorem ML.nb (h:ML n f) (M:Nat→Nat→Rat) {p:Nat} (hp:p + 1 < n) (x y:Nat→Rat):f (ai (ai M p x) (p + 1) y)=-f (ai (ai M p y) (p + 1) x):=by
 have z:∀ u:Nat→Rat,f (ai (ai M p u) (p + 1) u)=0:=fun u=>h.alt hp fun c _=>by rw [ee,et (by omega),ee]
 have e:=z fun c=>x c + y c
 rw [h.add _ hp] at e
 rw [cA (by omega),h.add _ (show p < n by omega),cA (M:=M) (p:=p) (q:=p + 1) (v:=fun c=>x c + y c) (u:=y) (by omega),h.add _ (show p < n by omega)] at e
 rw [cA (M:=M) (p:=p + 1) (q:=p) (v:=x) (u:=x) (by omega),z x,cA (M:=M) (p:=p + 1) (q:=p) (v:=y) (u:=y) (by omega),z y,cA (M:=M) (p:=p + 1) (q:=p) (v:=x) (u:=y) (by omega),cA (M:=M) (p:=p + 1) (q:=p) (v:=y) (u:=x) (by omega)] at e
 grind
theorem ML.two (h:ML n f):∀ (d:Nat) (M:Nat→Nat→Rat) (p:Nat),p + 1 + d < n→M p=M (p + 1 + d)→f M=0
 | 0,M,p,hp,e=>h.alt hp fun c _=>by rw [e]
 | d + 1,M,p,hp,e=>by
   have s:=h.nb M (p:=p + 1 + d) (by omega) (M (p + 1 + d)) (M (p + 1 + d + 1))
   rw [d9,d9] at s
   rw [s,ML.two h d _ p (by omega) (by rw [et (by omega),et (by omega),et (by omega),ee]; exact e)]
   rfl
theorem ML.same (h:ML n f) {M:Nat→Nat→Rat} {p q:Nat} (hp:p < n) (hq:q < n) (hpq:p ≠ q) (e:M p=M q):f M=0:=by
 rcases Nat.lt_or_lt_of_ne hpq with z | z
 · exact h.two (q - p - 1) M p (by omega) (by rw [show p + 1 + (q - p - 1)=q by omega]; exact e)
 · exact h.two (p - q - 1) M q (by omega) (by rw [show q + 1 + (p - q - 1)=p by omega]; exact e.symm)
theorem ML.swap (h:ML n f) {M:Nat→Nat→Rat} {p q:Nat} (hp:p < n) (hq:q < n) (hpq:p ≠ q) (x y:Nat→Rat):f (ai (ai M p x) q y)=-f (ai (ai M p y) q x):=by
 have z:∀ u:Nat→Rat,f (ai (ai M p u) q u)=0:=fun u=>h.same hp hq hpq (by rw [ee,et hpq,ee])
 have e:=z fun c=>x c + y c
 have c1:∀ u v:Nat→Rat,ai (ai M q u) p v=ai (ai M p v) q u:=fun u v=>cA fun z=>hpq z.symm
 rw [h.add _ hq,cA hpq,h.add _ hp,cA (M:=M) (p:=p) (q:=q) (v:=fun c=>x c + y c) (u:=y) hpq,h.add _ hp,c1,c1,c1,c1,z x,z y] at e
 grind
theorem ML.Pa (h:ML n f) (M:Nat→Nat→Rat) {p:Nat} (hp:p < n):f (ai M p fun _=>0)=0:=by
 have:=h.lin M hp 0 0 (fun _=>0) (fun _=>0)
 simp only [Rat.zero_mul,Rat.add_zero] at this
 exact this
theorem ML.sum (h:ML n f) (M:Nat→Nat→Rat) {p:Nat} (hp:p < n) (v:Nat→Rat) (e:Nat→Nat→Rat):∀ m,f (ai M p fun j=>aM (fun c=>v c * e c j) m)=aM (fun c=>v c * f (ai M p (e c))) m
 | 0=>h.Pa M hp
 | m + 1=>by
   have:=h.lin M hp 1 (v m) (fun j=>aM (fun c=>v c * e c j) m) (e m)
   simp only [Rat.one_mul] at this
   rw [aM,← ML.sum h M hp v e m]
   exact this
theorem ML.comb (h:ML n f) (M:Nat→Nat→Rat) {p k:Nat} (hp:p < n) (hk:k≤p) (d:Rat) (β:Nat→Rat):f (ai M p fun j=>d * M p j + aM (fun i=>β i * M i j) k)=d * f M:=by
 have e:=h.lin M hp d 1 (M p) (fun j=>aM (fun i=>β i * M i j) k)
 simp only [Rat.one_mul] at e
 rw [e,d9,h.sum M hp β M k,kX,Rat.add_zero]
 intro i hi
 rw [h.same (p:=i) (q:=p) (by omega) hp (by omega) (by rw [et (by omega),ee]),Rat.mul_zero]
end
noncomputable def idQ (i j:Nat):Rat:=if i=j then 1 else 0
noncomputable def un1 (σ:Nat→Nat) (i j:Nat):Rat:=if σ i=j then 1 else 0
theorem Gv:∀ (m:Nat) (σ:Nat→Nat),(∀ i < m + 1,σ i < m)→∃ i j,i < j∧j < m + 1∧σ i=σ j
 | 0,σ,h=>absurd (h 0 (by decide)) (Nat.not_lt_zero _)
 | m + 1,σ,h=>by
   by_cases q:∃ i,i < m + 1∧σ i=σ (m + 1)
   · obtain ⟨i,hi,e⟩:=q
     exact ⟨i,m + 1,hi,by omega,e⟩
   · have q':∀ i < m + 1,σ i ≠ σ (m + 1):=fun i hi z=>q ⟨i,hi,z⟩
     obtain ⟨i,j,h1,h2,e⟩:=Gv m (fun i=>if σ (m + 1) < σ i then σ i - 1 else σ i) fun i hi=>by
       have a:=h i (by omega)
       have b:=h (m + 1) (by omega)
       have c:=q' i hi
       split <;> omega
     refine ⟨i,j,h1,by omega,?_⟩
     have a:=q' i (by omega)
     have b:=q' j h2
     split at e <;> split at e <;> omega
theorem GX {n k:Nat} {σ:Nat→Nat} (h:∀ i < n,σ i < n) (hk:k < n) (hn:∀ i < n,σ i ≠ k):∃ i j,i < j∧j < n∧σ i=σ j:=by
 obtain ⟨m,rfl⟩:∃ m,n=m + 1:=⟨n - 1,by omega⟩
 obtain ⟨i,j,h1,h2,e⟩:=Gv m (fun i=>if k < σ i then σ i - 1 else σ i) fun i hi=>by
   have a:=h i hi
   have b:=hn i hi
   split <;> omega
 refine ⟨i,j,h1,h2,?_⟩
 have a:=hn i (by omega)
 have b:=hn j h2
 split at e <;> split at e <;> omega
section
variable {n:Nat} {h:(Nat→Nat→Rat)→Rat}
theorem ML.FH (H:ML n h) (h0:h idQ=0):∀ (d k:Nat),k + d=n→∀ σ:Nat→Nat,(∀ i < n,σ i < n)→(∀ i < k,σ i=i)→h (un1 σ)=0
 | 0,k,hk,σ,_,hf=>by
   rw [← h0]
   exact H.cong fun i hi j _=>by unfold un1 idQ; rw [hf i (by omega)]
 | d + 1,k,hk,σ,hs,hf=>by
   by_cases q:∃ j,k≤j∧j < n∧σ j=k
   · obtain ⟨j,h1,h2,h3⟩:=q
     by_cases z:j=k
     · subst z
       exact ML.FH H h0 d (j + 1) (by omega) σ hs fun i hi=>by
         by_cases y:i=j
         · rw [y]; exact h3
         · exact hf i (by omega)
     · have e:un1 σ=ai (ai (un1 σ) k (un1 σ k)) j (un1 σ j):=by rw [d9,d9]
       have e2:ai (ai (un1 σ) k (un1 σ j)) j (un1 σ k)=un1 fun i=>if i=j then σ k else if i=k then σ j else σ i:=by
         funext r c
         have zk:¬ k=j:=fun y=>z y.symm
         by_cases y1:r=j <;> by_cases y2:r=k <;> simp [ai,un1,y1,y2,zk]
       rw [e,H.swap (by omega) h2 (fun y=>z y.symm),e2,ML.FH H h0 d (k + 1) (by omega) _ (fun i hi=>?_) (fun i hi=>?_)]
       · rfl
       · split
         · exact hs k (by omega)
         · split
           · exact hs j h2
           · exact hs i hi
       · rw [if_neg (by omega)]
         by_cases y:i=k
         · rw [if_pos y,h3,y]
         · rw [if_neg y]
           exact hf i (by omega)
   · obtain ⟨i,j,h1,h2,e⟩:=GX hs (show k < n by omega) fun i hi z=>by
       by_cases y:i < k
       · have:=hf i y
         omega
       · exact q ⟨i,by omega,hi,z⟩
     exact H.same (p:=i) (q:=j) (by omega) h2 (by omega) (by funext c; unfold un1; rw [e])
noncomputable def vD (k:Nat) (M:Nat→Nat→Rat) (σ:Nat→Nat) (i j:Nat):Rat:=if i < k then M i j else un1 σ i j
theorem ML.OV (H:ML n h) (h0:h idQ=0) (M:Nat→Nat→Rat):∀ (k:Nat),k≤n→∀ σ:Nat→Nat,(∀ i < n,σ i < n)→h (vD k M σ)=0
 | 0,_,σ,hs=>by
   rw [← ML.FH H h0 n 0 (by omega) σ hs fun i hi=>absurd hi (Nat.not_lt_zero _)]
   exact H.cong fun i _ j _=>by unfold vD; rw [if_neg (Nat.not_lt_zero _)]
 | k + 1,hk,σ,hs=>by
   have e:h (vD (k + 1) M σ)=h (ai (vD k M σ) k fun j=>aM (fun c=>M k c * idQ c j) n):=H.cong fun i hi j hj=>by
     unfold ai vD
     by_cases y:i=k
     · subst y
       rw [if_pos (by omega),if_pos rfl]
       exact (jk (M i) j n hj).symm
     · rw [if_neg y]
       by_cases z:i < k
       · rw [if_pos (by omega),if_pos z]
       · rw [if_neg (by omega),if_neg z]
   rw [e,H.sum _ (by omega),kX]
   intro c hc
   have e2:ai (vD k M σ) k (idQ c)=vD k M fun i=>if i=k then c else σ i:=by
     funext r j
     by_cases y:r=k <;> simp [ai,vD,un1,idQ,y]
   rw [e2,ML.OV H h0 M k (by omega) _ (fun i hi=>?_),Rat.mul_zero]
   split
   · exact hc
   · exact hs i hi
theorem ML.zero (H:ML n h) (h0:h idQ=0) (M:Nat→Nat→Rat):h M=0:=by
 rw [← ML.OV H h0 M n (Nat.le_refl _) (fun i=>i) fun i hi=>hi]
 exact H.cong fun i hi j _=>by unfold vD; rw [if_pos hi]
end
theorem FU:minor idQ 0=idQ:=by
 funext r c
 unfold minor idQ skp
 rw [if_neg (Nat.not_lt_zero _)]
 by_cases h:r=c
 · rw [if_pos (by omega),if_pos h]
 · rw [if_neg (by omega),if_neg h]
theorem zw:∀ n,det n idQ=1
 | 0=>rfl
 | n + 1=>by
   unfold det
   rw [aN (g:=fun i=>det n (minor idQ i) * idQ i 0) fun i hi=>?_]
   · have:=jk (fun i=>det n (minor idQ i)) 0 (n + 1) (by omega)
     have e:(fun i=>det n (minor idQ i) * idQ i 0)=fun k=>(fun i=>det n (minor idQ i)) k * dq k 0:=rfl
     rw [e,this,FU,zw n]
   · by_cases z:i=0
     · subst z
       show 1 * 1 * _=_ * 1
       grind
     · unfold idQ
       rw [if_neg z]
       grind
theorem ML.uniq {n:Nat} {f:(Nat→Nat→Rat)→Rat} (F:ML n f) (M:Nat→Nat→Rat):f M=det n M * f idQ:=by
 have D:=j8 n
 have H:ML n fun M=>f M - det n M * f idQ:=by
   refine ⟨fun {M M'} e=>?_,fun M p hp a b x y=>?_,fun {M p} hp e=>?_⟩
   · rw [F.cong e,D.cong e]
   · rw [F.lin M hp,D.lin M hp]
     grind
   · rw [F.alt hp e,D.alt hp e]
     grind
 have:=H.zero (by rw [zw]; grind) M
 grind
end K09
namespace K09
theorem v8:∀ {n:Nat} (M:Nat→Nat→Rat) {q:Nat},q < n→∀ (a b:Rat) (x y:Nat→Rat),det n (i8 M q fun c=>a * x c + b * y c)=a * det n (i8 M q x) + b * det n (i8 M q y)
 | 0,_,_,h,_,_,_,_=>absurd h (Nat.not_lt_zero _)
 | n + 1,M,q,hq,a,b,x,y=>by
   unfold det
   rw [ff,ff,← mW]
   refine aN fun i hi=>?_
   cases q with
   | zero=>
     have e:∀ v,minor (i8 M 0 v) i=minor M i:=fun v=>by
       funext r c
       unfold minor i8
       rw [if_neg (by omega)]
     rw [e,e,e]
     simp only [i8,if_true]
     grind
   | succ q=>
     have e:∀ v,minor (i8 M (q + 1) v) i=i8 (minor M i) q fun r=>v (skp i r):=fun v=>by
       funext r c
       unfold minor i8
       by_cases z:c=q
       · rw [if_pos (by omega),if_pos z]
       · rw [if_neg (by omega),if_neg z]
     rw [e,e,e,v8 (minor M i) (show q < n by omega) a b]
     have z:¬ (0=q + 1):=by omega
     simp only [i8,if_neg z]
     grind
theorem tU (g:Nat→Rat) (i:Nat):∀ n,i≤n→aM (fun j=>g (skp i j)) n=aM g (n + 1) - g i
 | 0,h=>by
   have:i=0:=by omega
   subst this
   show (0:Rat)=0 + g 0 - g 0
   grind
 | n + 1,h=>by
   by_cases q:i=n + 1
   · subst q
     have e:aM (fun j=>g (skp (n + 1) j)) (n + 1)=aM g (n + 1):=aN fun k hk=>by unfold skp; rw [if_pos hk]
     rw [e,aM.eq_2 g (n + 1)]
     grind
   · rw [aM,tU g i n (by omega),aM.eq_2 g (n + 1)]
     have:skp i n=n + 1:=by unfold skp; rw [if_neg (by omega)]
     rw [this]
     grind
theorem Cj {n:Nat} {G:Nat→Nat→Rat} (h:∀ i < n,∀ j < n,G i j=-G j i):aM (fun i=>aM (fun j=>G i j) n) n=0:=by
 have e:aM (fun i=>aM (fun j=>G i j) n) n=-1 * aM (fun i=>aM (fun j=>G i j) n) n:=by
   conv=>lhs; rw [uf]
   rw [ff]
   refine aN fun i hi=>?_
   rw [ff]
   refine aN fun j hj=>?_
   rw [h j hj i hi]
   grind
 grind
theorem Ju {i j r:Nat} (h:i < j):skp i (skp (j - 1) r)=skp j (skp i r):=by
 unfold skp
 split <;> split <;> (try split) <;> (try split) <;> omega
theorem wO:∀ {n:Nat} {M:Nat→Nat→Rat} {q:Nat},q + 1 < n→(∀ r < n,M r q=M r (q + 1))→det n M=0
 | 0,_,_,h,_=>absurd h (Nat.not_lt_zero _)
 | 1,_,_,h,_=>by omega
 | n + 2,M,q + 1,hq,h=>by
   rw [det]
   refine kX fun i hi=>?_
   rw [wO (M:=minor M i) (q:=q) (by omega) fun r hr=>h _ (uy hr),Rat.mul_zero]
 | n + 2,M,0,hq,h=>by
   let D:Nat→Nat→Rat:=fun i j=>det n fun r c=>M (skp i (skp j r)) (c + 2)
   let G:Nat→Nat→Rat:=fun i j=>if i < j then -(sgn i * sgn j * M i 0 * M j 0 * D i (j - 1)) else if j < i then sgn i * sgn j * M i 0 * M j 0 * D i j else 0
   have inner:∀ i < n + 2,sgn i * M i 0 * det (n + 1) (minor M i)=aM (fun j=>G i j) (n + 2):=fun i hi=>by
     have e:aM (fun j=>G i j) (n + 2)=aM (fun j=>G i (skp i j)) (n + 1):=by
       have g0:G i i=0:=by simp only [G]; rw [if_neg (Nat.lt_irrefl i),if_neg (Nat.lt_irrefl i)]
       rw [tU (fun j=>G i j) i (n + 1) (by omega),g0]
       grind
     rw [e,det,ff]
     refine aN fun j hj=>?_
     have m0:minor M i j 0=M (skp i j) 0:=(h _ (uy hj)).symm
     have mm:det n (minor (minor M i) j)=D i j:=rfl
     rw [m0,mm]
     simp only [G]
     by_cases z:j < i
     · have s:skp i j=j:=by unfold skp; rw [if_pos z]
       rw [s,if_neg (by omega),if_pos z]
       grind
     · have s:skp i j=j + 1:=by unfold skp; rw [if_neg z]
       rw [s,if_pos (by omega),rQ,show j + 1 - 1=j by omega]
       grind
   rw [det,aN inner]
   refine Cj fun i hi j hj=>?_
   have sy:∀ {i j:Nat},i < j→D i (j - 1)=D j i:=fun {i j} z=>by
     simp only [D]
     congr 1
     funext r c
     rw [Ju z]
   simp only [G]
   rcases Nat.lt_trichotomy i j with z | z | z
   · rw [if_pos z,if_neg (by omega),if_pos z,sy z]
     grind
   · subst z
     rw [if_neg (Nat.lt_irrefl _),if_neg (Nat.lt_irrefl _)]
     rfl
   · rw [if_neg (by omega),if_pos z,if_pos z,sy z]
     grind
theorem DO (n:Nat) (M:Nat→Nat→Rat):det n (fun i j=>M j i)=det n M:=by
 have H:ML n fun M=>det n fun i j=>M j i:=by
   refine ⟨fun {M M'} e=>bp fun i hi j hj=>e j hj i hi,fun M p hp a b x y=>?_,fun {M p} hp e=>wO hp fun r hr=>e r hr⟩
   exact v8 (fun i j=>M j i) hp a b x y
 have u:=H.uniq M
 have i1:(det n fun i j=>idQ j i)=1:=by
   rw [← zw n]
   congr 1
   funext i j
   unfold idQ
   by_cases z:i=j
   · rw [if_pos z,if_pos z.symm]
   · rw [if_neg z,if_neg fun y=>z y.symm]
 simp only [i1,Rat.mul_one] at u
 exact u
theorem kZ (m:Nat):∀ (k:Nat) (M:Nat→Nat→Rat),(∀ i,k≤i→i < k + m→∀ j < k,M i j=0)→det (k + m) M=det k M * det m fun i j=>M (k + i) (k + j)
 | 0,M,_=>by
   rw [Nat.zero_add]
   show det m M=1 * _
   rw [Rat.one_mul]
   congr 1
   funext i j
   rw [Nat.zero_add,Nat.zero_add]
 | k + 1,M,h=>by
   have a:k + 1 + m=(k + m) + 1:=by omega
   rw [a,det,det,xc]
   have tail:∀ t,aM (fun i=>sgn i * M i 0 * det (k + m) (minor M i)) (k + 1 + t)=aM (fun i=>sgn i * M i 0 * det (k + m) (minor M i)) (k + 1)∨¬ t≤m:=by
     intro t
     induction t with
     | zero=>exact .inl rfl
     | succ t ih=>
       by_cases q:t + 1≤m
       · rcases ih with ih | ih
         · refine .inl ?_
           rw [show k + 1 + (t + 1)=(k + 1 + t) + 1 by omega,aM,ih,h (k + 1 + t) (by omega) (by omega) 0 (by omega)]
           grind
         · omega
       · exact .inr q
   rcases tail m with e | e
   · rw [show k + m + 1=k + 1 + m by omega,e]
     refine aN fun i hi=>?_
     rw [kZ m k (minor M i) fun r h1 h2 c hc=>?_]
     · have:(fun r c=>minor M i (k + r) (k + c))=fun r c=>M (k + 1 + r) (k + 1 + c):=by
         funext r c
         unfold minor skp
         rw [if_neg (by omega),show k + r + 1=k + 1 + r by omega,show k + c + 1=k + 1 + c by omega]
       rw [this]
       grind
     · unfold minor skp
       rw [if_neg (by omega)]
       exact h _ (by omega) (by omega) _ (by omega)
   · exact absurd (Nat.le_refl m) e
theorem qz {n k:Nat} (d:Rat) (β:Nat→Nat→Rat) (M:Nat→Nat→Rat):∀ t,k + t≤n→det n (fun i j=>if k≤i∧i < k + t then d * M i j + aM (fun a=>β i a * M a j) k else M i j)=d ^ t * det n M
 | 0,_=>by
   rw [Rat.pow_zero,Rat.one_mul]
   congr 1
   funext i j
   have n0:¬ (k≤i∧i < k + 0):=by omega
   rw [if_neg n0]
 | t + 1,h=>by
   have ih:=qz (n:=n) (k:=k) d β M t (by omega)
   have c:=(j8 n).comb (fun i j=>if k≤i∧i < k + t then d * M i j + aM (fun a=>β i a * M a j) k else M i j) (p:=k + t) (k:=k) (by omega) (by omega) d (β (k + t))
   rw [ih] at c
   rw [Rat.pow_succ,Rat.mul_comm (d ^ t) d,Rat.mul_assoc,← c]
   congr 1
   funext i j
   unfold ai
   by_cases q:i=k + t
   · subst q
     have n1:¬ (k≤k + t∧k + t < k + t):=by omega
     have p1:k≤k + t∧k + t < k + (t + 1):=by omega
     rw [if_pos p1,if_pos rfl]
     dsimp only
     rw [if_neg n1]
     congr 1
     exact aN fun a ha=>by
       have na:¬ (k≤a∧a < k + t):=by omega
       rw [if_neg na]
   · rw [if_neg q]
     dsimp only
     by_cases z:k≤i∧i < k + t
     · rw [if_pos (by omega),if_pos z]
     · rw [if_neg (by omega),if_neg z]
end K09
namespace K09
theorem D9 {d:Rat} (h:d ≠ 0):∀ t:Nat,d ^ t ≠ 0
 | 0=>by rw [Rat.pow_zero]; exact fun z=>by cases z
 | t + 1=>by
   rw [Rat.pow_succ]
   intro z
   rcases Rat.mul_eq_zero.mp z with y | y
   · exact D9 h t y
   · exact h y
noncomputable def bm (Y:Nat→Nat→Rat) (k p q:Nat):Rat:=det (k + 1) fun r c=>Y (if r < k then r else p) (if c < k then c else q)
noncomputable def bc (Y:Nat→Nat→Rat) (k p i:Nat):Rat:=det (k + 1) (ai (fun r c=>Y (if c < k then c else p) r) k (idQ i))
theorem pY (M:Nat→Nat→Rat):det 1 M=M 0 0:=by
 show 0 + 1 * M 0 0 * 1=M 0 0
 grind
theorem IA (M:Nat→Nat→Rat):det 2 M=M 0 0 * M 1 1 - M 0 1 * M 1 0:=by
 show 0 + 1 * M 0 0 * det 1 (minor M 0) + -1 * M 1 0 * det 1 (minor M 1)=_
 rw [pY,pY]
 show 0 + 1 * M 0 0 * M 1 1 + -1 * M 1 0 * M 0 1=_
 grind
section
variable {Y:Nat→Nat→Rat} {k p q:Nat}
theorem Dm:bm Y k p q=det k Y * Y p q + aM (fun i=>bc Y k p i * Y i q) k:=by
 have e:bm Y k p q=det (k + 1) (ai (fun r c=>Y (if c < k then c else p) r) k fun r=>aM (fun c=>Y (if c < k then c else p) q * idQ c r) (k + 1)):=by
   unfold bm
   rw [← DO]
   refine bp fun i hi j hj=>?_
   unfold ai
   by_cases z:i=k
   · subst z
     rw [if_pos rfl,if_neg (Nat.lt_irrefl _)]
     exact (jk (fun c=>Y (if c < i then c else p) q) j (i + 1) hj).symm
   · rw [if_neg z,if_pos (show i < k by omega)]
 have last:det (k + 1) (ai (fun r c=>Y (if c < k then c else p) r) k (idQ k))=det k Y:=by
   rw [kZ 1 k _ fun i h1 h2 j hj=>?_,pY]
   · have e1:ai (fun r c=>Y (if c < k then c else p) r) k (idQ k) (k + 0) (k + 0)=1:=by
       unfold ai idQ
       rw [if_pos (Nat.add_zero k),if_pos (Nat.add_zero k).symm]
     rw [e1,Rat.mul_one,← DO]
     refine bp fun i hi j hj=>?_
     unfold ai
     rw [if_neg (by omega)]
     dsimp only
     rw [if_pos hi]
   · have:i=k:=by omega
     subst this
     unfold ai idQ
     rw [if_pos rfl,if_neg (by omega)]
 rw [e,(j8 (k + 1)).sum _ (Nat.lt_succ_self k),aM,last,if_neg (Nat.lt_irrefl _),Rat.add_comm,Rat.mul_comm (Y p q)]
 congr 1
 exact aN fun i hi=>by rw [if_pos hi,Rat.mul_comm]; rfl
theorem A0 (h:q < k):bm Y k p q=0:=by
 unfold bm
 rw [← DO]
 refine (j8 (k + 1)).same (p:=q) (q:=k) (by omega) (by omega) (by omega) ?_
 funext r
 rw [if_pos h,if_neg (Nat.lt_irrefl _)]
theorem HD:bm Y k k k=det (k + 1) Y:=by
 refine bp fun i hi j hj=>?_
 have:∀ r,r < k + 1→(if r < k then r else k)=r:=fun r hr=>by split <;> omega
 rw [this i hi,this j hj]
theorem GU {i j:Nat} (h0:det k Y ≠ 0):det k Y * bm Y (k + 1) i j=bm Y k k k * bm Y k i j - bm Y k k j * bm Y k i k:=by
 let W:Nat→Nat→Rat:=fun r c=>Y (if r < k + 1 then r else i) (if c < k + 1 then c else j)
 have e:=qz (n:=k + 2) (k:=k) (det k Y) (fun r a=>bc Y k (if r < k + 1 then r else i) a) W 2 (Nat.le_refl _)
 have ent:∀ r c,(if k≤r∧r < k + 2 then det k Y * W r c + aM (fun a=>bc Y k (if r < k + 1 then r else i) a * W a c) k else W r c)=if k≤r∧r < k + 2 then bm Y k (if r < k + 1 then r else i) (if c < k + 1 then c else j) else W r c:=fun r c=>by
   by_cases z:k≤r∧r < k + 2
   · rw [if_pos z,if_pos z,Dm]
     congr 1
     exact aN fun a ha=>by simp only [W]; rw [if_pos (show a < k + 1 by omega)]
   · rw [if_neg z,if_neg z]
 simp only [ent] at e
 rw [kZ 2 k _ fun r h1 h2 c hc=>?_,IA] at e
 · have a0:k≤k + 0∧k + 0 < k + 2:=by omega
   have a1:k≤k + 1∧k + 1 < k + 2:=by omega
   have b0:k + 0 < k + 1:=by omega
   have b1:¬ k + 1 < k + 1:=by omega
   rw [if_pos a0,if_pos a1,if_pos a0,if_pos a1,if_pos b0,if_neg b1,if_pos b0,if_neg b1,Nat.add_zero] at e
   have dk:(det k fun r c=>if k≤r∧r < k + 2 then bm Y k (if r < k + 1 then r else i) (if c < k + 1 then c else j) else W r c)=det k Y:=bp fun r hr c hc=>by
     rw [if_neg (by omega)]
     simp only [W]
     rw [if_pos (by omega),if_pos (by omega)]
   rw [dk] at e
   have dw:det (k + 2) W=bm Y (k + 1) i j:=rfl
   rw [dw] at e
   have c:=Rat.inv_mul_cancel (det k Y) h0
   have p2:det k Y ^ 2=det k Y * det k Y:=by rw [Rat.pow_succ,Rat.pow_succ,Rat.pow_zero,Rat.one_mul]
   rw [p2] at e
   have e2:(det k Y)⁻¹ * (det k Y * det k Y * bm Y (k + 1) i j)=(det k Y)⁻¹ * (det k Y * (bm Y k k k * bm Y k i j - bm Y k k j * bm Y k i k)):=congrArg _ e.symm
   rw [Rat.mul_assoc,← Rat.mul_assoc,c,Rat.one_mul,← Rat.mul_assoc,c,Rat.one_mul] at e2
   exact e2
 · rw [if_pos ⟨h1,h2⟩,if_pos (show c < k + 1 by omega)]
   exact A0 hc
theorem Hm {n:Nat} (h0:det k Y ≠ 0) (hk:k < n) (h:∀ p,k≤p→p < n→bm Y k p k=0):det n Y=0:=by
 have e:=qz (n:=n) (k:=k) (det k Y) (fun r a=>bc Y k r a) Y (n - k) (by omega)
 have ent:∀ r c,(if k≤r∧r < k + (n - k) then det k Y * Y r c + aM (fun a=>bc Y k r a * Y a c) k else Y r c)=if k≤r∧r < k + (n - k) then bm Y k r c else Y r c:=fun r c=>by
   by_cases z:k≤r∧r < k + (n - k)
   · rw [if_pos z,if_pos z,Dm]
   · rw [if_neg z,if_neg z]
 simp only [ent] at e
 have z:(det n fun r c=>if k≤r∧r < k + (n - k) then bm Y k r c else Y r c)=0:=by
   obtain ⟨m,hm⟩:∃ m,n=k + (m + 1):=⟨n - k - 1,by omega⟩
   subst hm
   rw [kZ (m + 1) k _ fun r h1 h2 c hc=>?_]
   · have:det (m + 1) (fun i j=>if k≤k + i∧k + i < k + (k + (m + 1) - k) then bm Y k (k + i) (k + j) else Y (k + i) (k + j))=0:=by
       rw [det]
       refine kX fun i hi=>?_
       rw [if_pos (by omega),Nat.add_zero,h (k + i) (by omega) (by omega)]
       grind
     rw [this,Rat.mul_zero]
   · rw [if_pos (by omega)]
     exact A0 hc
 rw [z] at e
 rcases Rat.mul_eq_zero.mp e.symm with y | y
 · exact absurd y (D9 h0 _)
 · exact y
noncomputable def rho (k m r:Nat):Nat:=if r < k then r else if r=k then k + m else if r≤k + m then r - 1 else r
theorem Bh {n:Nat}:∀ (m:Nat) (Y:Nat→Nat→Rat),k + m < n→(det n fun r=>Y (rho k m r))=sgn m * det n Y
 | 0,Y,_=>by
   have:(fun r=>Y (rho k 0 r))=Y:=by
     funext r
     congr 1
     unfold rho
     split
     · rfl
     · split
       · omega
       · split <;> omega
   rw [this]
   show _=1 * _
   rw [Rat.one_mul]
 | m + 1,Y,h=>by
   have ih:=Bh (n:=n) m (ai (ai Y (k + m) (Y (k + m + 1))) (k + m + 1) (Y (k + m))) (by omega)
   have s:=(j8 n).nb Y (p:=k + m) (by omega) (Y (k + m + 1)) (Y (k + m))
   rw [d9,d9] at s
   rw [s] at ih
   rw [rQ]
   have e:(fun r=>ai (ai Y (k + m) (Y (k + m + 1))) (k + m + 1) (Y (k + m)) (rho k m r))=fun r=>Y (rho k (m + 1) r):=by
     funext r
     by_cases z:rho k m r=k + m + 1
     · rw [z,ee]
       congr 1
       unfold rho at z ⊢
       split at z
       · omega
       · split at z
         · omega
         · split at z
           · omega
           · rename_i a b c
             rw [if_neg a,if_neg b,if_pos (by omega)]
             omega
     · rw [et z]
       by_cases y:rho k m r=k + m
       · rw [y,ee]
         congr 1
         unfold rho at y z ⊢
         split at y
         · omega
         · split at y
           · rename_i a b
             rw [if_neg a,if_pos b]
             omega
           · split at y
             · omega
             · omega
       · rw [et y]
         congr 1
         unfold rho at y z ⊢
         split at y
         · rename_i a
           rw [if_pos a,if_pos a]
         · rename_i a
           rw [if_neg a] at z
           split at y
           · omega
           · rename_i b
             rw [if_neg b] at z
             rw [if_neg a,if_neg b,if_neg a,if_neg b]
             split at y
             · rename_i c
               rw [if_pos c,if_pos (by omega)]
             · rename_i c
               rw [if_neg c] at z
               rw [if_neg c,if_neg (by omega)]
   rw [e] at ih
   rw [ih]
   grind
theorem Kl {m:Nat}:bm (fun r=>Y (rho k m r)) k p q=bm Y k (rho k m p) q:=by
 refine bp fun r hr c hc=>?_
 dsimp only
 congr 1
 by_cases z:r < k
 · rw [if_pos z,if_pos z]
   unfold rho
   rw [if_pos z]
 · rw [if_neg z,if_neg z]
theorem CP {m:Nat}:(det k fun r=>Y (rho k m r))=det k Y:=bp fun r hr c hc=>by
 unfold rho
 rw [if_pos hr]
end
end K09
namespace K09
structure Sz (a b:Nat) (x:Rat):Prop where
 num:x.num.natAbs≤2 ^ a
 den:x.den≤2 ^ b
theorem Sz.mono {a b a' b':Nat} {x:Rat} (h:Sz a b x) (ha:a≤a') (hb:b≤b'):Sz a' b' x:=
 ⟨Nat.le_trans h.num (Nat.pow_le_pow_right (by decide) ha),Nat.le_trans h.den (Nat.pow_le_pow_right (by decide) hb)⟩
theorem Ar (x:Rat):x * (((x.den:Nat):Int):Rat)=(x.num:Rat):=by
 have h:mkRat x.num x.den=x:=by rw [← Rat.normalize_eq_mkRat x.den_nz]; exact Rat.normalize_self x
 rw [Rat.mkRat_eq_div] at h
 have hd:((x.den:Nat):Rat) ≠ 0:=fun z=>x.den_nz (Rat.natCast_eq_zero_iff.mp z)
 rw [Rat.intCast_natCast]
 conv=>lhs; lhs; rw [← h]
 exact Rat.div_mul_cancel hd
theorem y4 {t b:Int} {x:Rat} (hb:0 < b) (h:(t:Rat)=x * (b:Rat)):x.num=t / (Int.gcd t b:Int)∧((x.den:Nat):Int)=b / (Int.gcd t b:Int):=by
 have hb0:((b.toNat:Nat):Rat) ≠ 0:=fun z=>by have:=Rat.natCast_eq_zero_iff.mp z; omega
 have hbb:((b:Int):Rat)=((b.toNat:Nat):Rat):=by rw [← Rat.intCast_natCast,Int.toNat_of_nonneg (by omega)]
 have e:x=mkRat t b.toNat:=by
   rw [Rat.mkRat_eq_div,h,hbb,Rat.mul_div_cancel hb0]
 have g:b.toNat.gcd t.natAbs=Int.gcd t b:=by
   rw [Int.gcd,Nat.gcd_comm,show b.natAbs=b.toNat by omega]
 have nz:¬ b.toNat=0:=by omega
 constructor
 · rw [e,Rat.num_mkRat,if_neg nz,g]
 · rw [e,Rat.den_mkRat,if_neg nz,g,Int.natCast_ediv,Int.toNat_of_nonneg (by omega)]
end K09
namespace K09
noncomputable def ZB (b:Nat) (x:Rat):Prop:=∃ z:Int,x=(z:Rat)∧z.natAbs≤2 ^ b
theorem ZB.mono {b c:Nat} {x:Rat} (h:ZB b x) (hc:b≤c):ZB c x:=by
 obtain ⟨z,e,l⟩:=h
 exact ⟨z,e,Nat.le_trans l (Nat.pow_le_pow_right (by decide) hc)⟩
theorem ZB.mul {b c:Nat} {x y:Rat} (h:ZB b x) (g:ZB c y):ZB (b + c) (x * y):=by
 obtain ⟨u,rfl,l⟩:=h
 obtain ⟨v,rfl,k⟩:=g
 exact ⟨u * v,(Rat.intCast_mul u v).symm,by rw [Int.natAbs_mul,Nat.pow_add]; exact Nat.mul_le_mul l k⟩
theorem ZB.sgn (i:Nat):ZB 0 (sgn i):=by
 unfold K09.sgn
 split
 · exact ⟨1,rfl,by decide⟩
 · exact ⟨-1,rfl,by decide⟩
theorem ZB.sum {b:Nat} {f:Nat→Rat}:∀ {n:Nat},(∀ i < n,ZB b (f i))→∃ z:Int,aM f n=(z:Rat)∧z.natAbs≤n * 2 ^ b
 | 0,_=>⟨0,rfl,Nat.zero_le _⟩
 | n + 1,h=>by
   obtain ⟨u,e,l⟩:=ZB.sum fun i hi=>h i (Nat.lt_succ_of_lt hi)
   obtain ⟨v,e',l'⟩:=h n (Nat.lt_succ_self n)
   refine ⟨u + v,by rw [aM,e,e',Rat.intCast_add],?_⟩
   rw [Nat.succ_mul]
   exact Nat.le_trans (Int.natAbs_add_le _ _) (Nat.add_le_add l l')
theorem E4 {b:Nat}:∀ {n:Nat} {M:Nat→Nat→Rat},n≤8→(∀ i < n,∀ j < n,ZB b (M i j))→ZB (n * (b + 3)) (det n M)
 | 0,_,_,_=>⟨1,rfl,Nat.one_le_two_pow⟩
 | n + 1,M,hn,h=>by
   obtain ⟨z,e,l⟩:=ZB.sum (b:=b + n * (b + 3)) (f:=fun i=>sgn i * M i 0 * det n (minor M i)) (n:=n + 1) fun i hi=>by
     have:=((ZB.sgn i).mul (h i hi 0 (by omega))).mul (E4 (n:=n) (M:=minor M i) (by omega) fun r hr c hc=>h _ (uy hr) _ (by omega))
     exact this.mono (by omega)
   refine ⟨z,e,Nat.le_trans l ?_⟩
   rw [show (n + 1) * (b + 3)=3 + (b + n * (b + 3)) by rw [Nat.succ_mul]; omega,Nat.pow_add 2 3]
   exact Nat.mul_le_mul_right _ (by omega)
noncomputable def qh (s:Nat→Rat):Nat→Rat
 | 0=>1
 | n + 1=>qh s n * s n
theorem kN {n:Nat} (s:Nat→Rat) (M:Nat→Nat→Rat):∀ t,t≤n→det n (fun i j=>if i < t then s i * M i j else M i j)=qh s t * det n M
 | 0,_=>by
   rw [qh,Rat.one_mul]
   exact bp fun i _ j _=>if_neg (Nat.not_lt_zero _)
 | t + 1,h=>by
   have ih:=kN (n:=n) s M t (by omega)
   have c:=(j8 n).comb (fun i j=>if i < t then s i * M i j else M i j) (p:=t) (k:=0) (by omega) (Nat.zero_le _) (s t) (fun _=>0)
   rw [ih] at c
   rw [qh,Rat.mul_comm (qh s t),Rat.mul_assoc,← c]
   refine bp fun i _ j _=>?_
   unfold ai
   by_cases q:i=t
   · subst q
     rw [if_pos (Nat.lt_succ_self i),if_pos rfl]
     dsimp only
     rw [if_neg (Nat.lt_irrefl i)]
     show _=_ + 0
     rw [Rat.add_zero]
   · rw [if_neg q]
     dsimp only
     by_cases z:i < t
     · rw [if_pos (by omega),if_pos z]
     · rw [if_neg (by omega),if_neg z]
theorem ZB.num {b:Nat} {x:Rat} (h:ZB b x):x=(x.num:Rat)∧x.num.natAbs≤2 ^ b:=by
 obtain ⟨z,rfl,l⟩:=h
 rw [Rat.num_intCast]
 exact ⟨rfl,l⟩
end K09
namespace K09
noncomputable def lsum {α:Type} (f:α→Rat):List α→Rat
 | []=>0
 | x :: xs=>f x + lsum f xs
theorem si {α:Type} (f:α→Rat):∀ xs ys:List α,lsum f (xs++ys)=lsum f xs + lsum f ys
 | [],ys=>by rw [List.nil_append,lsum,Rat.zero_add]
 | x :: xs,ys=>by rw [List.cons_append,lsum,lsum,si f xs ys,Rat.add_assoc]
theorem jv {α:Type} {f g:α→Rat}:∀ {xs:List α},(∀ x ∈ xs,f x=g x)→lsum f xs=lsum g xs
 | [],_=>rfl
 | x :: xs,h=>by rw [lsum,lsum,h x (List.mem_cons_self ..),jv fun y hy=>h y (List.mem_cons_of_mem _ hy)]
theorem yh {α β:Type} (f:β→Rat) (g:α→β):∀ xs:List α,lsum f (xs.map g)=lsum (fun a=>f (g a)) xs
 | []=>rfl
 | x :: xs=>by rw [List.map_cons,lsum,lsum,yh f g xs]
theorem uu {α β:Type} (f:β→Rat) (g:α→List β):∀ xs:List α,lsum f (xs.flatMap g)=lsum (fun a=>lsum f (g a)) xs
 | []=>rfl
 | x :: xs=>by rw [List.flatMap_cons,si,lsum,uu f g xs]
theorem pC {α:Type} {f:α→Rat} {p:α→Bool}:∀ {xs:List α},(∀ x ∈ xs,p x=false→f x=0)→lsum f (xs.filter p)=lsum f xs
 | [],_=>rfl
 | x :: xs,h=>by
   have ih:=pC (f:=f) (p:=p) (xs:=xs) fun y hy=>h y (List.mem_cons_of_mem _ hy)
   cases e:p x with
   | true=>rw [List.filter_cons_of_pos e,lsum,lsum,ih]
   | false=>rw [List.filter_cons_of_neg (by rw [e]; decide),lsum,ih,h x (List.mem_cons_self ..) e,Rat.zero_add]
theorem qS (f:Nat→Rat):∀ n,lsum f (List.range n)=aM f n
 | 0=>rfl
 | n + 1=>by rw [List.range_succ,si,qS f n,aM,lsum,lsum,Rat.add_zero]
noncomputable def more (n:Nat) (o:List Nat):List (List Nat):=((List.range n).filter fun j=>!o.contains j).map fun j=>o++[j]
noncomputable def fE (n:Nat):Nat→List (List Nat)
 | 0=>[[]]
 | k + 1=>(fE n k).flatMap (more n)
theorem ic {n:Nat}:∀ {k:Nat} {o:List Nat},o ∈ fE n k→o.length=k∧∀ c ∈ o,c < n
 | 0,o,h=>by
   have:=List.mem_singleton.mp h
   subst this
   exact ⟨rfl,fun c hc=>nomatch hc⟩
 | k + 1,o,h=>by
   obtain ⟨o',h1,h2⟩:=List.mem_flatMap.mp h
   obtain ⟨j,h3,rfl⟩:=List.mem_map.mp h2
   obtain ⟨l,b⟩:=ic h1
   refine ⟨by rw [List.length_append,l]; rfl,fun c hc=>?_⟩
   rcases List.mem_append.mp hc with hc | hc
   · exact b c hc
   · rw [List.mem_singleton.mp hc]
     exact List.mem_range.mp (List.mem_filter.mp h3).1
noncomputable def prL (M:Nat→Nat→Rat) (o:List Nat):Nat→Rat
 | 0=>1
 | k + 1=>prL M o k * M k (o.getD k 0)
theorem Bu (M:Nat→Nat→Rat) (o o':List Nat):∀ k,k≤o.length→prL M (o++o') k=prL M o k
 | 0,_=>rfl
 | k + 1,h=>by
   rw [prL,prL,Bu M o o' k (by omega)]
   congr 2
   rw [List.getD_eq_getElem?_getD,List.getD_eq_getElem?_getD,List.getElem?_append_left (by omega)]
noncomputable def mx (o:List Nat) (M:Nat→Nat→Rat) (i j:Nat):Rat:=if i < o.length then idQ (o.getD i 0) j else M i j
theorem A7 {o:List Nat} {M:Nat→Nat→Rat} {c:Nat}:mx (o++[c]) M=ai (mx o M) o.length (idQ c):=by
 funext i j
 unfold mx ai
 rw [List.length_append,List.length_singleton]
 by_cases h:i=o.length
 · subst h
   rw [if_pos (by omega),if_pos rfl,List.getD_eq_getElem?_getD,List.getElem?_append_right (Nat.le_refl _),Nat.sub_self]
   rfl
 · rw [if_neg h]
   dsimp only
   by_cases g:i < o.length
   · rw [if_pos (by omega),if_pos g,List.getD_eq_getElem?_getD,List.getD_eq_getElem?_getD,List.getElem?_append_left g]
   · rw [if_neg (by omega),if_neg g]
theorem E7 {n:Nat} (M:Nat→Nat→Rat):∀ k,k≤n→det n M=lsum (fun o=>prL M o k * det n (mx o M)) (fE n k)
 | 0,_=>by
   rw [fE,lsum,lsum,prL,Rat.one_mul,Rat.add_zero]
   exact bp fun i _ j _=>by unfold mx; rw [if_neg (by simp)]
 | k + 1,h=>by
   rw [E7 M k (by omega),fE,uu]
   refine jv fun o ho=>?_
   obtain ⟨hl,hb⟩:=ic ho
   have row:det n (mx o M)=aM (fun c=>M k c * det n (mx (o++[c]) M)) n:=by
     have s:=(j8 n).sum (mx o M) (p:=k) (by omega) (M k) idQ n
     have e1:det n (ai (mx o M) k fun j=>aM (fun c=>M k c * idQ c j) n)=det n (mx o M):=bp fun i hi j hj=>by
       unfold ai
       split
       · rename_i z
         subst z
         dsimp only
         rw [show (fun c=>M i c * idQ c j)=fun c=>M i c * dq c j from rfl,jk _ _ _ hj]
         unfold mx
         rw [if_neg (by omega)]
       · rfl
     rw [← e1,s]
     refine aN fun c _=>?_
     rw [A7,hl]
   unfold more
   rw [yh,pC (f:=fun c=>prL M (o++[c]) (k + 1) * det n (mx (o++[c]) M)) fun c hc hn=>?_,qS,row,ff]
   · refine aN fun c _=>?_
     rw [prL,Bu M o [c] k (by omega),List.getD_eq_getElem?_getD,List.getElem?_append_right (by omega),hl,Nat.sub_self]
     show prL M o k * (M k c * _)=prL M o k * M k c * _
     rw [Rat.mul_assoc]
   · have hm:c ∈ o:=by simpa using hn
     obtain ⟨i,hi,rfl⟩:=List.getElem_of_mem hm
     have:det n (mx (o++[o[i]]) M)=0:=by
       rw [A7]
       refine (j8 n).same (p:=i) (q:=o.length) (by omega) (by omega) (by omega) ?_
       rw [ee,et (by omega)]
       funext j
       unfold mx
       rw [if_pos hi,List.getD_eq_getElem?_getD,List.getElem?_eq_getElem hi]
       rfl
     rw [this,Rat.mul_zero]
noncomputable def Hn (f:Nat→Int):Nat→Int
 | 0=>0
 | n + 1=>Hn f n + f n
noncomputable def Ik:Nat→(Nat→Nat→Int)→Int
 | 0,_=>1
 | n + 1,M=>Hn (fun i=>(if i % 2=0 then 1 else -1) * M i 0 * Ik n fun r c=>M (skp i r) (c + 1)) (n + 1)
theorem Dy (f:Nat→Int):∀ n,(Hn f n:Rat)=aM (fun i=>(f i:Rat)) n
 | 0=>rfl
 | n + 1=>by rw [Hn,aM,Rat.intCast_add,Dy f n]
theorem Di:∀ (n:Nat) (M:Nat→Nat→Int),(Ik n M:Rat)=det n fun i j=>(M i j:Rat)
 | 0,_=>rfl
 | n + 1,M=>by
   rw [Ik,det,Dy]
   refine aN fun i _=>?_
   rw [Rat.intCast_mul,Rat.intCast_mul,Di n]
   congr 2
   unfold sgn
   split <;> rfl
noncomputable def fl (o:List Nat) (i:Nat):Nat→Int
 | 0=>1
 | j + 1=>if o.getD i 0 < o.getD j 0 then -fl o i j else fl o i j
noncomputable def sg (o:List Nat):Nat→Int
 | 0=>1
 | i + 1=>sg o i * fl o i i
theorem LH:∀ n,n≤5→∀ o ∈ fE n n,Ik n (fun i j=>if o.getD i 0=j then 1 else 0)=sg o n:=by decide +kernel
theorem PQ {n:Nat} (hn:n≤5) (M:Nat→Nat→Rat):det n M=lsum (fun o=>(sg o n:Rat) * prL M o n) (fE n n):=by
 rw [E7 M n (Nat.le_refl _)]
 refine jv fun o ho=>?_
 rw [← LH n hn o ho,Di,Rat.mul_comm]
 congr 1
 refine bp fun i hi j _=>?_
 unfold mx idQ
 rw [if_pos (by rw [(ic ho).1]; exact hi)]
 split <;> rfl
end K09
namespace K09
open PySem PySem.Spec L2 Sv
open Ev (D aL aT ag)
theorem OC {Ψ:FnT} {i:Nat} (e:Ψ i=ki):AI Ψ i:=fun a b=>by rw [e]; exact sm _ _ _ _ a b
theorem LS {Ψ:FnT} {i:Nat} (e:Ψ i=i9):AI Ψ i:=fun a b=>by rw [e]; exact B1 _ _ _ _ a b
theorem FV {Ψ:FnT} {i:Nat} (e:Ψ i=ph):FJ Ψ i:=fun c bs hb hl=>by rw [e]; exact za _ _ _ c bs hb hl
theorem OB {Ψ:FnT} {i:Nat} (e:Ψ i=mH):KS Ψ i:=fun d h=>by rw [e]; exact qW d h
theorem Pg {Ψ:FnT} {i:Nat} (e:Ψ i=lM):NW Ψ i:=fun d h=>by rw [e]; exact Gj (Ψ:=lZ) (wh:=13) (cd:=14) (OB rfl) (LS rfl) d h
theorem NS {Ψ:FnT} {i:Nat} (e:Ψ i=jS):LQ Ψ i:=fun d h=>by rw [e]; exact Cq d h
theorem Pr {Ψ:FnT} {i:Nat} (e:Ψ i=xA):N2 Ψ i:=fun d h=>by rw [e]; exact ND (sl:=12) (fr:=15) (NS rfl) (Pg rfl) d h
theorem Om (d:T) (h:nx d=true):qU [d]=.ok (.bl (zW d)):=BC (sl:=12) (rw':=16) (NS rfl) (Pr rfl) d h
theorem HN (ns:List Int) (k:Nat):∃ c:Int,qI [inT ns,.int (k:Nat)]=.ok (.int c):=Jc _ _ _ _ ns k
theorem HZ (c u:Int) (h0:0 < u) (h1:u.natAbs < 10 ^ 200):∃ r:Int,qA [.int c,.int u]=.ok (.int r):=IT _ _ _ _ c u h0 h1
theorem D5 (i:Int):tR [.int i]=.ok (.bl true):=qW _ rfl
theorem Jz (a b:Int):ki [.int a,.int b]=.ok (.int (Int.gcd a b:Nat)):=sm _ _ _ _ a b
theorem Ol:(2:Nat) ^ 8900 < big:=by decide +kernel
theorem dv {n b:Nat} (h:n≤2 ^ b) (hb:b≤8900):n < big:=Nat.lt_of_le_of_lt h (Nat.lt_of_le_of_lt (Nat.pow_le_pow_right (by decide) hb) Ol)
theorem lg {n b:Nat} (h:n≤2 ^ b) (hb:b≤900000):n.log2 < 1000000:=by
 by_cases e:n=0
 · subst e; rw [Nat.log2_zero]; decide
 · rw [Nat.log2_lt e]
   exact Nat.lt_of_le_of_lt h (Nat.pow_lt_pow_right (by decide) (by omega))
theorem mo {i j:Int} {a b:Nat} (h:i.natAbs≤2 ^ a) (g:j.natAbs≤2 ^ b) (ha:a≤900000) (hb:b≤900000):z2 .mul (.int i) (.int j)=.ok (.int (i * j)):=e6 (.inr (.inr ⟨lg h ha,lg g hb⟩))
theorem IW {t b:Int} (hb:b ≠ 0) (h:b.natAbs < big):Int.gcd t b < big:=Nat.lt_of_le_of_lt (EH t b hb) h
theorem fdv {t b i:Int} (hb:b ≠ 0) (h:b.natAbs < big):z2 .fdiv (.int i) (.int (Int.gcd t b:Nat))=.ok (.int (i / (Int.gcd t b:Int))):=iX (by have:=Int.gcd_pos_of_ne_zero_right t hb; omega) (by rw [Int.natAbs_natCast]; exact IW hb h)
noncomputable def fq (x:Rat):T:=pU x.num ((x.den:Nat):Int)
theorem JO (x:Rat):Low x.num ((x.den:Nat):Int):=⟨by have:=x.den_pos; omega,by rw [Int.gcd,Int.natAbs_natCast]; exact x.reduced⟩
noncomputable def tel (t b:Int):T:=pU (t / (Int.gcd t b:Int)) (b / (Int.gcd t b:Int))
theorem JM {t b:Int} {x:Rat} (hb:0 < b) (h:(t:Rat)=x * (b:Rat)):tel t b=fq x:=by
 obtain ⟨h1,h2⟩:=y4 hb h
 unfold tel fq
 rw [h1,h2]
theorem JB {x:Rat} {p q:Int} (h1:x.num=p) (h2:((x.den:Nat):Int)=q):(.tup [.int p,.int q]:T)=fq x:=by rw [← h1,← h2]; rfl
theorem O0 (x:Rat):((x.den:Nat):Int) ≠ 0:=by have:=x.den_pos; omega
theorem Bj {a b:Nat} {x:Rat} (h:Sz a b x) (hb:b≤8900):(((x.den:Nat):Int)).natAbs < big:=by rw [Int.natAbs_natCast]; exact dv h.den hb
theorem Lw {a b:Nat} {x:Rat} (h:Sz a b x):(((x.den:Nat):Int)).natAbs≤2 ^ b:=by rw [Int.natAbs_natCast]; exact h.den
theorem gu {i j:Int} {a:Nat} (h:i.natAbs≤2 ^ a):(i / j).natAbs≤2 ^ a:=Nat.le_trans (Int.natAbs_ediv_le_natAbs _ _) h
section
variable {Ψ ΨM:FnT} {X:Fx} {μ:Nat→Md} {n f i:Nat} {τ τ':ao} {e e' e1 e2 e3 e4:E} {x y z d x1 x2 x3 x4:T} {s:S} {ss:List S} {own own':Own} {need:List Nat} {lv:Nat}
theorem Dd {t:Tg} (hm:pG ⟨μ,[],lv⟩ e=false) (he:yE Ψ e τ=.ok x) (ht:aW t x τ=some τ'):yS Ψ ΨM ⟨μ,[],lv⟩ n (.set t e) τ []=.ok (.nx τ' []):=by
 rw [fB _ _ _ _ _ _ t e hm,he,Ou.aa,ht,cP,HB,bj,bj]
theorem dR {t:Tg} (hm:pG X e=false) (he:yE Ψ e τ=.ok x) (ht:aW t x τ=some τ') (ho:fF X (dn (gU X.μ 0 e) own) t e x τ=own'):yS Ψ ΨM X n (.set t e) τ own=.ok (.nx τ' own'):=by
 rw [fB _ _ _ _ _ _ t e hm,he,Ou.aa,ht,cP,ho]
theorem Oh (h:yS Ψ ΨM X n s τ own=.ok (.nx τ' own')):ySs Ψ ΨM X n (s :: ss) τ own=ySs Ψ ΨM X n ss τ' own':=by
 rw [au,h,Ou.aa,br]
theorem step {r:Ou FlT} (h:yS Ψ ΨM X n s τ own=.ok (.nx τ' own')) (k:ySs Ψ ΨM X n ss τ' own'=r):ySs Ψ ΨM X n (s :: ss) τ own=r:=(Oh h).trans k
theorem bU {r:Ou FlT} (h:r=.ok (.rt x)):bI ⟨false,0,0⟩ r=.ok x:=by rw [h,u4]
theorem rq (h:yS Ψ ΨM X n s τ own=.ok (.rt d)):ySs Ψ ΨM X n (s :: ss) τ own=.ok (.rt d):=by
 rw [au,h,Ou.aa,aU]
theorem bz (he:yE Ψ e τ=.ok x):ySs Ψ ΨM ⟨μ,need,0⟩ n [.ret e] τ own=.ok (.rt x):=by
 rw [au,bC,he,Ou.aa,bE,Ou.aa,aU]
theorem jU {c:E} {b:Bool} {A B:List S} (he:yE Ψ c τ=.ok (.bl b)) (ho:dn (gU X.μ 2 c) own=own'):yS Ψ ΨM X n (.ite c A B) τ own=if b=true then ySs Ψ ΨM X n A τ own' else ySs Ψ ΨM X n B τ own':=by
 rw [dU,he,Ou.aa,ho]
 cases b <;> rfl
theorem gC {t:Tg} {it:Sv.It} {body:List S} {xs:List T} {r:FlT} (hi:yIt Ψ it τ=.ok xs) (ho:dn (gUI X.μ 0 it) own=own') (hl:bN (bA Ψ ΨM X n t body) xs τ own'=.ok r):yS Ψ ΨM X n (.for t it body) τ own=.ok r:=by
 rw [zc,hi,Ou.aa,ho,hl,Ou.ip]
theorem ab (h:aH τ i=.ok x):yE Ψ (.var i) τ=.ok x:=by rw [aD,h]
theorem aI {i:Int}:yE Ψ (.cI i) τ=.ok (.int i):=cX _ _ _
theorem aO {o:Op2} (he:yE Ψ e τ=.ok x) (he':yE Ψ e' τ=.ok y) (h:z2 o x y=.ok z):yE Ψ (.op o e e') τ=.ok z:=by rw [iK,he,Ou.aa,he',Ou.aa,h]
theorem eI (he:yE Ψ e τ=.ok x) (he':yE Ψ e' τ=.ok y) (h:zI x y=.ok z):yE Ψ (.ix e e') τ=.ok z:=by rw [jT,he,Ou.aa,he',Ou.aa,h]
theorem dJ {o:Cm} {b:Bool} (he:yE Ψ e τ=.ok x) (he':yE Ψ e' τ=.ok y) (h:zC o x y=some b):yE Ψ (.cmp o e e') τ=.ok (.bl b):=by rw [dM,he,Ou.aa,he',Ou.aa,h,ba]
theorem uY (he:yE Ψ e τ=.ok x) (he':yE Ψ e' τ=.ok y):yE Ψ (.tup [e,e']) τ=.ok (.tup [x,y]):=by rw [Ez,ah,he,Ou.aa,ah,he',Ou.aa,aw,Ou.aa,Ou.aa,Ou.aa,AM]
theorem gg (h:Ψ f [d]=.ok x) (he:yE Ψ e τ=.ok d):yE Ψ (.call f [e]) τ=.ok x:=by
 rw [bX,ah,he,Ou.aa,aw,Ou.aa,Ou.aa,h]
theorem call2 (h:Ψ f [x,y]=.ok z) (he:yE Ψ e τ=.ok x) (he':yE Ψ e' τ=.ok y):yE Ψ (.call f [e,e']) τ=.ok z:=by
 rw [bX,ah,he,Ou.aa,ah,he',Ou.aa,aw,Ou.aa,Ou.aa,Ou.aa,h]
theorem v7 (h:Ψ f [x1,x2,x3]=.ok z) (h1:yE Ψ e1 τ=.ok x1) (h2:yE Ψ e2 τ=.ok x2) (h3:yE Ψ e3 τ=.ok x3):yE Ψ (.call f [e1,e2,e3]) τ=.ok z:=by
 rw [bX,ah,h1,Ou.aa,ah,h2,Ou.aa,ah,h3,Ou.aa,aw,Ou.aa,Ou.aa,Ou.aa,Ou.aa,h]
theorem Fj (h:Ψ f [x1,x2,x3,x4]=.ok z) (h1:yE Ψ e1 τ=.ok x1) (h2:yE Ψ e2 τ=.ok x2) (h3:yE Ψ e3 τ=.ok x3) (h4:yE Ψ e4 τ=.ok x4):yE Ψ (.call f [e1,e2,e3,e4]) τ=.ok z:=by
 rw [bX,ah,h1,Ou.aa,ah,h2,Ou.aa,ah,h3,Ou.aa,ah,h4,Ou.aa,aw,Ou.aa,Ou.aa,Ou.aa,Ou.aa,Ou.aa,h]
theorem iC {b:Bool} (he:yE Ψ e τ=.ok (.bl b)):yE Ψ (.not e) τ=.ok (.bl (!b)):=by rw [gj,he,Ou.aa,gv]
theorem rY (he:yE Ψ e τ=.ok (.bl false)) (he':yE Ψ e' τ=.ok x):yE Ψ (.or e e') τ=.ok x:=by rw [j3,he,Ou.aa,nR,he']
theorem GA (he:yE Ψ e τ=.ok (.bl true)) (he':yE Ψ e' τ=.ok x):yE Ψ (.and e e') τ=.ok x:=by rw [iB,he,Ou.aa,mE,he']
theorem bi1 {b:Bi} (h:zB b [x]=.ok z) (he:yE Ψ e τ=.ok x):yE Ψ (.bi b [e]) τ=.ok z:=by rw [bZ,ah,he,Ou.aa,aw,Ou.aa,Ou.aa,h]
theorem fr0 {q:Rat} (he:yE Ψ e τ=.ok (fq q)):yE Ψ (.ix e (.cI 0)) τ=.ok (.int q.num):=eI he aI (tS _ _)
theorem fr1 {q:Rat} (he:yE Ψ e τ=.ok (fq q)):yE Ψ (.ix e (.cI 1)) τ=.ok (.int ((q.den:Nat):Int)):=eI he aI (tQ _ _ _)
end
theorem bW {Ψ ΨM:FnT} {μ:Nat→Md} {n lv:Nat} {τ τ':ao} {e:E} {x:T} {t:Tg} (he:yE Ψ e τ=.ok x) (hm:pG ⟨μ,[],lv⟩ e=false) (ht:aW t x τ=some τ'):yS Ψ ΨM ⟨μ,[],lv⟩ n (.set t e) τ []=.ok (.nx τ' []):=Dd hm he ht
theorem CZ {t b:Int} {x:Rat} (hb:0 < b) (h:(t:Rat)=x * (b:Rat)) (s:b.natAbs < big):qX [.int t,.int b]=.ok (fq x):=
 (Hu (Ψ:=xV) (ΨM:=xQ) (μ:=yr) (sc:=false) (dv:=1) rfl (fun a b=>Jz a b) t b hb s).trans (congrArg Ou.ok (JM hb h))
noncomputable def line (n:Nat) (F:Nat→T):T:=.lst ((List.range n).map F)
noncomputable def pV (m w:Nat) (F:Nat→Nat→T):T:=line m fun i=>line w (F i)
theorem ez {n j:Nat} {F:Nat→T} (hj:j < n):zI (line n F) (.int (j:Nat))=.ok (F j):=iF (by rw [List.getElem?_map,List.getElem?_range hj]; rfl)
theorem fZ (n:Nat) (F:Nat→T):zB .len [line n F]=.ok (.int (n:Nat)):=by rw [line,eJ,List.length_map,List.length_range]
theorem eM {n:Nat} {F H:Nat→T} (h:∀ j < n,F j=H j):line n F=line n H:=by
 unfold line
 congr 1
 exact List.map_congr_left fun j hj=>h j (List.mem_range.mp hj)
theorem qj {m w:Nat} {F H:Nat→Nat→T} (h:∀ i < m,∀ j < w,F i j=H i j):pV m w F=pV m w H:=
 eM fun i hi=>eM fun j hj=>h i hi j hj
noncomputable def gq (m w:Nat) (F:Nat→Nat→Rat):T:=pV m w fun i j=>fq (F i j)
theorem Lo {m w:Nat} {F:Nat→Nat→Rat} (hm:1≤m∧m≤7) (hw:1≤w∧w≤7):zW (gq m w F)=true∧nx (gq m w F)=true:=by
 have hr:∀ i,pH (line w fun j=>fq (F i j))=true:=fun i=>by
   unfold pH
   rw [Bool.and_eq_true]
   refine ⟨by simp only [line,oy,List.length_map,List.length_range,Bool.and_eq_true,decide_eq_true_eq]; exact hw,?_⟩
   simp only [line,nK,List.all_map,List.all_eq_true]
   intro j hj
   have lo:=JO (F i j)
   simp only [Function.comp,fq,pU,rG,Bool.and_eq_true,decide_eq_true_eq]
   exact ⟨lo.pos,lo.cop⟩
 have hl:∀ i,td (line w fun j=>fq (F i j))=w:=fun i=>by simp only [line,td,List.length_map,List.length_range]
 constructor
 · unfold zW
   rw [Bool.and_eq_true,Bool.and_eq_true]
   refine ⟨⟨by simp only [gq,pV,line,oy,List.length_map,List.length_range,Bool.and_eq_true,decide_eq_true_eq]; exact hm,?_⟩,?_⟩
   · simp only [gq,pV,nK,line,List.all_map,List.all_eq_true]
     intro i _
     exact hr i
   · have hh:td (hdT (gq m w F))=w:=by
       obtain ⟨m',rfl⟩:∃ m',m=m' + 1:=⟨m - 1,by omega⟩
       unfold gq pV
       unfold line
       rw [List.range_succ_eq_map,List.map_cons]
       exact hl 0
     rw [hh]
     simp only [gq,pV,nK,line,List.all_map,List.all_eq_true]
     intro i _
     exact decide_eq_true (hl i)
 · exact EO fun x hx=>by
     obtain ⟨i,_,rfl⟩:=List.mem_map.mp hx
     exact EO fun y hy=>by obtain ⟨j,_,rfl⟩:=List.mem_map.mp hy; rfl
theorem Bx {m w:Nat} {F:Nat→Nat→Rat} (hm:1≤m∧m≤7) (hw:1≤w∧w≤7):jz [gq m w F]=.ok .non:=by
 obtain ⟨h1,h2⟩:=Lo (F:=F) hm hw
 have h3:=Om _ h2
 rw [h1] at h3
 rw [pF,dE]
 exact (congrArg (bI _) (step ((jU (own':=[]) (iC (gg (Ψ:=js) (f:=17) h3 (ab rfl))) rfl).trans ((if_neg (by decide)).trans (ax ..))) (ax ..))).trans rfl
theorem DT (m w:Nat) (F:Nat→Nat→T):lvT (pV m w F)=2:=by
 show (if ((List.range m).map fun i=>line w (F i)).all isL=true then 2 else 1)=2
 rw [if_pos]
 rw [List.all_map,List.all_eq_true]
 intro r _
 rfl
section
variable {Ψ ΨM:FnT} {X:Fx} {N v:Nat} {τ τ':ao} {e a i:E} {own own':Own}
theorem Bq {n k:Nat} {F:Nat→T} {y:T}:((List.range n).map F).set k y=(List.range n).map fun i=>if i=k then y else F i:=by
 apply List.ext_getElem
 · simp
 · intro i h1 h2
   rw [List.getElem_set]
   simp only [List.getElem_map,List.getElem_range]
   by_cases q:k=i
   · rw [if_pos q,if_pos q.symm]
   · rw [if_neg q,if_neg fun z=>q z.symm]
theorem EL {n k:Nat} (h:k < n):L2.ixN n (k:Nat)=some k:=by
 unfold L2.ixN
 rw [if_pos (by omega),if_pos (by omega)]
 rfl
theorem cu {t:Tg} {body:List S} {x:T} {r:Ou FlT} (ht:aW t x τ=some τ') (ho:dn (frg t) own=own') (h:ySs Ψ ΨM X N body τ' own'=r):bA Ψ ΨM X N t body x τ own=r:=by
 rw [qM,ht,ho]
 exact h
end
theorem hZ {f:T→ao→Own→Ou FlT} {own:Own} {n:Nat} (I:Nat→ao→Prop) (h:∀ k < n,∀ τ,I k τ→∃ τ',f (.int (k:Nat)) τ own=.ok (.nx τ' own)∧I (k + 1) τ') {τ:ao} (h0:I 0 τ):∃ τ',bN f ((List.range n).map fun k=>.int (k:Nat)) τ own=.ok (.nx τ' own)∧I n τ':=by
 have go:∀ (m k:Nat) (τ:ao),k + m=n→I k τ→∃ τ',bN f ((List.range' k m).map fun k=>.int (k:Nat)) τ own=.ok (.nx τ' own)∧I n τ':=by
   intro m
   induction m with
   | zero=>exact fun k τ e i=>⟨τ,by rw [List.range'_zero,List.map_nil,dH],by rw [← e]; exact i⟩
   | succ m ih=>
     intro k τ e i
     obtain ⟨τ1,e1,i1⟩:=h k (by omega) τ i
     obtain ⟨τ2,e2,i2⟩:=ih (k + 1) τ1 (by omega) i1
     exact ⟨τ2,by rw [List.range'_succ,List.map_cons,bu,e1,Ou.aa,cU,e2],i2⟩
 rw [List.range_eq_range']
 exact go n 0 τ (by omega) h0
section
variable {Ψ ΨM:FnT} {X:Fx} {N v f:Nat} {τ τ':ao} {e a i:E} {own own' own2:Own}
theorem fW {caps:List (Option Nat)} {t:Tg} {elt:E} {x y:T} {τ1:ao} (ht:aW t x (jw τ caps++[none])=some τ1) (he:yE Ψ elt τ1=.ok y):hV Ψ τ caps t [] elt x=.ok (some y):=by
 rw [eX,ht]
 simp only [iU,Ou.aa,if_true,he]
theorem Jh {i m w:Nat} {F:Nat→Nat→Rat} (hm:m≤7) (h:aH τ i=.ok (gq m w F)):yE Ψ (.comp [none] (.nm 0) (.seq (.var i)) [] (.bi .list [(.var 0)])) τ=.ok (gq m w F):=
 dP (xs:=(List.range m).map fun i=>line w fun j=>fq (F i j)) (by rw [eD,ab h]; rfl) (by rw [List.length_map,List.length_range]; exact dY hm) (cO _ fun j hj=>fW rfl (bi1 (x:=line w fun k=>fq (F j k)) rfl (ab rfl)))
theorem len0 {i m w:Nat} {F:Nat→Nat→Rat} (hm:1≤m) (h:aH τ i=.ok (gq m w F)):yE Ψ (.bi .len [(.ix (.var i) (.cI 0))]) τ=.ok (.int (w:Nat)):=
 bi1 (fZ w fun j=>fq (F 0 j)) (eI (ab h) aI (ez (j:=0) hm))
end
theorem kU {α:Type} {f:T→ao→Own→Ou FlT} {own:Own} {g:α→T} (I:List α→List α→ao→Prop) (h:∀ ps p qs τ,I ps (p :: qs) τ→∃ τ',f (g p) τ own=.ok (.nx τ' own)∧I (ps++[p]) qs τ'):∀ (qs ps:List α) (τ:ao),I ps qs τ→∃ τ',bN f (qs.map g) τ own=.ok (.nx τ' own)∧I (ps++qs) [] τ'
 | [],ps,τ,i=>⟨τ,by rw [List.map_nil,dH],by rw [List.append_nil]; exact i⟩
 | p :: qs,ps,τ,i=>by
   obtain ⟨τ1,e1,i1⟩:=h ps p qs τ i
   obtain ⟨τ2,e2,i2⟩:=kU I h qs (ps++[p]) τ1 i1
   exact ⟨τ2,by rw [List.map_cons,bu,e1,Ou.aa,cU,e2],by rw [List.append_assoc] at i2; exact i2⟩
section
variable {Ψ ΨM:FnT} {X:Fx} {N:Nat} {τ:ao} {e c:E} {x y:T} {own own':Own}
theorem Ls {t:Ty} (he:yE Ψ e τ=.ok x) (h:uM t x=.ok y):yE Ψ (.isi e t) τ=.ok y:=by rw [gp,he,Ou.aa,h]
theorem skip {A:List S} (he:yE Ψ c τ=.ok (.bl false)) (ho:dn (gU X.μ 2 c) own=own'):yS Ψ ΨM X N (.ite c A []) τ own=.ok (.nx τ own'):=(jU he ho).trans ((if_neg (by decide)).trans (ax ..))
end
mutual
theorem xM:∀ d:T,clT d=true→eqT d d=true
 | .non,_=>rfl
 | .bl b,_=>by simp [eqT]
 | .int i,_=>by simp [eqT]
 | .str x,_=>by simp [eqT]
 | .tup xs,h=>by rw [eqT]; exact nW xs (by simpa [clT] using h)
 | .lst xs,h=>by rw [eqT]; exact nW xs (by simpa [clT] using h)
 | .exo c,h=>by simp [clT] at h
theorem nW:∀ d:List T,mM d=true→sD d d=true
 | [],_=>rfl
 | x :: xs,h=>by
   rw [mM,Bool.and_eq_true] at h
   rw [sD,xM x h.1,nW xs h.2]
   rfl
end
theorem vV {α:Type} {f:α→T} (h:∀ a,clT (f a)=true):∀ l:List α,mM (l.map f)=true
 | []=>rfl
 | a :: l=>by rw [List.map_cons,mM,h a,vV h l]; rfl
theorem xR {α:Type} {f:α→T} {k:Nat} (h:∀ a,dpT (f a)≤k):∀ l:List α,sH (l.map f)≤k
 | []=>Nat.zero_le _
 | a :: l=>by rw [List.map_cons,sH]; exact Nat.max_le.mpr ⟨h a,xR h l⟩
theorem wm {n k:Nat} {G:Nat→T} (h:∀ i,clT (G i)=true∧dpT (G i)≤k):clT (line n G)=true∧dpT (line n G)≤k + 1:=by
 refine ⟨by rw [line,clT]; exact vV (fun i=>(h i).1) _,?_⟩
 have:=xR (f:=G) (k:=k) (fun i=>(h i).2) (List.range n)
 rw [line,dpT]; omega
theorem N1 (m w:Nat) (F:Nat→Nat→Rat):clT (gq m w F)=true∧dpT (gq m w F)≤3:=
 wm fun i=>wm fun j=>⟨rfl,by simp [fq,pU,dpT,sH]⟩
theorem NH (m w:Nat) (F:Nat→Nat→Rat):zC .ne (gq m w F) (gq m w F)=some false:=by
 obtain ⟨a1,a2⟩:=N1 m w F
 have h:eqK (gq m w F):=⟨a1,by omega⟩
 show (if eqK _∧eqK _ then some (!eqT _ _) else none)=some false
 rw [if_pos ⟨h,h⟩,xM _ h.1]
 rfl
theorem mG {Ψ:FnT} {e:E} {τ:ao} {n:Nat} {G:Nat→T} (h:yE Ψ e τ=.ok (line n G)):yIt Ψ (.seq e) τ=.ok ((List.range n).map G):=by
 rw [eD,h,Ou.aa,line,oD]
theorem u5 {t b:Int} {x y:Nat} (hb:0 < b) (st:t.natAbs≤2 ^ x) (sb:b.natAbs≤2 ^ y) (hy:y≤8900):∃ q:Rat,qX [.int t,.int b]=.ok (fq q)∧Sz x y q:=by
 have hbb:((b:Int):Rat)=((b.toNat:Nat):Rat):=by rw [← Rat.intCast_natCast,Int.toNat_of_nonneg (by omega)]
 have hb0:((b.toNat:Nat):Rat) ≠ 0:=fun z=>by have:=Rat.natCast_eq_zero_iff.mp z; omega
 have h:(t:Rat)=mkRat t b.toNat * (b:Rat):=by rw [Rat.mkRat_eq_div,hbb,Rat.div_mul_cancel hb0]
 obtain ⟨h1,h2⟩:=y4 hb h
 refine ⟨mkRat t b.toNat,CZ hb h (dv sb hy),by rw [h1]; exact gu st,?_⟩
 have:((mkRat t b.toNat).den:Int).natAbs≤2 ^ y:=by rw [h2]; exact gu sb
 rwa [Int.natAbs_natCast] at this
section
variable {p:Int}
theorem fdk {i j:Int} (h:0 < j) (h':j.natAbs < 10 ^ 200):z2 .fdiv (.int i) (.int j)=.ok (.int (i / j)):=iX h (kO h')
theorem n1 {A:List S} {k z:Int} {τ:ao} {N:Nat} (h:aH τ 0=.ok (.int k)) (hk:k ≠ z):yS dj iA ⟨ie,[],0⟩ N (.ite (.cmp .eq (.var 0) (.cI z)) A []) τ []=.ok (.nx τ []):=skip (dJ (ab h) aI (by rw [ck,decide_eq_false hk])) (bj _)
theorem n2 {A:List S} {k:Int} {τ:ao} {N:Nat} {r:Ou FlT} (h:aH τ 0=.ok (.int k)) (hr:ySs dj iA ⟨ie,[],0⟩ N A τ []=r):yS dj iA ⟨ie,[],0⟩ N (.ite (.cmp .eq (.var 0) (.cI k)) A []) τ []=r:=(jU (own':=[]) (dJ (b:=true) (ab h) aI (by rw [ck,decide_eq_true rfl])) (bj _)).trans ((if_pos rfl).trans hr)
theorem NV:∃ q:Rat,cC [.int 0,.int p]=.ok (fq q)∧Sz 4 3 q:=by
 obtain ⟨q,e,h⟩:=u5 (t:=p % 19 - 9) (b:=1 + p / 19 % 6) (x:=4) (y:=3) (by omega) (by omega) (by omega) (by decide)
 refine ⟨q,?_,h⟩
 rw [fU,cw]
 exact bU (step (n1 rfl (by decide)) (step (n1 rfl (by decide)) (step (n1 rfl (by decide)) (bz (call2 (Ψ:=dj) (f:=2) e (aO (aO (ab rfl) aI (mJ p 19)) aI rfl) (aO aI (aO (aO (ab rfl) aI (fdk (by decide) (by decide))) aI (mJ _ 6)) rfl))))))
theorem num_1:∃ q:Rat,cC [.int 1,.int p]=.ok (fq q)∧Sz 1 0 q:=by
 refine ⟨((p % 5 - 2:Int):Rat),?_,by rw [Rat.num_intCast]; omega,by rw [Rat.den_intCast]; decide⟩
 rw [fU,cw]
 refine bU (rq (n2 rfl (bz ((uY (aO (aO (ab rfl) aI (mJ p 5)) aI rfl) aI).trans (congrArg Ou.ok (JB ?_ ?_))))))
 · rw [Rat.num_intCast]
 · rw [Rat.den_intCast]; rfl
theorem Oz:∃ q:Rat,cC [.int 2,.int p]=.ok (fq q)∧Sz 4 3 q:=by
 obtain ⟨q,e,h⟩:=u5 (t:=p % 10) (b:=1 + p / 10 % 6) (x:=4) (y:=3) (by omega) (by omega) (by omega) (by decide)
 refine ⟨q,?_,h⟩
 rw [fU,cw]
 exact bU (step (n1 rfl (by decide)) (step (n1 rfl (by decide)) (rq (n2 rfl (bz (call2 (Ψ:=dj) (f:=2) e (aO (ab rfl) aI (mJ p 10)) (aO aI (aO (aO (ab rfl) aI (fdk (by decide) (by decide))) aI (mJ _ 6)) rfl)))))))
theorem t40:(10:Nat) ^ 40≤2 ^ 133:=by decide +kernel
theorem OA:∃ q:Rat,cC [.int 3,.int p]=.ok (fq q)∧Sz 133 133 q:=by
 have hz:0≤p / 2 % 10 ^ 40∧p / 2 % 10 ^ 40 < 10 ^ 40:=⟨Int.emod_nonneg _ (by decide),Int.emod_lt_of_pos _ (by decide)⟩
 have hy:0≤p / (2 * 10 ^ 40) % (10 ^ 40 - 1)∧p / (2 * 10 ^ 40) % (10 ^ 40 - 1) < 10 ^ 40 - 1:=⟨Int.emod_nonneg _ (by decide),Int.emod_lt_of_pos _ (by decide)⟩
 have st:(p / 2 % 10 ^ 40 * (1 - 2 * (p % 2))).natAbs≤10 ^ 40:=by
   rcases (by omega:p % 2=0∨p % 2=1) with q | q
   · rw [q]; omega
   · rw [q]; omega
 have sb:(1 + p / (2 * 10 ^ 40) % (10 ^ 40 - 1)).natAbs≤10 ^ 40:=by omega
 obtain ⟨q,e,h⟩:=u5 (t:=p / 2 % 10 ^ 40 * (1 - 2 * (p % 2))) (b:=1 + p / (2 * 10 ^ 40) % (10 ^ 40 - 1)) (x:=133) (y:=133) (by omega) (Nat.le_trans st t40) (Nat.le_trans sb t40) (by decide)
 refine ⟨q,?_,h⟩
 rw [fU,cw]
 have P40:∀ τ:ao,yE dj (.op .pow (.cI 10) (.cI 40)) τ=.ok (.int (10 ^ 40)):=fun τ=>aO aI aI p40
 refine bU (step (n1 rfl (by decide)) (rq (n2 rfl (step (bW (x:=.int (p / 2 % 10 ^ 40 * (1 - 2 * (p % 2)))) ?_ rfl rfl) (bz (call2 (Ψ:=dj) (f:=2) e (ab rfl) ?_))))))
 · exact aO (aO (aO (ab rfl) aI (fdk (by decide) (by decide))) (P40 _) (jR (by decide))) (aO aI (aO aI (aO (ab rfl) aI (mJ p 2)) (e6 (fN (by decide)))) rfl) (e6 (eY (by omega)))
 · exact aO aI (aO (aO (ab rfl) (aO aI (P40 _) (e6 (fN (by decide)))) (fdk (by decide) (by decide))) (aO (P40 _) aI rfl) (jR (by decide))) rfl
end
theorem table_at {a b k:Nat} (c:Int) (m w:Nat) (hm:m≤7) (hw:w≤7) (hk:k < 4) (hu:∀ p:Int,∃ q:Rat,cC [.int (k:Nat),.int p]=.ok (fq q)∧Sz a b q):∃ Q:Nat→Nat→Rat,(∀ i j,Sz a b (Q i j))∧oX [.int c,.int (m:Nat),.int (w:Nat),.int (k:Nat)]=.ok (gq m w Q):=by
 obtain ⟨F,hF,e⟩:=IJ (Ψ:=oR) (ΨM:=tT) (μ:=ui) (nb:=0) (nu:=3) (R:=fun t u=>∃ q:Rat,q.num=t∧((q.den:Nat):Int)=u∧Sz a b q) rfl (FV rfl) c m w k hm hw hk fun p=>by
   obtain ⟨q,e,h⟩:=hu p
   rw [mr]
   exact ⟨_,_,e,q,rfl,rfl,h⟩
 refine ⟨fun i j=>Classical.choose (hF i j),fun i j=>(Classical.choose_spec (hF i j)).2.2,?_⟩
 refine e.trans (congrArg Ou.ok ?_)
 refine qj (F:=fun i j=>fr2 (F i j)) fun i _ j _=>?_
 obtain ⟨h1,h2,_⟩:=Classical.choose_spec (hF i j)
 unfold fr2 fq
 rw [h1,h2]
end K09
namespace K09
open PySem PySem.Spec L2 Sv
open Ev (D aL aT ag)
theorem Gn (i:Int):mH [.int i]=.ok (.bl true):=qW _ rfl
theorem OU {t b:Int} (hb:0 < b) (sb:b.natAbs < big):mh [.int t,.int b]=.ok (tel t b):=by
 have hn:¬ b < 0:=by omega
 have h0:¬ b=0:=by omega
 have il:fh [.int t,.int b]=.ok (tel t b):=by
   rw [kq,bG]
   exact bU (step (Dd rfl (call2 (LS rfl _ _) (ab rfl) (ab rfl)) rfl) (step (skip (own':=[]) (dJ (ab rfl) aI (by rw [gX,decide_eq_false hn])) rfl) (bz (uY (aO (ab rfl) (ab rfl) (fdv h0 sb)) (aO (ab rfl) (ab rfl) (fdv h0 sb))))))
 rw [sE,eZ]
 exact bU (step (skip (own':=[]) (rY (iC (b:=true) (gg (d:=.int t) (Gn t) (ab rfl))) (iC (b:=true) (gg (d:=.int b) (Gn b) (ab rfl)))) rfl) (step (skip (own':=[]) (dJ (ab rfl) aI (by rw [ck,decide_eq_false h0])) rfl) (bz (call2 (Ψ:=mI) (f:=20) il (ab rfl) (ab rfl)))))
noncomputable def sc:List Rat→Int→Int
 | [],s=>s
 | x :: xs,s=>sc xs (s / (Int.gcd s ((x.den:Nat):Int):Int) * ((x.den:Nat):Int))
theorem HC {s:Int} {d:Nat} (hs:0 < s) (hd:0 < d):0 < s / (Int.gcd s ((d:Nat):Int):Int) * ((d:Nat):Int)∧s ∣ s / (Int.gcd s ((d:Nat):Int):Int) * ((d:Nat):Int)∧((d:Nat):Int) ∣ s / (Int.gcd s ((d:Nat):Int):Int) * ((d:Nat):Int):=by
 have g0:0 < Int.gcd s ((d:Nat):Int):=Int.gcd_pos_of_ne_zero_left _ (by omega)
 obtain ⟨a,ha⟩:=Int.gcd_dvd_left s ((d:Nat):Int)
 obtain ⟨b,hb⟩:=Int.gcd_dvd_right s ((d:Nat):Int)
 have e:s / (Int.gcd s ((d:Nat):Int):Int)=a:=by
   conv=>lhs; lhs; rw [ha]
   rw [Int.mul_ediv_cancel_left _ (by omega)]
 refine ⟨?_,?_,Int.dvd_mul_left _ _⟩
 · rw [e]
   have:0 < a:=by
     rcases Int.lt_trichotomy a 0 with z | z | z
     · have:=Int.mul_neg_of_pos_of_neg (show (0:Int) < (Int.gcd s ((d:Nat):Int):Int) by omega) z
       omega
     · subst z; rw [Int.mul_zero] at ha; omega
     · exact z
   exact Int.mul_pos this (by omega)
 · rw [e]
   refine ⟨b,?_⟩
   conv=>lhs; rw [hb]
   conv=>rhs; lhs; rw [ha]
   rw [← Int.mul_assoc,Int.mul_comm a]
theorem DN:∀ (xs:List Rat) (s:Int),0 < s→0 < sc xs s∧s ∣ sc xs s∧∀ x ∈ xs,((x.den:Nat):Int) ∣ sc xs s
 | [],s,h=>⟨h,Int.dvd_refl s,fun _ h=>by cases h⟩
 | x :: xs,s,h=>by
   obtain ⟨h1,h2,h3⟩:=HC h x.den_pos
   obtain ⟨g1,g2,g3⟩:=DN xs _ h1
   refine ⟨g1,Int.dvd_trans h2 g2,fun y hy=>?_⟩
   rcases List.mem_cons.mp hy with rfl | hy
   · exact Int.dvd_trans h3 g2
   · exact g3 y hy
theorem Al {b:Nat}:∀ (xs:List Rat) (s:Int) (c:Nat),(∀ x ∈ xs,x.den≤2 ^ b)→s.natAbs≤2 ^ c→(sc xs s).natAbs≤2 ^ (c + xs.length * b)
 | [],s,c,_,h=>by rw [List.length_nil,Nat.zero_mul]; exact h
 | x :: xs,s,c,hx,h=>by
   have r:=Al xs (s / (Int.gcd s ((x.den:Nat):Int):Int) * ((x.den:Nat):Int)) (c + b) (fun y hy=>hx y (List.mem_cons_of_mem _ hy)) (by
     rw [Int.natAbs_mul,Nat.pow_add,Int.natAbs_natCast]
     exact Nat.mul_le_mul (gu h) (hx x (List.mem_cons_self ..)))
   rw [List.length_cons,Nat.succ_mul]
   exact Nat.le_trans r (Nat.pow_le_pow_right (by decide) (by omega))
noncomputable def JQ:List S:=[.set (.nm 1) (.op .mul (.op .fdiv (.var 1) (.call 14 [(.var 1),(.ix (.var 2) (.cI 1))])) (.ix (.var 2) (.cI 1)))]
theorem rJ (N:Nat) (a:Option T) {b:Nat} (hb:b≤8900):∀ (xs:List Rat) (s:Int) (c:Nat) (r:Option T),s.natAbs≤2 ^ c→(∀ x ∈ xs,x.den≤2 ^ b)→c + xs.length * b≤90000→∃ r',bN (bA jG jJ ⟨jm,[],0⟩ N (.nm 2) JQ) (xs.map fq) [a,some (.int s),r] []=.ok (.nx [a,some (.int (sc xs s)),r'] [])
 | [],s,c,r,_,_,_=>⟨r,by rw [List.map_nil,dH]; rfl⟩
 | x :: xs,s,c,r,hs,hx,hc=>by
   have hd:=hx x (List.mem_cons_self ..)
   have hd':(((x.den:Nat):Int)).natAbs≤2 ^ b:=by rw [Int.natAbs_natCast]; exact hd
   rw [List.length_cons,Nat.succ_mul] at hc
   obtain ⟨r',e⟩:=rJ N a hb xs (s / (Int.gcd s ((x.den:Nat):Int):Int) * ((x.den:Nat):Int)) (c + b) (some (fq x)) (by
     rw [Int.natAbs_mul,Nat.pow_add]
     exact Nat.mul_le_mul (gu hs) hd') (fun y hy=>hx y (List.mem_cons_of_mem _ hy)) (by omega)
   refine ⟨r',?_⟩
   have t:bA jG jJ ⟨jm,[],0⟩ N (.nm 2) JQ (fq x) [a,some (.int s),r] []=.ok (.nx [a,some (.int (s / (Int.gcd s ((x.den:Nat):Int):Int) * ((x.den:Nat):Int))),some (fq x)] []):=
     cu rfl rfl (step (bW (aO (aO (ab rfl) (call2 (LS rfl _ _) (ab rfl) (fr1 (ab rfl))) (fdv (O0 x) (dv hd' hb))) (fr1 (ab rfl)) (mo (gu hs) hd' (by omega) (by omega))) rfl rfl) (ax ..))
   rw [List.map_cons,bu,t,Ou.aa,cU,e]
   rfl
noncomputable def scl (n:Nat) (f:Nat→Rat):Int:=sc ((List.range n).map f) 1
theorem uT (n:Nat) (f:Nat→Rat):0 < scl n f∧∀ k < n,(((f k).den:Nat):Int) ∣ scl n f:=by
 obtain ⟨h1,_,h3⟩:=DN ((List.range n).map f) 1 (by decide)
 exact ⟨h1,fun k hk=>h3 _ (List.mem_map.mpr ⟨k,List.mem_range.mpr hk,rfl⟩)⟩
theorem D2 {n b:Nat} {f:Nat→Rat} (h:∀ k < n,(f k).den≤2 ^ b):(scl n f).natAbs≤2 ^ (n * b):=by
 have:=Al (b:=b) ((List.range n).map f) 1 0 (fun x hx=>by
   obtain ⟨k,hk,rfl⟩:=List.mem_map.mp hx
   exact h k (List.mem_range.mp hk)) (by decide)
 rw [List.length_map,List.length_range,Nat.zero_add] at this
 exact this
theorem Dj {b n:Nat} {f:Nat→Rat} (hn:n≤7) (h:∀ k < n,(f k).den≤2 ^ b) (hb:b≤8900):jt [line n fun k=>fq (f k)]=.ok (.int (scl n f)):=by
 have hm:n * b≤7 * 8900:=Nat.mul_le_mul hn hb
 obtain ⟨r',e⟩:=rJ (b:=b) (aR [line n fun k=>fq (f k)]) (some (line n fun k=>fq (f k))) hb ((List.range n).map f) 1 0 none (by decide) (fun x hx=>by
   obtain ⟨k,hk,rfl⟩:=List.mem_map.mp hx
   exact h k (List.mem_range.mp hk)) (by rw [List.length_map,List.length_range]; omega)
 rw [sJ]
 exact bU (step (bW aI rfl rfl) (step (gC (own':=[]) (xs:=((List.range n).map f).map fq) (by rw [eD,ab rfl,Ou.aa,List.map_map]; rfl) rfl e) (bz (ab rfl))))
noncomputable def vec (n:Nat) (f:Nat→Int):T:=line n fun i=>.int (f i)
noncomputable def wr (f:Nat→Rat) (s:Int) (k:Nat):Int:=(f k).num * (s / (((f k).den:Nat):Int))
theorem L6 {f:Nat→Rat} {s:Int} {k:Nat} (h:(((f k).den:Nat):Int) ∣ s):(wr f s k:Rat)=f k * (s:Rat):=by
 obtain ⟨c,rfl⟩:=h
 unfold wr
 rw [Int.mul_ediv_cancel_left _ (by have:=(f k).den_pos; omega),Rat.intCast_mul,Rat.intCast_mul,← Rat.mul_assoc,Ar]
theorem JK {f:Nat→Rat} {s:Int} {k a c:Nat} (h:(f k).num.natAbs≤2 ^ a) (hs:s.natAbs≤2 ^ c):(wr f s k).natAbs≤2 ^ (a + c):=by
 unfold wr
 rw [Int.natAbs_mul,Nat.pow_add]
 exact Nat.mul_le_mul h (gu hs)
theorem uL {n a b c:Nat} {f:Nat→Rat} {s:Int} (hn:n≤7) (h:∀ k < n,Sz a b (f k)) (hs:s.natAbs≤2 ^ c) (ha:a≤90000) (hb:b≤8900) (hc:c≤90000):j4 [line n fun k=>fq (f k),.int s]=.ok (vec n (wr f s)):=by
 rw [qQ,eA]
 refine bU (bz (dP (mG (n:=n) (ab rfl)) (by rw [List.length_map,List.length_range]; exact dY hn) (cO _ fun k hk=>?_)))
 have z:=h k (List.mem_range.mp hk)
 have d:z2 .fdiv (.int s) (.int (((f k).den:Nat):Int))=.ok (.int (s / (((f k).den:Nat):Int))):=iX (by have:=(f k).den_pos; omega) (Bj z hb)
 exact fW rfl (aO (fr0 (ab rfl)) (aO (ab rfl) (fr1 (ab rfl)) d) (mo z.num (gu hs) (by omega) (by omega)))
theorem zip_map (F H:Nat→T):∀ ks:List Nat,mq (ks.map F) (ks.map H)=ks.map fun i=>.tup [F i,H i]
 | []=>rfl
 | k :: ks=>by rw [List.map_cons,List.map_cons,List.map_cons,mq,zip_map F H ks]
theorem Ew {Ψ:FnT} {e1 e2:E} {τ:ao} {n:Nat} {F H:Nat→T} (h1:yE Ψ e1 τ=.ok (line n F)) (h2:yE Ψ e2 τ=.ok (line n H)):yIt Ψ (.zip e1 e2) τ=.ok ((List.range n).map fun i=>.tup [F i,H i]):=by
 rw [Ha,h1,Ou.aa,h2,Ou.aa,line,line,Ot,zip_map]
theorem tw {w n a b c:Nat} {H:Nat→Nat→Rat} {s:Nat→Int} (hw:w≤7) (hn:n≤7) (h:∀ j < w,∀ k < n,Sz a b (H j k)) (hs:∀ j < w,(s j).natAbs≤2 ^ c) (ha:a≤90000) (hb:b≤8900) (hc:c≤90000):gK [gq w n H,vec w s]=.ok (line w fun j=>vec n (wr (H j) (s j))):=by
 rw [pQ,dG]
 refine bU (bz (dP (Ew (n:=w) (F:=fun j=>line n fun k=>fq (H j k)) (H:=fun j=>.int (s j)) (ab rfl) (ab rfl)) (by rw [List.length_map,List.length_range]; exact dY hw) (cO _ fun j hj=>?_)))
 have hj:=List.mem_range.mp hj
 exact fW rfl (call2 (uL hn (h j hj) (hs j hj) ha hb hc) (ab rfl) (ab rfl))
end K09
namespace K09
open PySem PySem.Spec L2 Sv
open Ev (D aL aT ag)
noncomputable def gz (n:Nat) (g:Nat→Nat→Int):T:=line n fun i=>vec n (g i)
theorem Jb {f:T→ao→Own→Ou FlT} {own:Own} {n:Nat} (I:Nat→ao→Prop) (E:T→Prop) (h:∀ k < n,∀ τ,I k τ→(∃ τ',f (.int (k:Nat)) τ own=.ok (.nx τ' own)∧I (k + 1) τ')∨(∃ d,f (.int (k:Nat)) τ own=.ok (.rt d)∧E d)) {τ:ao} (h0:I 0 τ) :
   (∃ τ',bN f ((List.range n).map fun k=>.int (k:Nat)) τ own=.ok (.nx τ' own)∧I n τ')∨(∃ d,bN f ((List.range n).map fun k=>.int (k:Nat)) τ own=.ok (.rt d)∧E d):=by
 have go:∀ (m k:Nat) (τ:ao),k + m=n→I k τ→(∃ τ',bN f ((List.range' k m).map fun k=>.int (k:Nat)) τ own=.ok (.nx τ' own)∧I n τ')∨(∃ d,bN f ((List.range' k m).map fun k=>.int (k:Nat)) τ own=.ok (.rt d)∧E d):=by
   intro m
   induction m with
   | zero=>exact fun k τ e i=>.inl ⟨τ,by rw [List.range'_zero,List.map_nil,dH],by rw [← e]; exact i⟩
   | succ m ih=>
     intro k τ e i
     rcases h k (by omega) τ i with ⟨τ1,e1,i1⟩ | ⟨d,e1,i1⟩
     · rcases ih (k + 1) τ1 (by omega) i1 with ⟨τ2,e2,i2⟩ | ⟨d,e2,i2⟩
       · exact .inl ⟨τ2,by rw [List.range'_succ,List.map_cons,bu,e1,Ou.aa,cU,e2],i2⟩
       · exact .inr ⟨d,by rw [List.range'_succ,List.map_cons,bu,e1,Ou.aa,cU,e2],i2⟩
     · exact .inr ⟨d,by rw [List.range'_succ,List.map_cons,bu,e1,Ou.aa,yB],i1⟩
 rw [List.range_eq_range']
 exact go n 0 τ (by omega) h0
theorem Gi {Ψ:FnT} {a b:E} {τ:ao} {k n:Nat} (h0:yE Ψ a τ=.ok (.int (k:Nat))) (h:yE Ψ b τ=.ok (.int (n:Nat))) (hk:k < 1000000) (hn:n < 1000000):yIt Ψ (.rng2 a b) τ=.ok ((List.range (n - k)).map fun t=>.int ((k + t:Nat):Int)):=by
 rw [xT,h0,Ou.aa,h,Ou.aa]
 have e:((n:Int) - (k:Int)).toNat=n - k:=by omega
 simp only [Gs]
 rw [if_pos (by omega),e]
 unfold rangeT
 congr 1
theorem Jx {Ψ:FnT} {τ:ao} {v a b n i j:Nat} {g:Nat→Nat→Int} (hv:aH τ v=.ok (gz n g)) (ha:aH τ a=.ok (.int (i:Nat))) (hb:aH τ b=.ok (.int (j:Nat))) (hi:i < n) (hj:j < n):yE Ψ (.ix (.ix (.var v) (.var a)) (.var b)) τ=.ok (.int (g i j)):=
 eI (eI (ab hv) (ab ha) (ez hi)) (ab hb) (ez hj)
theorem DS {n k:Nat} {g:Nat→Nat→Int} (hn:n≤7) (hk:k < n):(∃ p,k≤p∧p < n∧g p k ≠ 0∧eG [gz n g,.int (k:Nat)]=.ok (.int (p:Nat)))∨((∀ p,k≤p→p < n→g p k=0)∧eG [gz n g,.int (k:Nat)]=.ok .non):=by
 rw [oG,cR]
 have it:∀ r,yIt bS (.rng2 (.var 1) (.bi .len [(.var 0)])) [some (gz n g),some (.int (k:Nat)),r]=.ok ((List.range (n - k)).map fun t=>.int ((k + t:Nat):Int)):=fun r=>Gi (ab rfl) (bi1 (fZ n fun i=>vec n (g i)) (ab rfl)) (by omega) (by omega)
 have lp:∀ (N:Nat) (ts:List Nat) (r:Option T),(∀ t ∈ ts,k + t < n)→(∃ p,k≤p∧p < n∧g p k ≠ 0∧bN (bA bS dC ⟨dI,[],0⟩ N (.nm 2) [.ite (.cmp .ne (.ix (.ix (.var 0) (.var 2)) (.var 1)) (.cI 0)) [.ret (.var 2)] []]) (ts.map fun t=>.int ((k + t:Nat):Int)) [some (gz n g),some (.int (k:Nat)),r] []=.ok (.rt (.int (p:Nat))))∨((∀ t ∈ ts,g (k + t) k=0)∧∃ r',bN (bA bS dC ⟨dI,[],0⟩ N (.nm 2) [.ite (.cmp .ne (.ix (.ix (.var 0) (.var 2)) (.var 1)) (.cI 0)) [.ret (.var 2)] []]) (ts.map fun t=>.int ((k + t:Nat):Int)) [some (gz n g),some (.int (k:Nat)),r] []=.ok (.nx [some (gz n g),some (.int (k:Nat)),r'] [])):=by
   intro N ts
   induction ts with
   | nil=>exact fun r _=>.inr ⟨fun t h=>(by cases h),r,by rw [List.map_nil,dH]⟩
   | cons t ts ih=>
     intro r ht
     have h1:=ht t (List.mem_cons_self ..)
     have c:yE bS (.cmp .ne (.ix (.ix (.var 0) (.var 2)) (.var 1)) (.cI 0)) [some (gz n g),some (.int (k:Nat)),some (.int ((k + t:Nat):Int))]=.ok (.bl (!decide (g (k + t) k=0))):=dJ (Jx rfl rfl rfl h1 hk) aI (dD _ _)
     by_cases z:g (k + t) k=0
     · rw [decide_eq_true z] at c
       have tn:bA bS dC ⟨dI,[],0⟩ N (.nm 2) [.ite (.cmp .ne (.ix (.ix (.var 0) (.var 2)) (.var 1)) (.cI 0)) [.ret (.var 2)] []] (.int ((k + t:Nat):Int)) [some (gz n g),some (.int (k:Nat)),r] []=.ok (.nx [some (gz n g),some (.int (k:Nat)),some (.int ((k + t:Nat):Int))] []):=cu rfl rfl (step (skip (own':=[]) c rfl) (ax ..))
       rcases ih (some (.int ((k + t:Nat):Int))) fun u hu=>ht u (List.mem_cons_of_mem _ hu) with ⟨p,a1,a2,a3,e⟩ | ⟨a,r',e⟩
       · exact .inl ⟨p,a1,a2,a3,by rw [List.map_cons,bu,tn,Ou.aa,cU,e]⟩
       · refine .inr ⟨fun u hu=>?_,r',by rw [List.map_cons,bu,tn,Ou.aa,cU,e]⟩
         rcases List.mem_cons.mp hu with rfl | hu
         · exact z
         · exact a u hu
     · rw [decide_eq_false z] at c
       have tn:bA bS dC ⟨dI,[],0⟩ N (.nm 2) [.ite (.cmp .ne (.ix (.ix (.var 0) (.var 2)) (.var 1)) (.cI 0)) [.ret (.var 2)] []] (.int ((k + t:Nat):Int)) [some (gz n g),some (.int (k:Nat)),r] []=.ok (.rt (.int ((k + t:Nat):Int))):=cu rfl rfl (rq ((jU (own':=[]) c rfl).trans ((if_pos rfl).trans (bz (ab rfl)))))
       exact .inl ⟨k + t,by omega,h1,z,by rw [List.map_cons,bu,tn,Ou.aa,yB]⟩
 rcases lp (aR [gz n g,.int (k:Nat)]) (List.range (n - k)) none fun t ht=>by have:=List.mem_range.mp ht; omega with ⟨p,a1,a2,a3,e⟩ | ⟨a,r',e⟩
 · exact .inl ⟨p,a1,a2,a3,congrArg (bI _) (rq (gC (own':=[]) (it _) rfl e))⟩
 · refine .inr ⟨fun p h1 h2=>?_,congrArg (bI _) (step (gC (own':=[]) (it _) rfl e) (bz (OQ ..)))⟩
   have:=a (p - k) (List.mem_range.mpr (by omega))
   rwa [show k + (p - k)=p by omega] at this
theorem y9 {n k b:Nat} {r p e:Nat→Int} {last:Int} (hn:n≤7) (hk:k < n) (hr:∀ j < n,(r j).natAbs≤2 ^ b) (hp:∀ j < n,(p j).natAbs≤2 ^ b) (hb:b≤400000) (l0:last ≠ 0) (lb:last.natAbs < big) (he:∀ j < n,r j * p k - p j * r k=last * e j):kS [vec n r,vec n p,.int (k:Nat),.int last]=.ok (vec n e):=by
 rw [uR,fG]
 refine bU (step (bW (eI (ab rfl) (ab rfl) (ez hk)) rfl rfl) (step (bW (eI (ab rfl) (ab rfl) (ez hk)) rfl rfl) (bz (dP (Ew (n:=n) (F:=fun j=>.int (r j)) (H:=fun j=>.int (p j)) (ab rfl) (ab rfl)) (by rw [List.length_map,List.length_range]; exact dY hn) (cO _ fun j hj=>?_)))))
 have hj:=List.mem_range.mp hj
 refine fW rfl (aO (aO (aO (ab rfl) (ab rfl) (mo (hr j hj) (hp k hk) (by omega) (by omega))) (aO (ab rfl) (ab rfl) (mo (hp j hj) (hr k hk) (by omega) (by omega))) rfl) (ab rfl) ?_)
 rw [FQ l0 lb,he j hj,Int.mul_fdiv_cancel_left _ l0]
theorem Gp {n k p:Nat} {F:Nat→T} (hk:k≤p) (hp:p < n):(((List.range n).map F).eraseIdx p).insertIdx k (F p)=(List.range n).map fun i=>F (rho k (p - k) i):=by
 apply List.ext_getElem
 · have le:(((List.range n).map F).eraseIdx p).length=n - 1:=by rw [List.length_eraseIdx,List.length_map,List.length_range,if_pos hp]
   rw [List.length_insertIdx_of_le_length (by omega),le,List.length_map,List.length_range]
   omega
 · intro i h1 h2
   have hi:i < n:=by simpa using h2
   rw [List.getElem_insertIdx]
   simp only [List.getElem_eraseIdx,List.getElem_map,List.getElem_range]
   unfold rho
   by_cases a:i < k
   · rw [dif_pos a,dif_pos (by omega),if_pos a]
   · rw [dif_neg a,if_neg a]
     by_cases c:i=k
     · rw [dif_pos c,if_pos c]
       congr 1
       omega
     · rw [dif_neg c,if_neg c]
       by_cases d:i≤p
       · rw [dif_pos (by omega),if_pos (by omega)]
       · rw [dif_neg (by omega),if_neg (by omega)]
         congr 1
         omega
end K09
namespace K09
open PySem PySem.Spec L2 Sv
open Ev (D aL aT ag)
section
variable {Ψ ΨM:FnT} {X:Fx} {N v:Nat} {τ:ao} {e i:E} {own own' own2:Own}
theorem M3 {n p:Nat} {F:Nat→T} {z:T} (ho:dn (gP X.μ e i) own=own') (hl:0 < cJ own' v) (h2:dn (fun k lv=>k == v && lv == 2) own'=own2) (he:yE Ψ e τ=.ok z) (hv:aH τ v=.ok (line n F)) (hi:yE Ψ i τ=.ok (.int (p:Nat))) (hp:p < n):yS Ψ ΨM X N (.put (.var v) i e) τ own=.ok (.nx (τ.set v (some (line n fun k=>if k=p then z else F k))) own2):=by
 rw [J5,he,Ou.aa,hv,show hU (.ok (line n F))=some ((List.range n).map F) from rfl,bT,hi,Ou.aa,ho,DB,show intOf (.int (p:Nat))=some ((p:Nat):Int) from rfl,bT,List.length_map,List.length_range,EL hp,bT,if_pos hl,h2,Bq]
 rfl
theorem L5 {n k p:Nat} {F:Nat→T} {a b:E} (ho:dn (gUL X.μ 0 [a,b]) own=own') (hl:0 < cJ own' v) (h2:dn (fun k lv=>k == v && lv == 2) own'=own2) (hv:aH τ v=.ok (line n F)) (ha:yE Ψ a τ=.ok (.int (k:Nat))) (hb:yE Ψ b τ=.ok (.int (p:Nat))) (hk:k≤p) (hp:p < n) (hn:n≤7):yS Ψ ΨM X N (.mth .rot (.var v) [a,b]) τ own=.ok (.nx (τ.set v (some (line n fun i=>F (rho k (p - k) i)))) own2):=by
 have z:zM .rot ((List.range n).map F) [.int (k:Nat),.int (p:Nat)]=some ((List.range n).map fun i=>F (rho k (p - k) i)):=by
   have c:((List.range n).map F).length < ag∧(0:Int)≤((k:Nat):Int)∧(((k:Nat):Int)).toNat < ((List.range n).map F).length∧(0:Int)≤((p:Nat):Int)∧(((p:Nat):Int)).toNat < ((List.range n).map F).length:=by
     rw [List.length_map,List.length_range]
     exact ⟨dY hn,by omega,by omega,by omega,by omega⟩
   rw [zM.eq_def]
   simp only
   rw [if_pos c,Int.toNat_natCast,Int.toNat_natCast,List.getElem?_map,List.getElem?_range hp]
   exact congrArg some (Gp hk hp)
 rw [HS,hv,show hU (.ok (line n F))=some ((List.range n).map F) from rfl,bT,ho,if_pos hl,ah,ha,Ou.aa,ah,hb,Ou.aa,aw,Ou.aa,Ou.aa,Ou.aa,wG,z,bT,h2]
 rfl
end
noncomputable def Aq:List S:=[.put (.var 1) (.var 7) (.call 24 [(.ix (.var 1) (.var 7)),(.ix (.var 1) (.var 5)),(.var 5),(.var 4)])]
noncomputable def Aw:List S:=[.set (.nm 6) (.call 23 [(.var 1),(.var 5)]),.ite (.isN false (.var 6)) [.ret (.cI 0)] [],.ite (.cmp .eq (.op .mod (.op .sub (.var 6) (.var 5)) (.cI 2)) (.cI 1)) [.set (.nm 3) (.neg (.var 3))] [],.mth .rot (.var 1) [(.var 5),(.var 6)],.for (.nm 7) (.rng2 (.op .add (.var 5) (.cI 1)) (.var 2)) Aq,.set (.nm 4) (.ix (.ix (.var 1) (.var 5)) (.var 5))]
noncomputable def dw (n:Nat) (r0:Option T) (g:Nat→Nat→Int) (s l:Int) (r5 r6 r7:Option T):ao:=[r0,some (gz n g),some (.int (n:Nat)),some (.int s),some (.int l),r5,r6,r7]
section
variable {n b k:Nat} {r0:Option T}
theorem GC {Y:Nat→Nat→Rat} {i j:Nat} (hn:n≤7) (hY:∀ i < n,∀ j < n,ZB b (Y i j)) (hk:k < n) (hi:i < n) (hj:j < n):ZB (n * (b + 3)) (bm Y k i j):=by
 refine (E4 (n:=k + 1) (by omega) fun r hr c hc=>hY _ ?_ _ ?_).mono (Nat.mul_le_mul_right _ hk)
 · split <;> omega
 · split <;> omega
theorem zY {N:Nat} {Y:Nat→Nat→Rat} {g:Nat→Nat→Int} {s l:Int} {r6 r7:Option T} (hn:n≤7) (hk:k < n) (hY:∀ i < n,∀ j < n,ZB b (Y i j)) (hb:n * (b + 3)≤400000) (hl:(l:Rat)=det k Y) (l0:l ≠ 0) (lb:k + 1 < n→l.natAbs < big) (hg:∀ i,k≤i→i < n→∀ j < n,(g i j:Rat)=bm Y k i j) :
   ∃ τ',bN (bA aj aC ⟨ay,[1],0⟩ N (.nm 7) Aq) ((List.range (n - (k + 1))).map fun t=>.int ((k + 1 + t:Nat):Int)) (dw n r0 g s l (some (.int (k:Nat))) r6 r7) [(1,1)]=.ok (.nx τ' [(1,1)])∧∃ g':Nat→Nat→Int,∃ r7,τ'=dw n r0 g' s l (some (.int (k:Nat))) r6 r7∧g' k=g k∧∀ i,k < i→i < n→∀ j < n,(g' i j:Rat)=bm Y (k + 1) i j:=by
 let e:Nat→Nat→Int:=fun i j=>(bm Y (k + 1) i j).num
 let G:Nat→Nat→Nat→Int:=fun t i=>if k < i∧i < k + 1 + t then e i else g i
 have lr:((l:Int):Rat) ≠ 0:=fun z=>l0 (Rat.intCast_inj.mp (show (l:Rat)=((0:Int):Rat) from z))
 have gb:∀ i,k≤i→i < n→∀ j < n,(g i j).natAbs≤2 ^ (n * (b + 3)):=fun i h1 h2 j hj=>by
   obtain ⟨q1,q2⟩:=(GC hn hY hk h2 hj).num
   have:g i j=(bm Y k i j).num:=Rat.intCast_inj.mp (by rw [hg i h1 h2 j hj]; exact q1)
   rw [this]
   exact q2
 have ll:∀ (ts:List Nat) (t0:Nat) (r7:Option T),(∃ m,ts=List.range' t0 m∧k + 1 + t0 + m=n)→∃ r7',bN (bA aj aC ⟨ay,[1],0⟩ N (.nm 7) Aq) (ts.map fun t=>.int ((k + 1 + t:Nat):Int)) (dw n r0 (G t0) s l (some (.int (k:Nat))) r6 r7) [(1,1)]=.ok (.nx (dw n r0 (G (t0 + ts.length)) s l (some (.int (k:Nat))) r6 r7') [(1,1)]):=by
   intro ts
   induction ts with
   | nil=>exact fun t0 r7 _=>⟨r7,by rw [List.map_nil,dH]; rfl⟩
   | cons t ts ih=>
     rintro t0 r7 ⟨m,hm,hs⟩
     cases m with
     | zero=>cases hm
     | succ m=>
       rw [List.range'_succ] at hm
       injection hm with hm1 hm2
       subst hm1
       have hi:k + 1 + t < n:=by omega
       obtain ⟨r7',e1⟩:=ih (t + 1) (some (.int ((k + 1 + t:Nat):Int))) ⟨m,hm2,by omega⟩
       have gi:G t (k + 1 + t)=g (k + 1 + t):=by simp only [G]; rw [if_neg (by omega)]
       have gk:G t k=g k:=by simp only [G]; rw [if_neg (by omega)]
       have ge:(fun i=>if i=k + 1 + t then e (k + 1 + t) else G t i)=G (t + 1):=by
         funext i
         simp only [G]
         by_cases z:i=k + 1 + t
         · subst z
           rw [if_pos rfl,if_pos (by omega)]
         · rw [if_neg z]
           by_cases y:k < i∧i < k + 1 + t
           · rw [if_pos y,if_pos (by omega)]
           · rw [if_neg y,if_neg (by omega)]
       have cl:kS [vec n (g (k + 1 + t)),vec n (g k),.int (k:Nat),.int l]=.ok (vec n (e (k + 1 + t))):=y9 hn hk (gb _ (by omega) hi) (gb k (Nat.le_refl _) hk) hb l0 (lb (by omega)) fun j hj=>by
         refine Rat.intCast_inj.mp ?_
         have st:=GU (Y:=Y) (k:=k) (i:=k + 1 + t) (j:=j) (by rw [← hl]; exact lr)
         obtain ⟨q1,_⟩:=(GC (k:=k + 1) hn hY (by omega) hi hj).num
         rw [Rat.intCast_sub,Rat.intCast_mul,Rat.intCast_mul,Rat.intCast_mul,hg _ (by omega) hi j hj,hg k (Nat.le_refl _) hk k hk,hg k (Nat.le_refl _) hk j hj,hg _ (by omega) hi k hk,hl]
         show _=_ * ((bm Y (k + 1) (k + 1 + t) j).num:Rat)
         rw [← q1,st]
         grind
       have tn:bA aj aC ⟨ay,[1],0⟩ N (.nm 7) Aq (.int ((k + 1 + t:Nat):Int)) (dw n r0 (G t) s l (some (.int (k:Nat))) r6 r7) [(1,1)]=.ok (.nx (dw n r0 (G (t + 1)) s l (some (.int (k:Nat))) r6 (some (.int ((k + 1 + t:Nat):Int)))) [(1,1)]):=by
         have pu:yS aj aC ⟨ay,[1],0⟩ N (.put (.var 1) (.var 7) (.call 24 [(.ix (.var 1) (.var 7)),(.ix (.var 1) (.var 5)),(.var 5),(.var 4)])) (dw n r0 (G t) s l (some (.int (k:Nat))) r6 (some (.int ((k + 1 + t:Nat):Int)))) [(1,1)]=.ok (.nx _ [(1,1)]):=
           M3 (own':=[(1,1)]) (F:=fun i=>vec n (G t i)) (z:=vec n (e (k + 1 + t))) rfl (by decide) rfl (Fj (Ψ:=aj) (f:=24) cl ((eI (ab rfl) (ab rfl) (ez hi)).trans (by rw [gi])) ((eI (ab rfl) (ab rfl) (ez hk)).trans (by rw [gk])) (ab rfl) (ab rfl)) rfl (ab rfl) hi
         refine cu rfl rfl (step pu ((ax ..).trans ?_))
         rw [← ge]
         congr 2
         show [r0,some _,some _,some _,some _,some _,r6,some _]=dw n r0 _ s l _ r6 _
         unfold dw gz
         congr 2
         refine congrArg some (eM fun i _=>?_)
         by_cases z:i=k + 1 + t
         · simp only [if_pos z]
         · simp only [if_neg z]
       refine ⟨r7',?_⟩
       rw [List.map_cons,bu,tn,Ou.aa,cU,e1,List.length_cons,show t + 1 + ts.length=t + (ts.length + 1) by omega]
 have g0:G 0=g:=by
   funext i
   simp only [G]
   rw [if_neg (by omega)]
 obtain ⟨r7',e1⟩:=ll (List.range (n - (k + 1))) 0 r7 ⟨n - (k + 1),List.range_eq_range',by omega⟩
 rw [g0,Nat.zero_add,List.length_range] at e1
 refine ⟨_,e1,G (n - (k + 1)),r7',rfl,?_,fun i h1 h2 j hj=>?_⟩
 · simp only [G]
   rw [if_neg (by omega)]
 · obtain ⟨q1,_⟩:=(GC (k:=k + 1) hn hY (by omega) h2 hj).num
   simp only [G]
   rw [if_pos (by omega)]
   exact q1.symm
end
end K09
namespace K09
open PySem PySem.Spec L2 Sv
open Ev (D aL aT ag)
structure Iv (n b k:Nat) (Z:Nat→Nat→Rat) (g:Nat→Nat→Int) (s l:Int) (Y:Nat→Nat→Rat):Prop where
 dt:(s:Rat) * det n Y=det n Z
 sg:s=1∨s=-1
 ls:(l:Rat)=det k Y
 l0:l ≠ 0
 gr:∀ i,k≤i→i < n→∀ j < n,(g i j:Rat)=bm Y k i j
 yz:∀ i < n,∀ j < n,ZB b (Y i j)
theorem Gz {Ψ:FnT} {τ:ao} {e:E} {x:T} (he:yE Ψ e τ=.ok x):yE Ψ (.isN false e) τ=.ok (.bl (Jp x)):=by
 rw [MU,he,Ou.aa,Bool.false_xor]
section
variable {n b k:Nat} {r0:Option T} {Z:Nat→Nat→Rat} {g:Nat→Nat→Int} {s l:Int} {Y:Nat→Nat→Rat}
theorem Kx {m p:Nat} (hk:k≤p):k≤rho k m p:=by
 unfold rho
 split
 · omega
 · split
   · omega
   · split <;> omega
theorem D8 {m p:Nat} (hm:k + m < n) (hp:p < n):rho k m p < n:=by
 unfold rho
 split
 · omega
 · split
   · omega
   · split <;> omega
theorem Iv.rot (h:Iv n b k Z g s l Y) {m:Nat} (hm:k + m < n):Iv n b k Z (fun i=>g (rho k m i)) (if m % 2=1 then -s else s) l fun r=>Y (rho k m r):=by
 refine ⟨?_,?_,by rw [CP]; exact h.ls,h.l0,fun i h1 h2 j hj=>?_,fun i hi j hj=>h.yz _ (D8 hm hi) j hj⟩
 · rw [Bh m Y hm,← h.dt]
   unfold sgn
   by_cases q:m % 2=1
   · rw [if_pos q,if_neg (by omega),Rat.intCast_neg]
     grind
   · rw [if_neg q,if_pos (by omega),Rat.one_mul]
 · have:=h.sg
   split <;> omega
 · rw [Kl]
   exact h.gr _ (Kx h1) (D8 hm h2) j hj
theorem Hf {N:Nat} {r5 r6 r7:Option T} (hn:n≤7) (hk:k < n) (hb:n * (b + 3)≤400000) (hd:(n - 2) * (b + 3)≤8900) (h:Iv n b k Z g s l Y) :
   (∃ τ',bA aj aC ⟨ay,[1],0⟩ N (.nm 5) Aw (.int (k:Nat)) (dw n r0 g s l r5 r6 r7) [(1,1)]=.ok (.nx τ' [(1,1)])∧∃ g s l r5 r6 r7 Y,τ'=dw n r0 g s l r5 r6 r7∧Iv n b (k + 1) Z g s l Y)∨(∃ d,bA aj aC ⟨ay,[1],0⟩ N (.nm 5) Aw (.int (k:Nat)) (dw n r0 g s l r5 r6 r7) [(1,1)]=.ok (.rt d)∧d=.int 0∧det n Z=0):=by
 have d0:det k Y ≠ 0:=fun z=>h.l0 (Rat.intCast_inj.mp (show (l:Rat)=((0:Int):Rat) from h.ls.trans z))
 have pv:=DS (g:=g) hn hk
 rw [← fm] at pv
 rcases pv with ⟨p,h1,h2,h3,e⟩ | ⟨h1,e⟩
 · refine .inl ?_
   obtain ⟨m,rfl⟩:∃ m,p=k + m:=⟨p - k,by omega⟩
   have hr:=h.rot h2
   have lb:k + 1 < n→l.natAbs < big:=fun hk2=>by
     obtain ⟨q1,q2⟩:=(E4 (n:=k) (by omega) fun i hi j hj=>h.yz i (by omega) j (by omega)).num
     have:l=(det k Y).num:=Rat.intCast_inj.mp (by rw [h.ls]; exact q1)
     rw [this]
     exact dv q2 (Nat.le_trans (Nat.mul_le_mul_right _ (show k≤n - 2 by omega)) hd)
   obtain ⟨τ',e1,g',r7',rfl,hgk,hg'⟩:=zY (N:=N) (r0:=r0) (s:=if m % 2=1 then -s else s) (r6:=some (.int ((k + m:Nat):Int))) (r7:=r7) hn hk hr.yz hb hr.ls hr.l0 lb hr.gr
   have sg1:yS aj aC ⟨ay,[1],0⟩ N (.ite (.cmp .eq (.op .mod (.op .sub (.var 6) (.var 5)) (.cI 2)) (.cI 1)) [.set (.nm 3) (.neg (.var 3))] []) (dw n r0 g s l (some (.int (k:Nat))) (some (.int ((k + m:Nat):Int))) r7) [(1,1)]=.ok (.nx (dw n r0 g (if m % 2=1 then -s else s) l (some (.int (k:Nat))) (some (.int ((k + m:Nat):Int))) r7) [(1,1)]):=by
     have c:yE aj (.cmp .eq (.op .mod (.op .sub (.var 6) (.var 5)) (.cI 2)) (.cI 1)) (dw n r0 g s l (some (.int (k:Nat))) (some (.int ((k + m:Nat):Int))) r7)=.ok (.bl (decide (m % 2=1))):=by
       have a6:yE aj (.var 6) (dw n r0 g s l (some (.int (k:Nat))) (some (.int ((k + m:Nat):Int))) r7)=.ok (.int ((k + m:Nat):Int)):=ab rfl
       have a5:yE aj (.var 5) (dw n r0 g s l (some (.int (k:Nat))) (some (.int ((k + m:Nat):Int))) r7)=.ok (.int ((k:Nat):Int)):=ab rfl
       have dd:decide ((((k + m:Nat):Int) - ((k:Nat):Int)) % 2=1)=decide (m % 2=1):=decide_eq_decide.mpr (by omega)
       rw [← dd]
       exact dJ (aO (aO a6 a5 (E5 _ _)) aI (mJ _ 2)) aI (ck _ _)
     by_cases q:m % 2=1
     · rw [decide_eq_true q] at c
       rw [if_pos q]
       exact (jU (own':=[(1,1)]) c rfl).trans ((if_pos rfl).trans (step (dR (own':=[(1,1)]) (x:=.int (-s)) rfl (by rw [zz,ab rfl,Ou.aa,yR]) rfl rfl) (ax ..)))
     · rw [decide_eq_false q] at c
       rw [if_neg q]
       exact skip c rfl
   have rt:yS aj aC ⟨ay,[1],0⟩ N (.mth .rot (.var 1) [(.var 5),(.var 6)]) (dw n r0 g (if m % 2=1 then -s else s) l (some (.int (k:Nat))) (some (.int ((k + m:Nat):Int))) r7) [(1,1)]=.ok (.nx (dw n r0 (fun i=>g (rho k m i)) (if m % 2=1 then -s else s) l (some (.int (k:Nat))) (some (.int ((k + m:Nat):Int))) r7) [(1,1)]):=by
     refine (L5 (own':=[(1,1)]) (own2:=[(1,1)]) (F:=fun i=>vec n (g i)) (k:=k) (p:=k + m) rfl (by decide) rfl rfl (ab rfl) (ab rfl) (by omega) h2 hn).trans ?_
     rw [show k + m - k=m by omega]
     rfl
   have gkk:g' k k=g (k + m) k:=by
     rw [hgk]
     show g (rho k m k) k=_
     have:rho k m k=k + m:=by unfold rho; rw [if_neg (Nat.lt_irrefl _),if_pos rfl]
     rw [this]
   refine ⟨_,cu rfl rfl (step (dR (own':=[(1,1)]) rfl (call2 e (ab rfl) (ab rfl)) rfl rfl) (step (skip (own':=[(1,1)]) (Gz (x:=.int ((k + m:Nat):Int)) (ab rfl)) rfl) (step sg1 (step rt (step (gC (own':=[(1,1)]) (Gi (k:=k + 1) (n:=n) (aO (ab rfl) aI rfl) (ab rfl) (by omega) (by omega)) rfl e1) (step (dR (own':=[(1,1)]) rfl (Jx (n:=n) (g:=g') rfl rfl rfl hk hk) rfl rfl) (ax ..))))))),g',_,g' k k,some (.int (k:Nat)),some (.int ((k + m:Nat):Int)),r7',fun r=>Y (rho k m r),rfl,hr.dt,hr.sg,?_,?_,fun i a1 a2 j hj=>hg' i a1 a2 j hj,hr.yz⟩
   · rw [hgk,hr.gr k (Nat.le_refl _) hk k hk,HD]
   · rw [gkk]
     exact h3
 · refine .inr ⟨.int 0,cu rfl rfl (step (dR (own':=[(1,1)]) rfl (call2 e (ab rfl) (ab rfl)) rfl rfl) (rq ((jU (own':=[(1,1)]) (Gz (ab rfl)) rfl).trans ((if_pos rfl).trans (bz aI))))),rfl,?_⟩
   have z:=Hm (n:=n) d0 hk fun p a1 a2=>by
     rw [← h.gr p a1 a2 k hk,h1 p a1 a2]
     rfl
   rw [← h.dt,z,Rat.mul_zero]
end
theorem Hw {n b:Nat} {z:Nat→Nat→Int} (hn:1≤n∧n≤7) (hz:∀ i < n,∀ j < n,(z i j).natAbs≤2 ^ b) (hb:n * (b + 3)≤400000) (hd:(n - 2) * (b + 3)≤8900):∃ d:Int,(d:Rat)=det n (fun i j=>(z i j:Rat))∧cK [gz n z]=.ok (.int d):=by
 rw [jy,show bq=[.set (.nm 1) (.bi .list [(.var 0)]),.set (.nm 2) (.bi .len [(.var 0)]),.set (.nm 3) (.cI 1),.set (.nm 4) (.cI 1),.for (.nm 5) (.rng (.var 2)) Aw,.ret (.op .mul (.var 3) (.var 4))] from rfl]
 have i0:Iv n b 0 (fun i j=>(z i j:Rat)) z 1 1 fun i j=>(z i j:Rat):=by
   refine ⟨Rat.one_mul _,.inl rfl,rfl,by decide,fun i _ _ j _=>?_,fun i hi j hj=>⟨z i j,rfl,hz i hi j hj⟩⟩
   unfold bm
   rw [pY]
   dsimp only
   rw [if_neg (Nat.lt_irrefl _),if_neg (Nat.lt_irrefl _)]
 have ow:∀ τ:ao,τ.length=8→fF ⟨ay,[1],0⟩ (dn (gU ay 0 (.bi .list [(.var 0)])) []) (.nm 1) (.bi .list [(.var 0)]) (gz n z) τ=[(1,1)]:=fun τ hτ=>by
   have l:1≤lvT (gz n z):=by
     show 1≤(if _ then 2 else 1)
     split <;> decide
   have m1:min 1 (lvT (gz n z))=1:=by omega
   match τ,hτ with
   | [a0,a1,a2,a3,a4,a5,a6,a7],_=>
     unfold fF
     simp only [CY,m1]
     rfl
 rcases Jb (own:=[(1,1)]) (n:=n) (f:=bA aj aC ⟨ay,[1],0⟩ (aR [gz n z]) (.nm 5) Aw) (fun k τ=>∃ g s l r5 r6 r7 Y,τ=dw n (some (gz n z)) g s l r5 r6 r7∧Iv n b k (fun i j=>(z i j:Rat)) g s l Y) (fun d=>d=.int 0∧det n (fun i j=>(z i j:Rat))=0) (by
   rintro k hk τ ⟨g,s,l,r5,r6,r7,Y,rfl,h⟩
   exact Hf hn.2 hk hb hd h) (τ:=dw n (some (gz n z)) z 1 1 none none none) ⟨z,1,1,none,none,none,_,rfl,i0⟩ with ⟨τ',e,g,s,l,r5,r6,r7,Y,rfl,h⟩ | ⟨d,e,rfl,h0⟩
 · have lz:l.natAbs≤2 ^ 400000:=by
     obtain ⟨q1,q2⟩:=(E4 (n:=n) (by omega) h.yz).num
     have:l=(det n Y).num:=Rat.intCast_inj.mp (by rw [h.ls]; exact q1)
     rw [this]
     exact Nat.le_trans q2 (Nat.pow_le_pow_right (by decide) hb)
   refine ⟨s * l,by rw [Rat.intCast_mul,h.ls,h.dt],bU (step (dR (own':=[(1,1)]) rfl (bi1 (x:=gz n z) rfl (ab rfl)) rfl (ow _ rfl)) (step (dR (own':=[(1,1)]) rfl (bi1 (fZ n fun i=>vec n (z i)) (ab rfl)) rfl rfl) (step (dR (own':=[(1,1)]) rfl aI rfl rfl) (step (dR (own':=[(1,1)]) rfl aI rfl rfl) (step (gC (own':=[(1,1)]) (iu (n:=n) (ab rfl) (by omega)) rfl e) (bz (aO (ab rfl) (ab rfl) (mo (a:=1) ?_ lz (by decide) (by decide)))))))))⟩
   rcases h.sg with rfl | rfl <;> decide
 · exact ⟨0,by rw [h0]; rfl,bU (step (dR (own':=[(1,1)]) rfl (bi1 (x:=gz n z) rfl (ab rfl)) rfl (ow _ rfl)) (step (dR (own':=[(1,1)]) rfl (bi1 (fZ n fun i=>vec n (z i)) (ab rfl)) rfl rfl) (step (dR (own':=[(1,1)]) rfl aI rfl rfl) (step (dR (own':=[(1,1)]) rfl aI rfl rfl) (rq (gC (own':=[(1,1)]) (iu (n:=n) (ab rfl) (by omega)) rfl e))))))⟩
end K09
namespace K09
open PySem PySem.Spec L2 Sv
open Ev (D aL aT ag)
noncomputable def e8 (s:Nat→Int):Nat→Int
 | 0=>1
 | n + 1=>e8 s n * s n
theorem qf (s:Nat→Int):∀ n,(e8 s n:Rat)=qh (fun i=>(s i:Rat)) n
 | 0=>rfl
 | n + 1=>by rw [e8,qh,Rat.intCast_mul,qf s n]
theorem lj {s:Nat→Int}:∀ {n:Nat},(∀ i < n,0 < s i)→0 < e8 s n
 | 0,_=>show (0:Int) < 1 by decide
 | n + 1,h=>Int.mul_pos (lj fun i hi=>h i (by omega)) (h n (by omega))
theorem jd {s:Nat→Int} {c:Nat}:∀ {n:Nat},(∀ i < n,(s i).natAbs≤2 ^ c)→(e8 s n).natAbs≤2 ^ (n * c)
 | 0,_=>Nat.one_le_two_pow
 | n + 1,h=>by
   rw [e8,Int.natAbs_mul,Nat.succ_mul,Nat.pow_add]
   exact Nat.mul_le_mul (jd fun i hi=>h i (by omega)) (h n (by omega))
theorem GD {n c:Nat} {s:Nat→Int} (hs:∀ i < n,(s i).natAbs≤2 ^ c) (hc:n * c≤90000) (hc':c≤90000):ej [vec n s]=.ok (.int (e8 s n)):=by
 rw [lH]
 have lp:∀ (m k:Nat) (r:Option T),k + m=n→∃ r',bN (bA eo ef ⟨el,[],0⟩ (aR [vec n s]) (.nm 2) [.set (.nm 1) (.op .mul (.var 1) (.var 2))]) ((List.range' k m).map fun i=>.int (s i)) [some (vec n s),some (.int (e8 s k)),r] []=.ok (.nx [some (vec n s),some (.int (e8 s n)),r'] []):=by
   intro m
   induction m with
   | zero=>exact fun k r h=>⟨r,by rw [List.range'_zero,List.map_nil,dH,show k=n by omega]⟩
   | succ m ih=>
     intro k r h
     obtain ⟨r',e⟩:=ih (k + 1) (some (.int (s k))) (by omega)
     refine ⟨r',?_⟩
     have pl:=jd (n:=k) fun i hi=>hs i (by omega)
     have kc:k * c≤n * c:=Nat.mul_le_mul_right _ (by omega)
     have tn:bA eo ef ⟨el,[],0⟩ (aR [vec n s]) (.nm 2) [.set (.nm 1) (.op .mul (.var 1) (.var 2))] (.int (s k)) [some (vec n s),some (.int (e8 s k)),r] []=.ok (.nx [some (vec n s),some (.int (e8 s (k + 1))),some (.int (s k))] []):=cu rfl rfl (step (bW (aO (ab rfl) (ab rfl) (mo pl (hs k (by omega)) (by omega) (by omega))) rfl rfl) (ax ..))
     rw [List.range'_succ,List.map_cons,bu,tn,Ou.aa,cU,e]
 obtain ⟨r',e⟩:=lp n 0 none (by omega)
 rw [← List.range_eq_range'] at e
 exact bU (step (bW aI rfl rfl) (step (gC (own':=[]) (mG (n:=n) (ab rfl)) rfl e) (bz (ab rfl))))
structure Ask (n a b:Nat):Prop where
 n1:1≤n
 n7:n≤7
 ha:a≤9000
 hb:b≤8900
 hd:(n - 2) * (a + n * b + 3)≤8900
 hp:n * (n * b)≤8900
section
variable {n a b:Nat} {F:Nat→Nat→Rat}
theorem AB (h:Ask n a b) (hF:∀ i < n,∀ j < n,Sz a b (F i j)):cq [gq n n F]=.ok (fq (det n F)):=by
 have n7:=h.n7
 have ha:=h.ha
 have hp:=h.hp
 have nb:n * b≤8900:=Nat.le_trans (Nat.le_mul_of_pos_left _ h.n1) hp
 have sl:∀ i < n,(scl n (F i)).natAbs≤2 ^ (n * b):=fun i hi=>D2 fun k hk=>(hF i hi k hk).den
 have n9:n * (a + n * b + 3)≤400000:=Nat.le_trans (Nat.mul_le_mul n7 (show a + n * b + 3≤20000 by omega)) (by decide)
 obtain ⟨d,hd,e⟩:=Hw (b:=a + n * b) (z:=fun i j=>wr (F i) (scl n (F i)) j) ⟨h.n1,n7⟩ (fun i hi j hj=>JK (hF i hi j hj).num (sl i hi)) n9 h.hd
 have pp:0 < e8 (fun i=>scl n (F i)) n:=lj fun i _=>(uT n (F i)).1
 have key:(d:Rat)=det n F * ((e8 (fun i=>scl n (F i)) n:Int):Rat):=by
   rw [hd,qf,Rat.mul_comm,← kN (n:=n) _ F n (Nat.le_refl _)]
   exact bp fun i hi j hj=>by rw [if_pos hi,L6 ((uT n (F i)).2 j hj),Rat.mul_comm]
 have fr:aE 21 [.int d,.int (e8 (fun i=>scl n (F i)) n)]=.ok (fq (det n F)):=(OU pp (dv (jd sl) hp)).trans (congrArg Ou.ok (JM pp key))
 have wrs:=tw (s:=fun i=>scl n (F i)) n7 n7 hF sl (by omega) h.hb (by omega)
 rw [← fo] at wrs
 have e':aE 25 [line n fun j=>vec n (wr (F j) (scl n (F j)))]=.ok (.int d):=by rw [dS]; exact e
 have pa:=GD (s:=fun i=>scl n (F i)) sl (by omega) (by omega)
 rw [← eF] at pa
 have sco:∀ i < n,aE 22 [line n fun k=>fq (F i k)]=.ok (.int (scl n (F i))):=fun i hi=>by
   rw [gd]
   exact Dj n7 (fun k hk=>(hF i hi k hk).den) h.hb
 rw [jj,aZ]
 refine bU (step (own':=[]) (τ':=[some (gq n n F),none]) ?_ (step (bW (x:=vec n fun i=>scl n (F i)) (dP (mG (n:=n) (G:=fun i=>line n fun k=>fq (F i k)) (ab rfl)) (by rw [List.length_map,List.length_range]; exact dY n7) (cO _ fun i hi=>fW rfl (gg (sco i (List.mem_range.mp hi)) (ab rfl)))) rfl rfl) (bz (call2 fr (gg e' (call2 wrs (ab rfl) (ab rfl))) (gg pa (ab rfl))))))
 have ls:iZ [gq n n F]=.ok .non:=by
   rw [oi,cQ]
   refine (congrArg (bI _) (step (skip (own':=[]) (dJ (b:=false) (bi1 (fZ n fun i=>line n fun j=>fq (F i j)) (ab rfl)) (len0 h.n1 rfl) ?_) rfl) (ax ..))).trans rfl
   rw [dD,decide_eq_true rfl]
   rfl
 rw [pZ _ _ _ _ _ _ _ rfl,gg (Ψ:=aE) (f:=19) (e:=.var 0) (d:=gq n n F) ls (ab rfl),Ou.aa,bj]
theorem Mx (h:Ask n a b) (hF:∀ i < n,∀ j < n,Sz a b (F i j)):fS [gq n n F]=.ok (fq (det n F)):=by
 rw [nY,cM]
 refine bU (step (own':=[]) (τ':=[some (gq n n F)]) ?_ (bz (gg (Ψ:=fO) (f:=29) (AB h hF) (ab rfl))))
 rw [pZ _ _ _ _ _ _ _ rfl,gg (Ψ:=fO) (f:=18) (e:=.var 0) (d:=gq n n F) (Bx ⟨h.n1,h.n7⟩ ⟨h.n1,h.n7⟩) (ab rfl),Ou.aa,bj]
theorem LP (h:Ask n a b) (hF:∀ i < n,∀ j < n,Sz a b (F i j)):Sz 400000 8900 (det n F):=by
 have n7:=h.n7
 have ha:=h.ha
 have hp:=h.hp
 have nb:n * b≤8900:=Nat.le_trans (Nat.le_mul_of_pos_left _ h.n1) hp
 have sl:∀ i < n,(scl n (F i)).natAbs≤2 ^ (n * b):=fun i hi=>D2 fun k hk=>(hF i hi k hk).den
 have n9:n * (a + n * b + 3)≤400000:=Nat.le_trans (Nat.mul_le_mul n7 (show a + n * b + 3≤20000 by omega)) (by decide)
 have pp:0 < e8 (fun i=>scl n (F i)) n:=lj fun i _=>(uT n (F i)).1
 obtain ⟨d,hd,dl⟩:=E4 (n:=n) (b:=a + n * b) (M:=fun i j=>(wr (F i) (scl n (F i)) j:Rat)) (by omega) fun i hi j hj=>⟨_,rfl,JK (hF i hi j hj).num (sl i hi)⟩
 have key:(d:Rat)=det n F * ((e8 (fun i=>scl n (F i)) n:Int):Rat):=by
   rw [← hd,qf,Rat.mul_comm,← kN (n:=n) _ F n (Nat.le_refl _)]
   exact bp fun i hi j hj=>by rw [if_pos hi,L6 ((uT n (F i)).2 j hj),Rat.mul_comm]
 obtain ⟨q1,q2⟩:=y4 pp key
 refine ⟨by rw [q1]; exact Nat.le_trans (gu dl) (Nat.pow_le_pow_right (by decide) n9),?_⟩
 have:(((det n F).den:Nat):Int).natAbs≤2 ^ 8900:=by rw [q2]; exact Nat.le_trans (gu (jd sl)) (Nat.pow_le_pow_right (by decide) hp)
 rwa [Int.natAbs_natCast] at this
end
end K09
namespace K09
open PySem PySem.Spec L2 Sv
open Ev (D aL aT ag)
structure Up (m n:Nat) (f:Nat→Nat):Prop where
 up:∀ i j,i < j→j < m→f i < f j
 lt:∀ i < m,f i < n
noncomputable def pv (m:Nat) (f:Nat→Nat):T:=vec m fun i=>((f i:Nat):Int)
theorem Up.le {m n:Nat} {f:Nat→Nat} (h:Up m n f):m≤n:=by
 have:∀ i,i < m→i≤f i:=by
   intro i
   induction i with
   | zero=>exact fun _=>Nat.zero_le _
   | succ i ih=>
     intro hi
     have a:=ih (by omega)
     have b:=h.up i (i + 1) (by omega) hi
     omega
 cases m with
 | zero=>exact Nat.zero_le _
 | succ m=>
   have a:=this m (by omega)
   have b:=h.lt m (by omega)
   omega
theorem L0 (m:Nat) (f:Nat→Nat):pv m f=i4 ((List.range m).map f):=by
 unfold pv vec line i4
 rw [List.map_map]
 rfl
theorem Up.ch {m n:Nat} {f:Nat→Nat} (h:Up m n f) (hm:1≤m):Ch ((List.range m).map f) n:=by
 refine ⟨fun z=>?_,fun i j a b h1 h2 h3=>?_,fun a ha=>?_⟩
 · have:=congrArg List.length z
   rw [List.length_map,List.length_range] at this
   simp at this
   omega
 · rw [List.getElem?_map] at h1 h2
   obtain ⟨i',e1,rfl⟩:=Option.map_eq_some_iff.mp h1
   obtain ⟨j',e2,rfl⟩:=Option.map_eq_some_iff.mp h2
   obtain ⟨l1,rfl⟩:=List.getElem?_eq_some_iff.mp e1
   obtain ⟨l2,rfl⟩:=List.getElem?_eq_some_iff.mp e2
   rw [List.getElem_range,List.getElem_range]
   rw [List.length_range] at l2
   exact h.up i j h3 l2
 · obtain ⟨i,hi,rfl⟩:=List.mem_map.mp ha
   exact h.lt i (List.mem_range.mp hi)
theorem uj {m n:Nat} {f:Nat→Nat} (h:Up m n f) (hm:1≤m) (hn:n≤7):j9 [pv m f,.int (n:Nat)]=.ok (.bl true):=by
 have c:=h.ch hm
 have ri:iH 31 [i4 ((List.range m).map f)]=.ok (.bl true):=by
   rw [jW]
   exact BQ c hn
 rw [L0]
 exact B9 (Ψ:=iH) (wh:=13) (ri:=31) (OB rfl) c hn ri
theorem JG {Ψ:FnT} {e:E} {τ:ao} {m:Nat} {f:Nat→Nat} (h:yE Ψ e τ=.ok (pv m f)):yIt Ψ (.seq e) τ=.ok ((List.range m).map fun i=>.int ((f i:Nat):Int)):=mG h
section
variable {m n a b:Nat} {F:Nat→Nat→Rat} {f g:Nat→Nat}
theorem Cc {r:Nat→Rat} (hf:Up m n f) (hn:n≤7):qJ [line n fun j=>fq (r j),pv m f]=.ok (line m fun j=>fq (r (f j))):=by
 have:=hf.le
 rw [vQ,gZ]
 exact bU (bz (dP (JG (ab rfl)) (by rw [List.length_map,List.length_range]; exact dY (by omega)) (cO _ fun j hj=>fW rfl (eI (x:=line n fun j=>fq (r j)) (ab rfl) (ab rfl) (ez (hf.lt j (List.mem_range.mp hj)))))))
theorem BK (hf:Up m n f) (hg:Up m n g) (hn:n≤7):nL [gq n n F,pv m f,pv m g]=.ok (gq m m fun i j=>F (f i) (g j)):=by
 have:=hf.le
 rw [yj,gY]
 exact bU (bz (dP (JG (ab rfl)) (by rw [List.length_map,List.length_range]; exact dY (by omega)) (cO _ fun i hi=>fW rfl (call2 (Ψ:=qN) (Cc (r:=F (f i)) hg hn) (eI (x:=gq n n F) (ab rfl) (ab rfl) (ez (hf.lt i (List.mem_range.mp hi)))) (ab rfl)))))
theorem EV (hk:∀ m,1≤m→m≤n→Ask m a b) (hn:1≤n∧n≤7) (hm:1≤m) (hF:∀ i < n,∀ j < n,Sz a b (F i j)) (hf:Up m n f) (hg:Up m n g):p6 [gq n n F,pv m f,pv m g]=.ok (fq (det m fun i j=>F (f i) (g j))):=by
 have c1:=uj hf hm hn.2
 have c2:=uj hg hm hn.2
 rw [← i7] at c1 c2
 have lc:fj [pv m f,pv m g,.int (n:Nat),.int (n:Nat)]=.ok .non:=by
   rw [mT,cn]
   exact (congrArg (bI _) (step (skip (own':=[]) (iC (b:=true) (call2 c1 (ab rfl) (ab rfl))) rfl) (step (skip (own':=[]) (iC (b:=true) (call2 c2 (ab rfl) (ab rfl))) rfl) (ax ..)))).trans rfl
 have ch:=BK (F:=F) hf hg hn.2
 have sd:=AB (F:=fun i j=>F (f i) (g j)) (hk m hm hf.le) fun i hi j hj=>hF _ (hf.lt i hi) _ (hg.lt j hj)
 rw [← j2] at lc
 rw [← so] at ch
 rw [← iD] at sd
 rw [yX,jb]
 refine bU (step (own':=[]) (τ':=[some (gq n n F),some (pv m f),some (pv m g)]) ?_ (step (own':=[]) (τ':=[some (gq n n F),some (pv m f),some (pv m g)]) ?_ (bz (gg sd (v7 ch (ab rfl) (ab rfl) (ab rfl))))))
 · rw [pZ _ _ _ _ _ _ _ rfl,gg (Ψ:=kR) (f:=18) (e:=.var 0) (d:=gq n n F) (Bx hn hn) (ab rfl),Ou.aa,bj]
 · rw [pZ _ _ _ _ _ _ _ rfl,Fj (e1:=.var 1) (e2:=.var 2) lc (ab rfl) (ab rfl) (bi1 (fZ n fun i=>line n fun j=>fq (F i j)) (ab rfl)) (len0 hn.1 rfl),Ou.aa,bj]
end
end K09
namespace K09
open PySem PySem.Spec L2 Sv
open Ev (D aL aT ag)
theorem MV {x:Rat} {t b:Int} {c d:Nat} (h:Sz 400000 8900 x) (ht:t.natAbs≤2 ^ c) (hb:b.natAbs≤2 ^ d) (hc:c≤900000) (hd:d≤900000) (e:x.num * b=t * ((x.den:Nat):Int)):fQ [fq x,.int t,.int b]=.ok (.bl true):=by
 have lo:=JO x
 have g:((Int.gcd x.num ((x.den:Nat):Int):Nat):Int)=1:=by rw [lo.cop]; rfl
 rw [oo,cT]
 refine bU (step (skip (own':=[]) (rY (iC (b:=true) (Ls (ab rfl) rfl)) (rY (dJ (bi1 (g9 _) (ab rfl)) aI rfl) (rY (iC (gg (D5 _) (fr0 (ab rfl)))) (iC (gg (D5 _) (fr1 (ab rfl))))))) rfl) (step (skip (own':=[]) (rY (dJ (fr1 (ab rfl)) aI ?_) (dJ (call2 (Jz _ _) (fr0 (ab rfl)) (fr1 (ab rfl))) aI ?_)) rfl) (bz (dJ (aO (fr0 (ab rfl)) (ab rfl) (mo h.num hb (by decide) hd)) (aO (ab rfl) (fr1 (ab rfl)) (mo ht (Lw h) hc (by decide))) ?_))))
 · rw [gX,decide_eq_false (by have:=lo.pos; omega)]
 · rw [dD,g]; rfl
 · rw [ck,decide_eq_true e]
theorem Ee {Ψ:FnT} {τ:ao} {caps:List (Option Nat)} {t:Tg} {c elt:E} {x y:T} {τ1:ao} {b:Bool} (ht:aW t x (jw τ caps++[none])=some τ1) (hc:yE Ψ c τ1=.ok (.bl b)) (he:yE Ψ elt τ1=.ok y):hV Ψ τ caps t [c] elt x=.ok (if b then some y else none):=by
 rw [eX,ht]
 cases b <;> simp only [iU,Fp,hc,Ou.aa,hJ,i6,if_true,if_false,he,Bool.false_eq_true]
noncomputable def nl (l:List Nat):T:=.lst (l.map fun (k:Nat)=>.int (k:Int))
theorem Ax:∀ l:List Nat,rL (l.map fun (k:Nat)=>.int (k:Int))=some (l.map fun (k:Nat)=>(k:Int))
 | []=>rfl
 | k :: l=>by rw [List.map_cons,rL,Ax l]; rfl
theorem DM (j:Nat):∀ o:List Nat,(o.map fun (k:Nat)=>(k:Int)).any (· == (j:Int))=o.contains j
 | []=>rfl
 | k :: o=>by
   rw [List.map_cons,List.any_cons,List.contains_cons,DM j o]
   congr 1
   rw [Bool.eq_iff_iff,beq_iff_eq,beq_iff_eq]
   omega
theorem K8 {Ψ ΨM:FnT} {X:Fx} {N v:Nat} {τ:ao} {e:E} {own own' own2:Own} {xs ys:List T} (hf:1≤dm X.μ e) (hv:aH τ v=.ok (.lst xs)) (ho:dn (gUL X.μ 0 [e]) own=own') (hl:0 < cJ own' v) (he:yE Ψ e τ=.ok (.lst ys)) (hn:xs.length + ys.length < ag) (h2:dn (fun i lv=>i == v && lv == 2) own'=own2):yS Ψ ΨM X N (.mth .extend (.var v) [e]) τ own=.ok (.nx (τ.set v (some (.lst (xs++ys)))) own2):=by
 have ho:dn (fun k lv=>dz X.μ k lv 0 [e]) own=own':=ho
 rw [Me,Dt,if_pos hf,hv,show hU (.ok (.lst xs))=some xs from rfl,bT,ho,if_pos hl,ah,he,Ou.aa,aw,Ou.aa,Ou.aa,Na,if_pos hn,h2]
noncomputable def eC:E:=.comp [none,some 4] (.nm 0) (.rng (.var 0)) [(.cmp .nin (.var 0) (.var 1))] (.op .add (.var 1) (.lst [(.var 0)]))
section
variable {n:Nat}
theorem IS {o:List Nat} {r1 r2 r3:Option T} (hn:n≤5) (ho:o.length≤5):yE fJ eC [some (.int (n:Nat)),r1,r2,r3,some (nl o)]=.ok (.lst ((more n o).map nl)):=by
 unfold more eC
 rw [List.map_map]
 refine dP (iu (ab rfl) (by omega)) (by rw [List.length_map,List.length_range]; exact dY (by omega)) (xf (List.range n) (p:=fun j=>!o.contains j) (k:=fun j=>nl (o++[j])) fun j _=>Ee (τ1:=[some (.int (j:Nat)),some (nl o),none]) rfl (dJ (ab rfl) (ab rfl) ?_) (aO (y:=.lst [.int (j:Nat)]) (ab rfl) ?_ ?_))
 · show (rL _).map _=_
   rw [Ax,Option.map_some,DM]
 · rw [j5,ah,ab rfl,Ou.aa,aw,Ou.aa,Ou.aa,A5]
 · show (if _ then _ else _)=_
   rw [if_pos (by rw [List.length_map]; exact Nat.lt_of_le_of_lt (Nat.add_le_add_right ho 1) (by decide))]
   unfold nl
   rw [List.map_append]
   rfl
theorem yv (n:Nat) (o:List Nat):(more n o).length≤n:=by
 unfold more
 rw [List.length_map]
 exact Nat.le_trans (List.length_filter_le _ _) (by rw [List.length_range]; exact Nat.le_refl _)
theorem rK (n:Nat):∀ os:List (List Nat),(os.flatMap (more n)).length≤os.length * n
 | []=>Nat.zero_le _
 | o :: os=>by
   rw [List.flatMap_cons,List.length_append,List.length_cons,Nat.succ_mul]
   have:=yv n o
   have:=rK n os
   omega
theorem qY (hn:n≤5):∀ k,(fE n k).length≤5 ^ k
 | 0=>Nat.le_refl _
 | k + 1=>by
   rw [fE,Nat.pow_succ]
   exact Nat.le_trans (rK n _) (Nat.mul_le_mul (qY hn k) hn)
noncomputable def Jy:List S:=[.mth .extend (.var 3) [eC]]
noncomputable def JE:List S:=[.set (.nm 3) (.lst []),.for (.nm 4) (.seq (.var 1)) Jy,.set (.nm 1) (.var 3)]
theorem yf {N k:Nat} {r2 r3 r4:Option T} (hn:n≤5) (hk:k < n):∃ τ',bA fJ hW ⟨ig,[3],0⟩ N (.nm 2) JE (.int (k:Nat)) [some (.int (n:Nat)),some (.lst ((fE n k).map nl)),r2,r3,r4] []=.ok (.nx τ' [])∧∃ r2 r3 r4,τ'=[some (.int (n:Nat)),some (.lst ((fE n (k + 1)).map nl)),r2,r3,r4]:=by
 have lk:(fE n k).length≤625:=Nat.le_trans (qY hn k) (Nat.le_trans (Nat.pow_le_pow_right (by decide) (show k≤4 by omega)) (by decide))
 obtain ⟨τ',e,⟨r4',rfl⟩,_⟩:=kU (own:=[(3,1)]) (g:=nl) (f:=bA fJ hW ⟨ig,[3],0⟩ N (.nm 4) Jy) (fun ps qs τ=>(∃ r4,τ=[some (.int (n:Nat)),some (.lst ((fE n k).map nl)),some (.int (k:Nat)),some (.lst ((ps.flatMap (more n)).map nl)),r4])∧ps++qs=fE n k) (by
   rintro ps p qs τ ⟨⟨r4,rfl⟩,hpq⟩
   have hp:p ∈ fE n k:=by rw [← hpq]; exact List.mem_append_right _ (List.mem_cons_self ..)
   have pl:=(ic hp).1
   have hps:ps.length≤625:=by
     have:=congrArg List.length hpq
     rw [List.length_append] at this
     omega
   refine ⟨_,cu rfl rfl (step (K8 (own':=[(3,1)]) (own2:=[(3,1)]) (xs:=(ps.flatMap (more n)).map nl) (by decide) rfl rfl (by decide) (IS hn (by omega)) ?_ rfl) (ax ..)),⟨some (nl p),?_⟩,by rw [List.append_assoc]; exact hpq⟩
   · rw [List.length_map,List.length_map]
     have:=rK n ps
     have:=yv n p
     have:ps.length * n≤625 * 5:=Nat.mul_le_mul hps hn
     exact Nat.lt_of_le_of_lt (show _≤4000 by omega) (by decide)
   · rw [List.flatMap_append,List.flatMap_singleton,List.map_append]
     rfl) (fE n k) [] [some (.int (n:Nat)),some (.lst ((fE n k).map nl)),some (.int (k:Nat)),some (.lst []),r4] ⟨⟨r4,rfl⟩,rfl⟩
 rw [List.nil_append] at e
 refine ⟨_,cu rfl rfl (step (dR (own':=[(3,1)]) rfl (x:=.lst []) (by rw [j5,aw,Ou.aa,qd]) rfl rfl) (step (gC (own':=[(3,1)]) (by rw [eD,ab rfl,Ou.aa]; rfl) rfl e) (step (dR (own':=[]) rfl (ab rfl) rfl rfl) (ax ..)))),_,_,_,rfl⟩
theorem Cf (hn:n≤5):jF [.int (n:Nat)]=.ok (.lst ((fE n n).map nl)):=by
 obtain ⟨τ',e,r2,r3,r4,rfl⟩:=hZ (own:=[]) (n:=n) (f:=bA fJ hW ⟨ig,[3],0⟩ (aR [.int (n:Nat)]) (.nm 2) JE) (fun k τ=>∃ r2 r3 r4,τ=[some (.int (n:Nat)),some (.lst ((fE n k).map nl)),r2,r3,r4]) (by
   rintro k hk τ ⟨r2,r3,r4,rfl⟩
   exact yf hn hk) (τ:=[some (.int (n:Nat)),some (.lst [.lst []]),none,none,none]) ⟨_,_,_,rfl⟩
 rw [sG]
 exact bU (step (dR (own':=[]) rfl (x:=.lst [.lst []]) (by rw [j5,ah,j5,aw,Ou.aa,qd,Ou.aa,Ou.aa,Ou.aa,A5]) rfl rfl) (step (gC (own':=[]) (iu (ab rfl) (by omega)) rfl e) (bz (ab rfl))))
end
end K09
namespace K09
open PySem PySem.Spec L2 Sv
open Ev (D aL aT ag)
theorem DJ:∀ (xs ys:List Rat) (s:Int),sc (xs++ys) s=sc ys (sc xs s)
 | [],_,_=>rfl
 | x :: xs,ys,s=>by rw [List.cons_append,sc,sc,DJ xs ys]
noncomputable def pz:List S:=[.set (.nm 2) (.op .fdiv (.op .mul (.var 2) (.ix (.var 4) (.cI 1))) (.call 1 [(.var 2),(.ix (.var 4) (.cI 1))]))]
section
variable {t0 t1 r3 r5 r6 r7 r8 r9 r10 r11:Option T} {N b n:Nat} {F:Nat→Nat→Rat}
theorem yF (hb:b≤8900):∀ (xs:List Rat) (s:Int) (c:Nat) (r4:Option T),s.natAbs≤2 ^ c→(∀ x ∈ xs,x.den≤2 ^ b)→c + xs.length * b≤90000→∃ r4',bN (bA bY dO ⟨dN,[],0⟩ N (.nm 4) pz) (xs.map fq) [t0,t1,some (.int s),r3,r4,r5,r6,r7,r8,r9,r10,r11] []=.ok (.nx [t0,t1,some (.int (sc xs s)),r3,r4',r5,r6,r7,r8,r9,r10,r11] [])
 | [],s,c,r,_,_,_=>⟨r,by rw [List.map_nil,dH]; rfl⟩
 | x :: xs,s,c,r,hs,hx,hc=>by
   have hd:=hx x (List.mem_cons_self ..)
   have hd':(((x.den:Nat):Int)).natAbs≤2 ^ b:=by rw [Int.natAbs_natCast]; exact hd
   rw [List.length_cons,Nat.succ_mul] at hc
   obtain ⟨r',e⟩:=yF hb xs (s / (Int.gcd s ((x.den:Nat):Int):Int) * ((x.den:Nat):Int)) (c + b) (some (fq x)) (by
     rw [Int.natAbs_mul,Nat.pow_add]
     exact Nat.mul_le_mul (gu hs) hd') (fun y hy=>hx y (List.mem_cons_of_mem _ hy)) (by omega)
   refine ⟨r',?_⟩
   have fd:z2 .fdiv (.int (s * ((x.den:Nat):Int))) (.int (Int.gcd s ((x.den:Nat):Int):Nat))=.ok (.int (s / (Int.gcd s ((x.den:Nat):Int):Int) * ((x.den:Nat):Int))):=by
     rw [fdv (O0 x) (dv hd' hb),Int.mul_ediv_assoc' _ (Int.gcd_dvd_left ..)]
   have t:bA bY dO ⟨dN,[],0⟩ N (.nm 4) pz (fq x) [t0,t1,some (.int s),r3,r,r5,r6,r7,r8,r9,r10,r11] []=.ok (.nx [t0,t1,some (.int (s / (Int.gcd s ((x.den:Nat):Int):Int) * ((x.den:Nat):Int))),r3,some (fq x),r5,r6,r7,r8,r9,r10,r11] []):=
     cu rfl rfl (step (bW (aO (aO (ab rfl) (fr1 (ab rfl)) (mo hs hd' (by omega) (by omega))) (call2 (OC (Ψ:=bY) (i:=1) rfl _ _) (ab rfl) (fr1 (ab rfl))) fd) rfl rfl) (ax ..))
   rw [List.map_cons,bu,t,Ou.aa,cU,e]
   rfl
noncomputable def cells (F:Nat→Nat→Rat) (n:Nat) (is:List Nat):List Rat:=is.flatMap fun i=>(List.range n).map (F i)
theorem tM (is:List Nat):(cells F n is).length=is.length * n:=by
 unfold cells
 induction is with
 | nil=>simp
 | cons i is ih=>rw [List.flatMap_cons,List.length_append,ih,List.length_map,List.length_range,List.length_cons,Nat.succ_mul]; omega
theorem ud {is:List Nat} {x:Rat} (h:x ∈ cells F n is):∃ i ∈ is,∃ j < n,x=F i j:=by
 obtain ⟨i,hi,hx⟩:=List.mem_flatMap.mp h
 obtain ⟨j,hj,rfl⟩:=List.mem_map.mp hx
 exact ⟨i,hi,j,List.mem_range.mp hj,rfl⟩
noncomputable def JI:List S:=[.for (.nm 4) (.seq (.var 3)) pz]
theorem wJ (hn:n≤5) (hb:b≤8900) (hc:n * n * b≤8000) (hF:∀ i < n,∀ j < n,(F i j).den≤2 ^ b):∃ r3 r4,bN (bA bY dO ⟨dN,[],0⟩ N (.nm 3) JI) ((List.range n).map fun i=>line n fun j=>fq (F i j)) [t0,t1,some (.int 1),none,none,r5,r6,r7,r8,r9,r10,r11] []=.ok (.nx [t0,t1,some (.int (sc (cells F n (List.range n)) 1)),r3,r4,r5,r6,r7,r8,r9,r10,r11] []):=by
 obtain ⟨τ',e,⟨r3,r4,rfl⟩,_⟩:=kU (own:=[]) (g:=fun i=>line n fun j=>fq (F i j)) (f:=bA bY dO ⟨dN,[],0⟩ N (.nm 3) JI) (fun ps qs τ=>(∃ r3 r4,τ=[t0,t1,some (.int (sc (cells F n ps) 1)),r3,r4,r5,r6,r7,r8,r9,r10,r11])∧ps++qs=List.range n) (by
   rintro ps p qs τ ⟨⟨r3,r4,rfl⟩,hpq⟩
   have hm:∀ i ∈ ps++p :: qs,i < n:=fun i hi=>by rw [hpq] at hi; exact List.mem_range.mp hi
   have hp:p < n:=hm p (List.mem_append_right _ (List.mem_cons_self ..))
   have hl:ps.length + 1≤n:=by
     have:=congrArg List.length hpq
     rw [List.length_append,List.length_cons,List.length_range] at this
     omega
   have sl:=Al (b:=b) (cells F n ps) 1 0 (fun x hx=>by
     obtain ⟨i,hi,j,hj,rfl⟩:=ud hx
     exact hF i (hm i (List.mem_append_left _ hi)) j hj) (by decide)
   rw [Nat.zero_add,tM] at sl
   have q1:(ps.length + 1) * n * b≤n * n * b:=Nat.mul_le_mul_right _ (Nat.mul_le_mul_right _ hl)
   rw [Nat.succ_mul,Nat.add_mul] at q1
   obtain ⟨r4',e⟩:=yF (N:=N) (t0:=t0) (t1:=t1) (r3:=some (line n fun j=>fq (F p j))) (r5:=r5) (r6:=r6) (r7:=r7) (r8:=r8) (r9:=r9) (r10:=r10) (r11:=r11) hb ((List.range n).map (F p)) (sc (cells F n ps) 1) _ r4 sl (fun x hx=>by
     obtain ⟨j,hj,rfl⟩:=List.mem_map.mp hx
     exact hF p hp j (List.mem_range.mp hj)) (by rw [List.length_map,List.length_range]; omega)
   rw [← DJ,List.map_map] at e
   refine ⟨_,cu rfl rfl (step (gC (own':=[]) (mG (n:=n) (G:=fun j=>fq (F p j)) (ab rfl)) rfl e) (ax ..)),⟨some (line n fun j=>fq (F p j)),r4',?_⟩,by rw [List.append_assoc]; exact hpq⟩
   unfold cells
   rw [List.flatMap_append,List.flatMap_singleton]) (List.range n) [] [t0,t1,some (.int 1),none,none,r5,r6,r7,r8,r9,r10,r11] ⟨⟨none,none,rfl⟩,rfl⟩
 rw [List.nil_append] at e
 exact ⟨r3,r4,e⟩
theorem yN {B:Int} {c:Nat} {r3 r4:Option T} (hB:B.natAbs≤2 ^ c) (hc:n * c≤90000) (hc':c≤90000):∃ r6,bN (bA bY dO ⟨dN,[],0⟩ N (.nm 6) [.set (.nm 5) (.op .mul (.var 5) (.var 2))]) ((List.range n).map fun k=>.int (k:Nat)) [t0,t1,some (.int B),r3,r4,some (.int 1),none,r7,r8,r9,r10,r11] []=.ok (.nx [t0,t1,some (.int B),r3,r4,some (.int (e8 (fun _=>B) n)),r6,r7,r8,r9,r10,r11] []):=by
 obtain ⟨τ',e,r6,rfl⟩:=hZ (own:=[]) (n:=n) (f:=bA bY dO ⟨dN,[],0⟩ N (.nm 6) [.set (.nm 5) (.op .mul (.var 5) (.var 2))]) (fun k τ=>∃ r6,τ=[t0,t1,some (.int B),r3,r4,some (.int (e8 (fun _=>B) k)),r6,r7,r8,r9,r10,r11]) (by
   rintro k hk τ ⟨r6,rfl⟩
   have pl:=jd (s:=fun _=>B) (n:=k) fun i _=>hB
   have kc:k * c≤n * c:=Nat.mul_le_mul_right _ (by omega)
   exact ⟨_,cu rfl rfl (step (bW (aO (ab rfl) (ab rfl) (mo pl hB (by omega) (by omega))) rfl rfl) (ax ..)),_,rfl⟩) (τ:=[t0,t1,some (.int B),r3,r4,some (.int 1),none,r7,r8,r9,r10,r11]) ⟨none,rfl⟩
 exact ⟨r6,e⟩
end
theorem Dv {o:List Nat} {j:Nat} (h:j < o.length):zI (nl o) (.int (j:Nat))=.ok (.int (o.getD j 0:Nat)):=iF (by rw [List.getElem?_map,List.getElem?_eq_getElem h,List.getD_eq_getElem?_getD,List.getElem?_eq_getElem h]; rfl)
noncomputable def EN:List S:=[.ite (.cmp .gt (.ix (.var 8) (.var 11)) (.ix (.var 8) (.var 10))) [.set (.nm 9) (.neg (.var 9))] []]
section
variable {t0 t1 t2 r3 r4 r5 r6 r7:Option T} {N:Nat} {o:List Nat}
theorem BV {i:Nat} (p:Int) (r11:Option T) (hi:i < o.length):∃ r11',bN (bA bY dO ⟨dN,[],0⟩ N (.nm 11) EN) ((List.range i).map fun k=>.int (k:Nat)) [t0,t1,t2,r3,r4,r5,r6,r7,some (nl o),some (.int p),some (.int (i:Nat)),r11] []=.ok (.nx [t0,t1,t2,r3,r4,r5,r6,r7,some (nl o),some (.int (p * fl o i i)),some (.int (i:Nat)),r11'] []):=by
 obtain ⟨τ',e,r11',rfl⟩:=hZ (own:=[]) (n:=i) (f:=bA bY dO ⟨dN,[],0⟩ N (.nm 11) EN) (fun j τ=>∃ r11,τ=[t0,t1,t2,r3,r4,r5,r6,r7,some (nl o),some (.int (p * fl o i j)),some (.int (i:Nat)),r11]) (by
   rintro j hj τ ⟨r11,rfl⟩
   have cnd:∀ τ:ao,aH τ 8=.ok (nl o)→aH τ 10=.ok (.int (i:Nat))→aH τ 11=.ok (.int (j:Nat))→yE bY (.cmp .gt (.ix (.var 8) (.var 11)) (.ix (.var 8) (.var 10))) τ=.ok (.bl (decide (o.getD i 0 < o.getD j 0))):=fun τ h8 h10 h11=>
     dJ (eI (ab h8) (ab h11) (Dv (by omega))) (eI (ab h8) (ab h10) (Dv hi)) (by rw [tN]; exact congrArg some (decide_eq_decide.mpr (by omega)))
   by_cases z:o.getD i 0 < o.getD j 0
   · rw [decide_eq_true z] at cnd
     refine ⟨_,cu rfl rfl (step ((jU (own':=[]) (cnd _ rfl rfl rfl) rfl).trans ((if_pos rfl).trans (step (bW (x:=.int (-(p * fl o i j))) (by rw [zz,ab rfl,Ou.aa,yR]) rfl rfl) (ax ..)))) (ax ..)),some (.int (j:Nat)),?_⟩
     rw [show fl o i (j + 1)=-fl o i j from if_pos z,Int.mul_neg]
     rfl
   · rw [decide_eq_false z] at cnd
     refine ⟨_,cu rfl rfl (step (skip (own':=[]) (cnd _ rfl rfl rfl) rfl) (ax ..)),some (.int (j:Nat)),?_⟩
     rw [show fl o i (j + 1)=fl o i j from if_neg z]
     rfl) (τ:=[t0,t1,t2,r3,r4,r5,r6,r7,some (nl o),some (.int p),some (.int (i:Nat)),r11]) ⟨r11,by rw [show fl o i 0=1 from rfl,Int.mul_one]⟩
 exact ⟨r11',e⟩
end
theorem Aj (o:List Nat) (i:Nat):∀ j,(fl o i j).natAbs=1
 | 0=>rfl
 | j + 1=>by
   rw [fl]
   split
   · rw [Int.natAbs_neg,Aj o i j]
   · exact Aj o i j
noncomputable def prZ (w:Nat→Nat→Int) (o:List Nat):Nat→Int
 | 0=>1
 | k + 1=>prZ w o k * w k (o.getD k 0)
theorem JF (w:Nat→Nat→Int) (o:List Nat):∀ k,(prZ w o k:Rat)=prL (fun i j=>(w i j:Rat)) o k
 | 0=>rfl
 | k + 1=>by rw [prZ,prL,Rat.intCast_mul,JF w o k]
noncomputable def FG:List S:=[.set (.nm 4) (.ix (.ix (.var 0) (.var 10)) (.ix (.var 8) (.var 10))),.set (.nm 9) (.op .mul (.op .mul (.var 9) (.ix (.var 4) (.cI 0))) (.op .fdiv (.var 2) (.ix (.var 4) (.cI 1)))),.for (.nm 11) (.rng (.var 10)) EN]
noncomputable def JS:List S:=[.set (.nm 9) (.cI 1),.for (.nm 10) (.rng (.var 1)) FG,.set (.nm 7) (.op .add (.var 7) (.var 9))]
section
variable {r3 r5 r6:Option T} {N a b c n:Nat} {o:List Nat} {F:Nat→Nat→Rat} {B:Int}
theorem CL {r4 r7 r10 r11:Option T} (hn:n≤5) (ho:o.length=n) (hb':∀ k ∈ o,k < n) (hF:∀ i < n,∀ j < n,Sz a b (F i j)) (hb:b≤8900) (hB:B.natAbs≤2 ^ c) (hs:n * (a + c)≤80000) :
   ∃ s4 s10 s11,bN (bA bY dO ⟨dN,[],0⟩ N (.nm 10) FG) ((List.range n).map fun k=>.int (k:Nat)) [some (gq n n F),some (.int (n:Nat)),some (.int B),r3,r4,r5,r6,r7,some (nl o),some (.int 1),r10,r11] []=.ok (.nx [some (gq n n F),some (.int (n:Nat)),some (.int B),r3,s4,r5,r6,r7,some (nl o),some (.int (sg o n * prZ (fun i j=>wr (F i) B j) o n)),s10,s11] [])∧(sg o n * prZ (fun i j=>wr (F i) B j) o n).natAbs≤2 ^ (n * (a + c)):=by
 obtain ⟨τ',e,⟨r4',r10',r11',rfl⟩,hbd⟩:=hZ (own:=[]) (n:=n) (f:=bA bY dO ⟨dN,[],0⟩ N (.nm 10) FG) (fun k τ=>(∃ r4 r10 r11,τ=[some (gq n n F),some (.int (n:Nat)),some (.int B),r3,r4,r5,r6,r7,some (nl o),some (.int (sg o k * prZ (fun i j=>wr (F i) B j) o k)),r10,r11])∧(sg o k * prZ (fun i j=>wr (F i) B j) o k).natAbs≤2 ^ (k * (a + c))) (by
   rintro k hk τ ⟨⟨r4,r10,r11,rfl⟩,hp⟩
   have hkl:k < o.length:=by omega
   have hok:o.getD k 0 < n:=hb' _ (by rw [List.getD_eq_getElem?_getD,List.getElem?_eq_getElem hkl]; exact List.getElem_mem _)
   have sz:=hF k hk _ hok
   have kc:(k + 1) * (a + c)≤n * (a + c):=Nat.mul_le_mul_right _ hk
   rw [Nat.succ_mul] at kc
   have fd:z2 .fdiv (.int B) (.int (((F k (o.getD k 0)).den:Nat):Int))=.ok (.int (B / (((F k (o.getD k 0)).den:Nat):Int))):=iX (by have:=(F k (o.getD k 0)).den_pos; omega) (Bj sz hb)
   generalize hP:sg o k * prZ (fun i j=>wr (F i) B j) o k=p at hp
   have h1:(p * (F k (o.getD k 0)).num).natAbs≤2 ^ (k * (a + c) + a):=by rw [Int.natAbs_mul,Nat.pow_add]; exact Nat.mul_le_mul hp sz.num
   have key:p * (F k (o.getD k 0)).num * (B / (((F k (o.getD k 0)).den:Nat):Int)) * fl o k k=sg o (k + 1) * prZ (fun i j=>wr (F i) B j) o (k + 1):=by
     rw [sg,prZ,wr,← hP]
     grind
   obtain ⟨r11',e⟩:=BV (N:=N) (t0:=some (gq n n F)) (t1:=some (.int (n:Nat))) (t2:=some (.int B)) (r3:=r3) (r4:=some (fq (F k (o.getD k 0)))) (r5:=r5) (r6:=r6) (r7:=r7) (o:=o) (i:=k) (p * (F k (o.getD k 0)).num * (B / (((F k (o.getD k 0)).den:Nat):Int))) r11 hkl
   rw [key] at e
   refine ⟨_,cu rfl rfl (step (bW (eI (eI (ab rfl) (ab rfl) (ez (F:=fun i=>line n fun j=>fq (F i j)) hk)) (eI (ab rfl) (ab rfl) (Dv hkl)) (ez (F:=fun j=>fq (F k j)) hok)) rfl rfl) (step (bW (aO (aO (ab rfl) (fr0 (ab rfl)) (mo hp sz.num (by omega) (by omega))) (aO (ab rfl) (fr1 (ab rfl)) fd) (mo h1 (gu hB) (by omega) (by omega))) rfl rfl) (step (gC (own':=[]) (iu (ab rfl) (by omega)) rfl e) (ax ..)))),⟨_,_,_,rfl⟩,?_⟩
   rw [← key,Int.natAbs_mul,Aj,Nat.mul_one,Int.natAbs_mul,Nat.succ_mul,show k * (a + c) + (a + c)=k * (a + c) + a + c by omega,Nat.pow_add _ _ c]
   exact Nat.mul_le_mul h1 (gu hB)) (τ:=[some (gq n n F),some (.int (n:Nat)),some (.int B),r3,r4,r5,r6,r7,some (nl o),some (.int 1),r10,r11]) ⟨⟨r4,r10,r11,rfl⟩,Nat.one_le_two_pow⟩
 exact ⟨r4',r10',r11',e,hbd⟩
end
end K09
namespace K09
open PySem PySem.Spec L2 Sv
open Ev (D aL aT ag)
noncomputable def pS (f:List Nat→Int):List (List Nat)→Int
 | []=>0
 | o :: os=>f o + pS f os
theorem qG (f:List Nat→Int) (p:List Nat):∀ os,pS f (os++[p])=pS f os + f p
 | []=>by show f p + 0=0 + f p; omega
 | o :: os=>by rw [List.cons_append,pS,pS,qG f p os]; omega
theorem FZ (f:List Nat→Int):∀ os,(pS f os:Rat)=lsum (fun o=>(f o:Rat)) os
 | []=>rfl
 | o :: os=>by rw [pS,lsum,Rat.intCast_add,FZ f os]
section
variable {r3 r5 r6:Option T} {N a b c n:Nat} {F:Nat→Nat→Rat} {B:Int}
theorem zu {r4:Option T} (hn:n≤5) (hF:∀ i < n,∀ j < n,Sz a b (F i j)) (hb:b≤8900) (hB:B.natAbs≤2 ^ c) (hs:n * (a + c)≤80000) :
   ∃ s4 r8 r9 r10 r11,bN (bA bY dO ⟨dN,[],0⟩ N (.nm 8) JS) ((fE n n).map nl) [some (gq n n F),some (.int (n:Nat)),some (.int B),r3,r4,r5,r6,some (.int 0),none,none,none,none] []=.ok (.nx [some (gq n n F),some (.int (n:Nat)),some (.int B),r3,s4,r5,r6,some (.int (pS (fun o=>sg o n * prZ (fun i j=>wr (F i) B j) o n) (fE n n))),r8,r9,r10,r11] [])∧(pS (fun o=>sg o n * prZ (fun i j=>wr (F i) B j) o n) (fE n n)).natAbs≤(fE n n).length * 2 ^ (n * (a + c)):=by
 obtain ⟨τ',e,⟨r4',r8,r9,r10,r11,rfl⟩,hbd,_⟩:=kU (own:=[]) (g:=nl) (f:=bA bY dO ⟨dN,[],0⟩ N (.nm 8) JS) (fun ps qs τ=>(∃ r4 r8 r9 r10 r11,τ=[some (gq n n F),some (.int (n:Nat)),some (.int B),r3,r4,r5,r6,some (.int (pS (fun o=>sg o n * prZ (fun i j=>wr (F i) B j) o n) ps)),r8,r9,r10,r11])∧(pS (fun o=>sg o n * prZ (fun i j=>wr (F i) B j) o n) ps).natAbs≤ps.length * 2 ^ (n * (a + c))∧ps++qs=fE n n) (by
   rintro ps p qs τ ⟨⟨r4,r8,r9,r10,r11,rfl⟩,hbd,hpq⟩
   have hp:p ∈ fE n n:=by rw [← hpq]; exact List.mem_append_right _ (List.mem_cons_self ..)
   obtain ⟨pl,pb⟩:=ic hp
   obtain ⟨r4',r10',r11',e,hb2⟩:=CL (N:=N) (r3:=r3) (r5:=r5) (r6:=r6) (r4:=r4) (r7:=some (.int (pS (fun o=>sg o n * prZ (fun i j=>wr (F i) B j) o n) ps))) (r10:=r10) (r11:=r11) (o:=p) hn pl pb hF hb hB hs
   refine ⟨_,cu rfl rfl (step (bW aI rfl rfl) (step (gC (own':=[]) (iu (ab rfl) (by omega)) rfl e) (step (bW (aO (ab rfl) (ab rfl) rfl) rfl rfl) (ax ..)))),⟨r4',some (nl p),some (.int (sg p n * prZ (fun i j=>wr (F i) B j) p n)),r10',r11',by rw [qG]; rfl⟩,?_,by rw [List.append_assoc]; exact hpq⟩
   rw [qG,List.length_append,List.length_singleton,Nat.succ_mul]
   exact Nat.le_trans (Int.natAbs_add_le _ _) (Nat.add_le_add hbd hb2)) (fE n n) [] [some (gq n n F),some (.int (n:Nat)),some (.int B),r3,r4,r5,r6,some (.int 0),none,none,none,none] ⟨⟨r4,none,none,none,none,rfl⟩,Nat.zero_le _,rfl⟩
 rw [List.nil_append] at e hbd
 exact ⟨r4',r8,r9,r10,r11,e,hbd⟩
theorem NM (h5:n≤5) (hF:∀ i < n,∀ j < n,Sz a b (F i j)) (hb:b≤8900) (hc:n * n * b≤8000) (hs:n * (a + n * n * b)≤80000):∃ t W:Int,p7 [gq n n F]=.ok (pU t W)∧0 < W∧(t:Rat)=det n F * (W:Rat)∧t.natAbs≤2 ^ 90000∧W.natAbs≤2 ^ 80000:=by
 obtain ⟨r3,r4,eB⟩:=wJ (N:=aR [gq n n F]) (t0:=some (gq n n F)) (t1:=some (.int (n:Nat))) (r5:=none) (r6:=none) (r7:=none) (r8:=none) (r9:=none) (r10:=none) (r11:=none) h5 hb hc fun i hi j hj=>(hF i hi j hj).den
 obtain ⟨B0,_,Bd⟩:=DN (cells F n (List.range n)) 1 (by decide)
 have Bl:=Al (b:=b) (cells F n (List.range n)) 1 0 (fun x hx=>by
   obtain ⟨i,hi,j,hj,rfl⟩:=ud hx
   exact (hF i (List.mem_range.mp hi) j hj).den) (by decide)
 rw [Nat.zero_add,tM,List.length_range] at Bl
 have Bd':∀ i < n,∀ j < n,(((F i j).den:Nat):Int) ∣ sc (cells F n (List.range n)) 1:=fun i hi j hj=>Bd _ (List.mem_flatMap.mpr ⟨i,List.mem_range.mpr hi,List.mem_map.mpr ⟨j,List.mem_range.mpr hj,rfl⟩⟩)
 generalize sc (cells F n (List.range n)) 1=B at *
 have nc:n * (n * n * b)≤80000:=Nat.le_trans (Nat.mul_le_mul_left _ (by omega)) hs
 obtain ⟨r6,eW⟩:=yN (N:=aR [gq n n F]) (t0:=some (gq n n F)) (t1:=some (.int (n:Nat))) (r3:=r3) (r4:=r4) (r7:=none) (r8:=none) (r9:=none) (r10:=none) (r11:=none) (n:=n) Bl (by omega) (by omega)
 obtain ⟨r4',r8,r9,r10,r11,eT,hbd⟩:=zu (N:=aR [gq n n F]) (r3:=r3) (r4:=r4) (r5:=some (.int (e8 (fun _=>B) n))) (r6:=r6) h5 hF hb Bl hs
 have or:=Cf h5
 rw [← oF] at or
 refine ⟨_,_,?_,lj fun _ _=>B0,?_,Nat.le_trans hbd ?_,Nat.le_trans (jd fun _ _=>Bl) (Nat.pow_le_pow_right (by decide) nc)⟩
 · rw [zK]
   exact bU (step (bW (bi1 (fZ n fun i=>line n fun j=>fq (F i j)) (ab rfl)) rfl rfl) (step (bW aI rfl rfl) (step (gC (own':=[]) (mG (n:=n) (G:=fun i=>line n fun j=>fq (F i j)) (ab rfl)) rfl eB) (step (bW aI rfl rfl) (step (gC (own':=[]) (iu (ab rfl) (by omega)) rfl eW) (step (bW aI rfl rfl) (step (gC (own':=[]) (by rw [eD,gg (Ψ:=bY) (f:=7) (e:=.var 1) or (ab rfl),Ou.aa]; rfl) rfl eT) (bz (uY (ab rfl) (ab rfl))))))))))
 · rw [FZ,qf,Rat.mul_comm,← kN (n:=n) _ F n (Nat.le_refl _),PQ h5]
   refine jv fun o ho=>?_
   rw [Rat.intCast_mul,JF]
   refine congrArg (fun x=>(sg o n:Rat) * x) ?_
   have:∀ k,k≤n→prL (fun i j=>(wr (F i) B j:Rat)) o k=prL (fun i j=>if i < n then (B:Rat) * F i j else F i j) o k:=by
     intro k
     induction k with
     | zero=>exact fun _=>rfl
     | succ k ih=>
       intro hk
       have hok:o.getD k 0 < n:=(ic ho).2 _ (by rw [List.getD_eq_getElem?_getD,List.getElem?_eq_getElem (by rw [(ic ho).1]; omega)]; exact List.getElem_mem _)
       rw [prL,prL,ih (by omega),if_pos (show k < n by omega),L6 (Bd' k (by omega) _ hok),Rat.mul_comm (F k _)]
   exact this n (Nat.le_refl _)
 · have l5:(fE n n).length≤2 ^ 12:=Nat.le_trans (qY h5 n) (Nat.le_trans (Nat.pow_le_pow_right (by decide) h5) (by decide))
   refine Nat.le_trans (Nat.mul_le_mul l5 (Nat.pow_le_pow_right (by decide) hs)) ?_
   rw [← Nat.pow_add]
   exact Nat.pow_le_pow_right (by decide) (by decide)
end
end K09
namespace K09
open PySem PySem.Spec L2 Sv
open Ev (D aL aT ag)
theorem sz0 {a b:Nat}:Sz a b 0:=⟨Nat.zero_le _,Nat.one_le_two_pow⟩
theorem JC {w j:Nat} {z:T} {G:Nat→Nat→T} (hj:j < w):∀ (m:Nat) (is:List Nat),m≤is.length→lh ((j:Nat):Int) z m (is.map fun i=>line w (G i))=some ((is.take m).map (fun i=>line w fun q=>if q=j then z else G i q)++(is.drop m).map fun i=>line w (G i))
 | 0,is,_=>rfl
 | m + 1,[],h=>by simp at h
 | m + 1,i :: is,h=>by
   rw [List.map_cons,lh]
   have e:Er ((j:Nat):Int) z (line w (G i))=some (line w fun q=>if q=j then z else G i q):=by
     show (L2.ixN _ _).map _=_
     rw [List.length_map,List.length_range,EL hj,Option.map_some,Bq]
     rfl
   rw [e,Option.bind_some,JC hj m is (by simpa using h),Option.map_some]
   rfl
theorem AN {Ψ ΨM:FnT} {X:Fx} {N r v n w m j:Nat} {τ:ao} {c:Bool} {i:E} {a b:Int} {own own':Own} {G:Nat→Nat→T} (ho:dn (frg (.nm r)) own=own') (hl:cJ own' v=2) (hrv:r ≠ v) (hr:r < τ.length) (hv:aH τ v=.ok (pV n w G)) (hi:lW τ r v i=some ((j:Nat):Int)) (hj:j < w) (hm:(if c=true then n - 1 else n)=m) :
   yS Ψ ΨM X N (.rows r v c i a b) τ own=.ok (.nx ((τ.set r none).set v (some (pV n w fun i q=>if i < m∧q=j then .tup [.int a,.int b] else G i q))) own'):=by
 rw [Hc,vP,ho,if_pos ⟨hl,hrv,hr⟩,hv,show hU (.ok (pV n w G))=some ((List.range n).map fun i=>line w (G i)) from rfl,bT,hi,bT,List.length_map,List.length_range,hm]
 have mn:m≤n:=by cases c <;> simp at hm <;> omega
 rw [JC hj m _ (by rw [List.length_range]; exact mn),bT]
 obtain ⟨k,rfl⟩:=Nat.exists_eq_add_of_le mn
 refine congrArg (fun l=>Ou.ok (FlT.nx ((τ.set r none).set v (some (T.lst l))) own')) ?_
 rw [List.range_add,List.take_left' (List.length_range ..),List.drop_left' (List.length_range ..),List.map_append]
 refine congr (congrArg _ (List.map_congr_left fun i hi=>?_)) (List.map_congr_left fun i hi=>?_)
 · have:=List.mem_range.mp hi
   refine eM fun q _=>?_
   dsimp only
   by_cases z:q=j
   · rw [if_pos z,if_pos ⟨this,z⟩]
   · rw [if_neg z,if_neg fun y=>z y.2]
 · obtain ⟨i',_,rfl⟩:=List.mem_map.mp hi
   exact eM fun q _=>by dsimp only; rw [if_neg fun y=>absurd y.1 (by omega)]
theorem NP {m:Nat} (h1:1≤m) (h7:m≤7):Ask m 4 3:=by
 have:m=1∨m=2∨m=3∨m=4∨m=5∨m=6∨m=7:=by omega
 rcases this with rfl | rfl | rfl | rfl | rfl | rfl | rfl <;> exact ⟨by decide,by decide,by decide,by decide,by decide,by decide⟩
theorem OX {m:Nat} (h1:1≤m) (h4:m≤4):Ask m 133 133:=by
 have:m=1∨m=2∨m=3∨m=4:=by omega
 rcases this with rfl | rfl | rfl | rfl <;> exact ⟨by decide,by decide,by decide,by decide,by decide,by decide⟩
theorem JN {k:Nat} (hk:k < 3) (p:Int):∃ q:Rat,cC [.int (k:Nat),.int p]=.ok (fq q)∧Sz 4 3 q:=by
 match k,hk with
 | 0,_=>exact NV
 | 1,_=>exact num_1.imp fun q h=>⟨h.1,h.2.mono (by decide) (by decide)⟩
 | 2,_=>exact Oz
theorem Ga {Ψ:FnT} {τ:ao} {v k:Nat} {rs:List Int} {r:Int} (h:aH τ v=.ok (inT rs)) (hr:(rs.map T.int)[k]?=some (.int r)):yE Ψ (.ix (.var v) (.cI ((k:Nat):Int))) τ=.ok (.int r):=eI (ab h) aI (iF hr)
structure HL (n a b:Nat):Prop where
 n1:1≤n
 n5:n≤5
 ask:∀ m,1≤m→m≤n→Ask m a b
 hb:b≤8900
 hc:n * n * b≤8000
 hs:n * (a + n * n * b)≤80000
theorem Gx {n:Nat} (h1:1≤n) (h5:n≤5):HL n 4 3:=by
 have:n=1∨n=2∨n=3∨n=4∨n=5:=by omega
 exact ⟨h1,h5,fun m h g=>NP h (by omega),by decide,by rcases this with rfl | rfl | rfl | rfl | rfl <;> decide,by rcases this with rfl | rfl | rfl | rfl | rfl <;> decide⟩
theorem Mc {n:Nat} (h1:1≤n) (h3:n≤3):HL n 133 133:=by
 have:n=1∨n=2∨n=3:=by omega
 exact ⟨h1,by omega,fun m h g=>OX h (by omega),by decide,by rcases this with rfl | rfl | rfl <;> decide,by rcases this with rfl | rfl | rfl <;> decide⟩
end K09
namespace K09
open PySem PySem.Spec L2 Sv
open Ev (D aL aT ag)
noncomputable def eN:E:=.lst [(.cI 5),(.cI 4),(.cI 8),(.cI 5),(.cI 5)]
noncomputable def z4:S:=.ite (.and (.cmp .eq (.var 4) (.cI 3)) (.var 1)) [.set (.nm 3) (.bi .min [(.var 3),(.cI 3)])] [.ite (.cmp .eq (.var 4) (.cI 3)) [.set (.nm 4) (.cI 0)] []]
noncomputable def z8:S:=.ite (.cmp .eq (.ix (.var 2) (.cI 2)) (.cI 0)) [.put (.var 5) (.var 6) (.comp [none] (.nm 0) (.seq (.ix (.var 5) (.var 6))) [] (.tup [(.cI 0),(.cI 1)]))] []
noncomputable def z9:S:=.ite (.cmp .eq (.ix (.var 2) (.cI 2)) (.cI 1)) [.put (.var 5) (.var 6) (.bi .list [(.ix (.var 5) (.var 7))])] []
noncomputable def z10:S:=.ite (.cmp .eq (.ix (.var 2) (.cI 2)) (.cI 2)) [.rows 8 5 true (.cI 0) 0 1] []
noncomputable def z11:S:=.ite (.cmp .eq (.ix (.var 2) (.cI 2)) (.cI 3)) [.rows 8 5 false (.var 7) 0 1] []
theorem zd:fM=[.set (.nm 2) (.call 0 [(.var 0),eN]),.set (.nm 3) (.op .add (.cI 1) (.ix (.var 2) (.cI 0))),.set (.nm 4) (.ix (.var 2) (.cI 1)),z4,.set (.nm 5) (.call 4 [(.call 5 [(.var 0),(.cI 4000)]),(.var 3),(.var 3),(.var 4)]),.set (.nm 6) (.op .mod (.ix (.var 2) (.cI 3)) (.var 3)),.set (.nm 7) (.op .mod (.ix (.var 2) (.cI 4)) (.var 3)),z8,z9,z10,z11,.ret (.var 5)]:=rfl
section
variable {c:Int} {g:Bool} {N n a b p q:Nat} {q0 q1 q2 q3 q4:Int} {G:Nat→Nat→Rat} {k:Int}
noncomputable def dn9 (c:Int) (g:Bool) (qs:List Int) (n:Nat) (k:Int) (G:Nat→Nat→Rat) (p q:Nat):ao:=[some (.int c),some (.bl g),some (inT qs),some (.int (n:Nat)),some (.int k),some (gq n n G),some (.int (p:Nat)),some (.int (q:Nat)),none]
theorem IG (hG:∀ i j,Sz a b (G i j)) (hp:p < n) (hq:q < n) (hn:n≤5):∃ G':Nat→Nat→Rat,(∀ i j,Sz a b (G' i j))∧ySs bO fL ⟨dF,[5],0⟩ N [z8,z9,z10,z11,.ret (.var 5)] (dn9 c g [q0,q1,q2,q3,q4] n k G p q) [(5,2)]=.ok (.rt (gq n n G')):=by
 have cc:∀ (z:Int) (τ:ao),aH τ 2=.ok (inT [q0,q1,q2,q3,q4])→yE bO (.cmp .eq (.ix (.var 2) (.cI 2)) (.cI z)) τ=.ok (.bl (decide (q2=z))):=fun z τ h=>dJ (Ga (k:=2) h rfl) aI (ck _ _)
 have no:∀ (z:Int) (A:List S) (τ:ao) (own:Own),q2 ≠ z→dn (gU dF 2 (.cmp .eq (.ix (.var 2) (.cI 2)) (.cI z))) own=own→aH τ 2=.ok (inT [q0,q1,q2,q3,q4])→yS bO fL ⟨dF,[5],0⟩ N (.ite (.cmp .eq (.ix (.var 2) (.cI 2)) (.cI z)) A []) τ own=.ok (.nx τ own):=fun z A τ own h ho h2=>skip ((cc z τ h2).trans (by rw [decide_eq_false h])) ho
 have ye:∀ (z:Int) (s:S) (τ τ':ao) (own own':Own),q2=z→dn (gU dF 2 (.cmp .eq (.ix (.var 2) (.cI 2)) (.cI z))) own=own→aH τ 2=.ok (inT [q0,q1,q2,q3,q4])→yS bO fL ⟨dF,[5],0⟩ N s τ own=.ok (.nx τ' own')→yS bO fL ⟨dF,[5],0⟩ N (.ite (.cmp .eq (.ix (.var 2) (.cI 2)) (.cI z)) [s] []) τ own=.ok (.nx τ' own'):=fun z s τ τ' own own' h ho h2 hs=>(jU ho (he:=(cc z τ h2).trans (by rw [decide_eq_true h]))).trans ((if_pos rfl).trans (step hs (ax ..)))
 by_cases h0:q2=0
 · refine ⟨fun i j=>if i=p then 0 else G i j,fun i j=>?_,?_⟩
   · dsimp only
     split
     · exact sz0
     · exact hG _ _
   · have e:(line n fun i=>if i=p then (line n fun _=>fq 0) else line n fun j=>fq (G i j))=gq n n fun i j=>if i=p then 0 else G i j:=eM fun i _=>by
       by_cases z:i=p
       · simp only [if_pos z]
       · simp only [if_neg z]
     have cm:yE bO (.comp [none] (.nm 0) (.seq (.ix (.var 5) (.var 6))) [] (.tup [(.cI 0),(.cI 1)])) (dn9 c g [q0,q1,q2,q3,q4] n k G p q)=.ok (line n fun _=>fq 0):=dP (mG (n:=n) (G:=fun j=>fq (G p j)) (eI (ab rfl) (ab rfl) (ez (F:=fun i=>line n fun j=>fq (G i j)) hp))) (by rw [List.length_map,List.length_range]; exact dY (by omega)) (cO _ fun i _=>fW rfl ((uY aI aI).trans (congrArg Ou.ok (JB (x:=0) rfl rfl))))
     refine step (ye 0 _ _ _ _ _ h0 rfl rfl (M3 (own':=[(5,2)]) (own2:=[(5,1)]) (n:=n) (p:=p) (F:=fun i=>line n fun j=>fq (G i j)) (z:=line n fun _=>fq 0) rfl (by decide) rfl cm rfl (ab rfl) hp)) (step (no 1 _ _ _ (by omega) rfl rfl) (step (no 2 _ _ _ (by omega) rfl rfl) (step (no 3 _ _ _ (by omega) rfl rfl) (bz (ab ?_)))))
     rw [e]
     rfl
 by_cases h1:q2=1
 · refine ⟨fun i j=>if i=p then G q j else G i j,fun i j=>?_,?_⟩
   · dsimp only
     split
     · exact hG _ _
     · exact hG _ _
   · have e:(line n fun i=>if i=p then (line n fun j=>fq (G q j)) else line n fun j=>fq (G i j))=gq n n fun i j=>if i=p then G q j else G i j:=eM fun i _=>by
       by_cases z:i=p
       · simp only [if_pos z]
       · simp only [if_neg z]
     refine step (no 0 _ _ _ h0 rfl rfl) (step (ye 1 _ _ _ _ _ h1 rfl rfl (M3 (own':=[(5,2)]) (own2:=[(5,1)]) (n:=n) (p:=p) (F:=fun i=>line n fun j=>fq (G i j)) (z:=line n fun j=>fq (G q j)) rfl (by decide) rfl (bi1 rfl (eI (ab rfl) (ab rfl) (ez (F:=fun i=>line n fun j=>fq (G i j)) hq))) rfl (ab rfl) hp)) (step (no 2 _ _ _ (by omega) rfl rfl) (step (no 3 _ _ _ (by omega) rfl rfl) (bz (ab ?_)))))
     rw [e]
     rfl
 have eg:∀ m j:Nat,(pV n n fun i w=>if i < m∧w=j then .tup [.int 0,.int 1] else fq (G i w))=gq n n fun i w=>if i < m∧w=j then 0 else G i w:=fun m j=>qj fun i _ w _=>by
   by_cases z:i < m∧w=j
   · simp only [if_pos z]
     rfl
   · simp only [if_neg z]
 have sg':∀ m j:Nat,∀ i w,Sz a b (if i < m∧w=j then (0:Rat) else G i w):=fun m j i w=>by
   split
   · exact sz0
   · exact hG _ _
 by_cases h2:q2=2
 · refine ⟨_,sg' (n - 1) 0,?_⟩
   rw [← eg]
   exact step (no 0 _ _ _ h0 rfl rfl) (step (no 1 _ _ _ h1 rfl rfl) (step (ye 2 _ _ _ _ _ h2 rfl rfl (AN (own':=[(5,2)]) (n:=n) (w:=n) (j:=0) (G:=fun i j=>fq (G i j)) rfl rfl (by decide) (by show 8 < 9; decide) rfl rfl (by omega) rfl)) (step (no 3 _ _ _ (by omega) rfl rfl) (bz (ab rfl)))))
 by_cases h3:q2=3
 · refine ⟨_,sg' n q,?_⟩
   rw [← eg]
   exact step (no 0 _ _ _ h0 rfl rfl) (step (no 1 _ _ _ h1 rfl rfl) (step (no 2 _ _ _ h2 rfl rfl) (step (ye 3 _ _ _ _ _ h3 rfl rfl (AN (own':=[(5,2)]) (n:=n) (w:=n) (j:=q) (G:=fun i j=>fq (G i j)) rfl rfl (by decide) (by show 8 < 9; decide) rfl rfl hq rfl)) (bz (ab rfl)))))
 · exact ⟨G,hG,step (no 0 _ _ _ h0 rfl rfl) (step (no 1 _ _ _ h1 rfl rfl) (step (no 2 _ _ _ h2 rfl rfl) (step (no 3 _ _ _ h3 rfl rfl) (bz (ab rfl)))))⟩
end
end K09
namespace K09
open PySem PySem.Spec L2 Sv
open Ev (D aL aT ag)
theorem D6 (c:Int) (g:Bool):∃ (n a b:Nat) (G:Nat→Nat→Rat),HL n a b∧(∀ i j,Sz a b (G i j))∧kY [.int c,.bl g]=.ok (gq n n G):=by
 obtain ⟨cr,er⟩:=HZ c 4000 (by decide) (by decide)
 obtain ⟨rs,dg,en⟩:=FV (Ψ:=bO) (i:=0) rfl c [5,4,8,5,5] (by
   intro b hb
   simp only [List.mem_cons,List.not_mem_nil,or_false] at hb
   rcases hb with rfl | rfl | rfl | rfl | rfl <;> decide) (by decide)
 rw [← oV] at er
 match rs,dg with
 | [q0,q1,q2,q3,q4],dg=>
   obtain ⟨d0,d1,d2,d3,d4,_⟩:=dg
   have l5:∀ τ,yE bO eN τ=.ok (inT [5,4,8,5,5]):=fun τ=>by
     unfold eN
     simp only [j5,ah,cX,aw,Ou.aa]
     rfl
   obtain ⟨n,k,s4,hk,a,b,hf,nu⟩:∃ n k:Nat,(∀ N,yS bO fL ⟨dF,[5],0⟩ N z4 [some (.int c),some (.bl g),some (inT [q0,q1,q2,q3,q4]),some (.int (1 + q0)),some (.int q1),none,none,none,none] []=.ok (.nx [some (.int c),some (.bl g),some (inT [q0,q1,q2,q3,q4]),some (.int (n:Nat)),some (.int (k:Nat)),none,none,none,none] []))∧k < 4∧∃ a b,HL n a b∧(∀ p:Int,∃ q:Rat,cC [.int (k:Nat),.int p]=.ok (fq q)∧Sz a b q):=by
     have e3:yE bO (.cmp .eq (.var 4) (.cI 3)) [some (.int c),some (.bl g),some (inT [q0,q1,q2,q3,q4]),some (.int (1 + q0)),some (.int q1),none,none,none,none]=.ok (.bl (decide (q1=3))):=dJ (ab rfl) aI (ck _ _)
     by_cases z:q1=3
     · rw [decide_eq_true z] at e3
       cases g with
       | true=>
         have mn:zB .min [.int (1 + q0),.int 3]=.ok (.int ((min (1 + q0) 3).toNat:Nat)):=by
           rw [DC]
           congr 2
           omega
         refine ⟨(min (1 + q0) 3).toNat,3,fun N=>?_,by decide,133,133,Mc (by omega) (by omega),fun p=>OA⟩
         subst z
         refine (jU (b:=true) (own':=[]) (GA e3 (ab rfl)) rfl).trans ((if_pos rfl).trans (step (dR (own':=[]) rfl ?_ rfl rfl) (ax ..)))
         rw [bZ,ah,ab rfl,Ou.aa,ah,cX,Ou.aa,aw,Ou.aa,Ou.aa,Ou.aa]
         exact mn
       | false=>
         refine ⟨(1 + q0).toNat,0,fun N=>?_,by decide,4,3,Gx (by omega) (by omega),JN (by decide)⟩
         rw [show (((1 + q0).toNat:Nat):Int)=1 + q0 by omega]
         exact (jU (b:=false) (own':=[]) (GA e3 (ab rfl)) rfl).trans ((if_neg (by decide)).trans (step ((jU (own':=[]) e3 rfl).trans ((if_pos rfl).trans (step (dR (own':=[]) rfl aI rfl rfl) (ax ..)))) (ax ..)))
     · rw [decide_eq_false z] at e3
       refine ⟨(1 + q0).toNat,q1.toNat,fun N=>?_,by omega,4,3,Gx (by omega) (by omega),JN (by omega)⟩
       rw [show (((1 + q0).toNat:Nat):Int)=1 + q0 by omega,show ((q1.toNat:Nat):Int)=q1 by omega]
       exact (jU (b:=false) (own':=[]) (by rw [iB,e3,Ou.aa,rT]) rfl).trans ((if_neg (by decide)).trans (step (skip e3 rfl) (ax ..)))
   have h1:=hf.n1
   have h5:=hf.n5
   obtain ⟨A,hA,tA⟩:=table_at cr n n (by omega) (by omega) hk nu
   rw [← nU] at tA
   have md:∀ q:Int,z2 .mod (.int q) (.int (n:Nat))=.ok (.int ((q % (n:Nat)).toNat:Nat)):=fun q=>by
     rw [Int.toNat_of_nonneg (Int.emod_nonneg _ (by omega))]
     exact jR (by omega)
   have ml:∀ q:Int,(q % (n:Nat)).toNat < n:=fun q=>by
     have:=Int.emod_lt_of_pos q (show (0:Int) < (n:Nat) by omega)
     omega
   obtain ⟨G,hG,e⟩:=IG (c:=c) (g:=g) (N:=aR [.int c,.bl g]) (q0:=q0) (q1:=q1) (q2:=q2) (q3:=q3) (q4:=q4) (k:=((k:Nat):Int)) hA (ml q3) (ml q4) h5
   refine ⟨n,a,b,G,hf,hG,?_⟩
   have ow:fF ⟨dF,[5],0⟩ [] (.nm 5) (.call 4 [(.call 5 [(.var 0),(.cI 4000)]),(.var 3),(.var 3),(.var 4)]) (gq n n A) [some (.int c),some (.bl g),some (inT [q0,q1,q2,q3,q4]),some (.int (n:Nat)),some (.int ((k:Nat):Int)),none,none,none,none]=[(5,2)]:=by
     have l:lvT (gq n n A)=2:=DT _ _ _
     unfold fF
     simp only [l]
     rfl
   rw [uZ,zd]
   exact bU (step (dR (own':=[]) rfl (call2 en (ab rfl) (l5 _)) rfl rfl) (step (dR (own':=[]) rfl (aO aI (Ga (k:=0) rfl rfl) rfl) rfl rfl) (step (dR (own':=[]) rfl (Ga (k:=1) rfl rfl) rfl rfl) (step (s4 _) (step (dR (own':=[(5,2)]) rfl (Fj tA (call2 er (ab rfl) aI) (ab rfl) (ab rfl) (ab rfl)) rfl ow) (step (dR (own':=[(5,2)]) rfl (aO (Ga (k:=3) rfl rfl) (ab rfl) (md q3)) rfl rfl) (step (dR (own':=[(5,2)]) rfl (aO (Ga (k:=4) rfl rfl) (ab rfl) (md q4)) rfl rfl) e)))))))
noncomputable def Et:List S:=[.set (.nm 2) (.call 6 [(.call 9 [(.var 0),(.var 1)]),(.cmp .eq (.var 1) (.cI 0))]),.set (.nm 3) (.comp [none] (.nm 0) (.seq (.var 2)) [] (.bi .list [(.var 0)])),.set (.nm 4) (.call 8 [(.var 2)]),.set (.nm 5) (.bi .lrg [(.bi .len [(.var 2)])]),.ite (.or (.not (.call 11 [(.call 30 [(.var 2)]),(.ix (.var 4) (.cI 0)),(.ix (.var 4) (.cI 1))])) (.cmp .ne (.var 2) (.var 3))) [.ret (.cB false)] [],.ite (.or (.not (.call 11 [(.call 36 [(.var 2),(.var 5),(.var 5)]),(.ix (.var 4) (.cI 0)),(.ix (.var 4) (.cI 1))])) (.cmp .ne (.var 2) (.var 3))) [.ret (.cB false)] [],.ite (.not (.call 11 [(.call 30 [(.var 2)]),(.ix (.var 4) (.cI 0)),(.ix (.var 4) (.cI 1))])) [.ret (.cB false)] []]
theorem FD:n8=[.for (.nm 1) (.rng (.bi .max [(.cI 1),(.bi .min [(.cI 12),(.bi .len [(.var 0)])])])) Et,.ret (.cB true)]:=rfl
theorem f0 {Ψ:FnT} {τ:ao} {e:E} {p q:Int} (he:yE Ψ e τ=.ok (pU p q)):yE Ψ (.ix e (.cI 0)) τ=.ok (.int p):=eI he aI (tS _ _)
theorem f1 {Ψ:FnT} {τ:ao} {e:E} {p q:Int} (he:yE Ψ e τ=.ok (pU p q)):yE Ψ (.ix e (.cI 1)) τ=.ok (.int q):=eI he aI (tQ _ _ _)
theorem E8 (ns:List Int) (N k:Nat) (r1 r2 r3 r4 r5:Option T):∃ τ',bA kg An ⟨A3,[],0⟩ N (.nm 1) Et (.int (k:Nat)) [some (inT ns),r1,r2,r3,r4,r5] []=.ok (.nx τ' [])∧∃ r1 r2 r3 r4 r5,τ'=[some (inT ns),r1,r2,r3,r4,r5]:=by
 obtain ⟨c,ec⟩:=HN ns k
 obtain ⟨n,a,b,G,hf,hG,ed⟩:=D6 c (decide (((k:Nat):Int)=0))
 have h1:=hf.n1
 have h5:=hf.n5
 obtain ⟨t,W,eu,W0,key,tl,Wl⟩:=NM (F:=G) h5 (fun i _ j _=>hG i j) hf.hb hf.hc hf.hs
 have ak:=hf.ask n h1 (Nat.le_refl _)
 have dt:=Mx ak fun i _ j _=>hG i j
 have ds:=LP ak fun i _ j _=>hG i j
 have up:Up n n fun i=>i:=⟨fun i j h _=>h,fun i h=>h⟩
 have mi:=EV (F:=G) hf.ask ⟨h1,by omega⟩ h1 (fun i _ j _=>hG i j) up up
 have eq:(det n G).num * W=t * (((det n G).den:Nat):Int):=by
   refine Rat.intCast_inj.mp ?_
   rw [Rat.intCast_mul,Rat.intCast_mul,key,← Ar (det n G)]
   grind
 have isn:=MV ds tl Wl (by decide) (by decide) eq
 have lg':zB .lrg [.int (n:Nat)]=.ok (pv n fun i=>i):=by
   show (if _ then _ else _)=_
   rw [if_pos ⟨by omega,Nat.lt_of_le_of_lt (show ((n:Nat):Int).toNat≤5 by omega) (by decide)⟩]
   rfl
 rw [← uw] at ec
 rw [← tj] at ed
 rw [← wq] at eu
 rw [← mP] at dt
 rw [← yG] at mi
 rw [← nF] at isn
 have ne:=NH n n G
 refine ⟨_,cu rfl rfl (step (bW (call2 ed (call2 ec (ab rfl) (ab rfl)) (dJ (ab rfl) aI (ck _ _))) rfl rfl) (step (bW (Jh (by omega) rfl) rfl rfl) (step (bW (gg eu (ab rfl)) rfl rfl) (step (bW (bi1 lg' (bi1 (fZ n fun i=>line n fun j=>fq (G i j)) (ab rfl))) rfl rfl)
   (step (skip (own':=[]) (rY (iC (b:=true) (v7 isn (gg dt (ab rfl)) (f0 (ab rfl)) (f1 (ab rfl)))) (dJ (ab rfl) (ab rfl) ne)) rfl) (step (skip (own':=[]) (rY (iC (b:=true) (v7 isn (v7 mi (ab rfl) (ab rfl) (ab rfl)) (f0 (ab rfl)) (f1 (ab rfl)))) (dJ (ab rfl) (ab rfl) ne)) rfl) (step (skip (own':=[]) (iC (b:=true) (v7 isn (gg dt (ab rfl)) (f0 (ab rfl)) (f1 (ab rfl)))) rfl) (ax ..)))))))),_,_,_,_,_,rfl⟩
theorem KA (ns:List Int) (hl:ns.length≤63):Ei [inT ns]=.ok (.bl true):=by
 rw [Gw,FD]
 have hN:yE kg (.bi .max [(.cI 1),(.bi .min [(.cI 12),(.bi .len [(.var 0)])])]) [some (inT ns),none,none,none,none,none]=.ok (.int ((max (1:Int) (min 12 ((ns.map T.int).length:Nat))).toNat:Nat)):=by
   have:(((max (1:Int) (min 12 ((ns.map T.int).length:Nat))).toNat:Nat):Int)=max (1:Int) (min 12 ((ns.map T.int).length:Nat)):=by omega
   rw [this,bZ,ah,cX,Ou.aa,ah,bZ,ah,cX,Ou.aa,ah,bi1 (x:=inT ns) (eJ _) (ab rfl),Ou.aa,aw,Ou.aa,Ou.aa,Ou.aa,DC,Ou.aa,Ou.aa,Ou.aa,Ou.aa,KJ]
 obtain ⟨τ',e,r1,r2,r3,r4,r5,rfl⟩:=hZ (own:=[]) (n:=(max (1:Int) (min 12 ((ns.map T.int).length:Nat))).toNat) (f:=bA kg An ⟨A3,[],0⟩ (aR [inT ns]) (.nm 1) Et) (fun _ τ=>∃ r1 r2 r3 r4 r5,τ=[some (inT ns),r1,r2,r3,r4,r5]) (by
   rintro k _ τ ⟨r1,r2,r3,r4,r5,rfl⟩
   exact E8 ns _ k r1 r2 r3 r4 r5) (τ:=[some (inT ns),none,none,none,none,none]) ⟨none,none,none,none,none,rfl⟩
 exact bU (step (gC (own':=[]) (iu hN (by rw [List.length_map]; omega)) rfl e) (bz (ku ..)))
end K09
namespace K09
open PySem PySem.Spec PyProof.Rows L2 Sv
noncomputable def top (i:Nat):Stmt:=PySem.Challenge.pw_signsmooth_k09_determinants_by_orders.main.body.getD i (.Pass ⟨0,0,0,0⟩)
noncomputable abbrev dW:Stmt:=top 37
theorem uQ:aB ["_law_cell_here","_law_bases","_law_row","_law_base","_law_k","_law_mixed"] ["_law_cell_here","_law_bases"] (ae dW):=⟨rfl,rfl,rfl,by decide +kernel,rfl,by decide +kernel,by decide +kernel⟩
theorem vw:cg { sc:=ae dW,N:=["_law_cell_here","_law_bases","_law_row","_law_base","_law_k","_law_mixed"],F:=lS0,cap:=[],cst:=[("MOST",7)] } 60 (af dW)=some gJ:=by with_unfolding_all rfl
noncomputable abbrev dZ:Stmt:=top 39
theorem ve:aB ["_law_one","_law_other","_law_rest_here"] ["_law_one","_law_other"] (ae dZ):=⟨rfl,rfl,rfl,by decide +kernel,rfl,by decide +kernel,by decide +kernel⟩
theorem uV:cg { sc:=ae dZ,N:=["_law_one","_law_other","_law_rest_here"],F:=lS1,cap:=[],cst:=[("MOST",7)] } 60 (af dZ)=some gR:=by with_unfolding_all rfl
noncomputable abbrev iq:Stmt:=top 40
theorem Ct:aB ["_law_top","_law_bottom","_law_common"] ["_law_top","_law_bottom"] (ae iq):=⟨rfl,rfl,rfl,by decide +kernel,rfl,by decide +kernel,by decide +kernel⟩
theorem CU:cg { sc:=ae iq,N:=["_law_top","_law_bottom","_law_common"],F:=lS2,cap:=[],cst:=[("MOST",7)] } 60 (af iq)=some lu:=by with_unfolding_all rfl
noncomputable abbrev eU:Stmt:=top 41
theorem wz:aB ["_law_kind","_law_part","_law_top"] ["_law_kind","_law_part"] (ae eU):=⟨rfl,rfl,rfl,by decide +kernel,rfl,by decide +kernel,by decide +kernel⟩
theorem xr:cg { sc:=ae eU,N:=["_law_kind","_law_part","_law_top"],F:=lS3,cap:=[],cst:=[("MOST",7)] } 60 (af eU)=some cw:=by with_unfolding_all rfl
noncomputable abbrev fA:Stmt:=top 42
theorem zm:aB ["_law_cell_here","_law_many","_law_wide","_law_kind","_law_base","_law_parts"] ["_law_cell_here","_law_many","_law_wide","_law_kind"] (ae fA):=⟨rfl,rfl,rfl,by decide +kernel,rfl,by decide +kernel,by decide +kernel⟩
theorem yT:cg { sc:=ae fA,N:=["_law_cell_here","_law_many","_law_wide","_law_kind","_law_base","_law_parts"],F:=lS4,cap:=[],cst:=[("MOST",7)] } 60 (af fA)=some jB:=by with_unfolding_all rfl
noncomputable abbrev iE:Stmt:=top 38
theorem BY:aB ["_law_cell_here","_law_used"] ["_law_cell_here","_law_used"] (ae iE):=⟨rfl,rfl,rfl,by decide +kernel,rfl,by decide +kernel,by decide +kernel⟩
theorem CO:cg { sc:=ae iE,N:=["_law_cell_here","_law_used"],F:=lS5,cap:=[],cst:=[("MOST",7)] } 60 (af iE)=some kQ:=by with_unfolding_all rfl
noncomputable abbrev fH:Stmt:=top 47
theorem Ah:aB ["_law_cell_here","_law_great","_law_parts","_law_many","_law_kind","_law_table_here","_law_i","_law_j","_law_row"] ["_law_cell_here","_law_great"] (ae fH):=⟨rfl,rfl,rfl,by decide +kernel,rfl,by decide +kernel,by decide +kernel⟩
theorem zf:cg { sc:=ae fH,N:=["_law_cell_here","_law_great","_law_parts","_law_many","_law_kind","_law_table_here","_law_i","_law_j","_law_row"],F:=lS6,cap:=[],cst:=[("MOST",7)] } 60 (af fH)=some fM:=by with_unfolding_all rfl
noncomputable abbrev eP:Stmt:=top 45
theorem xJ:aB ["_law_many","_law_orders_here","_law_k","_law_longer","_law_order"] ["_law_many"] (ae eP):=⟨rfl,rfl,rfl,by decide +kernel,rfl,by decide +kernel,by decide +kernel⟩
theorem w8:cg { sc:=ae eP,N:=["_law_many","_law_orders_here","_law_k","_law_longer","_law_order"],F:=lS7,cap:=[],cst:=[("MOST",7)] } 60 (af eP)=some gh:=by with_unfolding_all rfl
noncomputable abbrev jn:Stmt:=top 46
theorem FX:aB ["_law_table_here","_law_many","_law_bottom","_law_row","_law_number_here","_law_whole_here","_law_k","_law_total","_law_order","_law_part","_law_i","_law_j"] ["_law_table_here"] (ae jn):=⟨rfl,rfl,rfl,by decide +kernel,rfl,by decide +kernel,by decide +kernel⟩
theorem Ey:cg { sc:=ae jn,N:=["_law_table_here","_law_many","_law_bottom","_law_row","_law_number_here","_law_whole_here","_law_k","_law_total","_law_order","_law_part","_law_i","_law_j"],F:=lS8,cap:=[],cst:=[("MOST",7)] } 60 (af jn)=some km:=by with_unfolding_all rfl
noncomputable abbrev ij:Stmt:=top 36
theorem CM:aB ["_law_script","_law_k"] ["_law_script","_law_k"] (ae ij):=⟨rfl,rfl,rfl,by decide +kernel,rfl,by decide +kernel,by decide +kernel⟩
theorem CF:cg { sc:=ae ij,N:=["_law_script","_law_k"],F:=lS9,cap:=[],cst:=[("MOST",7)] } 60 (af ij)=some lq:=by with_unfolding_all rfl
noncomputable abbrev fK:Stmt:=top 43
theorem yP:aB ["_law_thing"] ["_law_thing"] (ae fK):=⟨rfl,rfl,rfl,by decide +kernel,rfl,by decide +kernel,by decide +kernel⟩
theorem zh:cg { sc:=ae fK,N:=["_law_thing"],F:=LK,cap:=[],cst:=[("MOST",7)] } 60 (af fK)=some jN:=by with_unfolding_all rfl
noncomputable abbrev cF:Stmt:=top 44
theorem qO:aB ["_law_found","_law_top","_law_bottom"] ["_law_found","_law_top","_law_bottom"] (ae cF):=⟨rfl,rfl,rfl,by decide +kernel,rfl,by decide +kernel,by decide +kernel⟩
theorem qZ:cg { sc:=ae cF,N:=["_law_found","_law_top","_law_bottom"],F:=KZ,cap:=[],cst:=[("MOST",7)] } 60 (af cF)=some cT:=by with_unfolding_all rfl
noncomputable abbrev bP:Stmt:=top 14
theorem oT:aB ["thing"] ["thing"] (ae bP):=⟨rfl,rfl,rfl,by decide +kernel,rfl,by decide +kernel,by decide +kernel⟩
theorem nV:cg { sc:=ae bP,N:=["thing"],F:=MI,cap:=[],cst:=[("MOST",7)] } 60 (af bP)=some eE:=by with_unfolding_all rfl
noncomputable abbrev eQ:Stmt:=top 7
theorem wg:aB ["thing"] ["thing"] (ae eQ):=⟨rfl,rfl,rfl,by decide +kernel,rfl,by decide +kernel,by decide +kernel⟩
theorem xD:cg { sc:=ae eQ,N:=["thing"],F:=Nc,cap:=[],cst:=[("MOST",7)] } 60 (af eQ)=some iV:=by with_unfolding_all rfl
noncomputable abbrev bF:Stmt:=top 9
theorem mZ:aB ["one","other","greater","lesser","rest"] ["one","other"] (ae bF):=⟨rfl,rfl,rfl,by decide +kernel,rfl,by decide +kernel,by decide +kernel⟩
theorem nO:cg { sc:=ae bF,N:=["one","other","greater","lesser","rest"],F:=Lr,cap:=[],cst:=[("MOST",7)] } 60 (af bF)=some dQ:=by with_unfolding_all rfl
noncomputable abbrev cG:Stmt:=top 8
theorem qt:aB ["thing"] ["thing"] (ae cG):=⟨rfl,rfl,rfl,by decide +kernel,rfl,by decide +kernel,by decide +kernel⟩
theorem rg:cg { sc:=ae cG,N:=["thing"],F:=L4,cap:=[],cst:=[("MOST",7)] } 60 (af cG)=some fg:=by with_unfolding_all rfl
noncomputable abbrev iw:Stmt:=top 15
theorem CD:aB ["thing"] ["thing"] (ae iw):=⟨rfl,rfl,rfl,by decide +kernel,rfl,by decide +kernel,by decide +kernel⟩
theorem CJ:cg { sc:=ae iw,N:=["thing"],F:=LU,cap:=[],cst:=[("MOST",7)] } 60 (af iw)=some kJ:=by with_unfolding_all rfl
noncomputable abbrev eR:Stmt:=top 16
theorem wL:aB ["thing"] ["thing"] (ae eR):=⟨rfl,rfl,rfl,by decide +kernel,rfl,by decide +kernel,by decide +kernel⟩
theorem w9:cg { sc:=ae eR,N:=["thing"],F:=LW,cap:=[],cst:=[("MOST",7)] } 60 (af eR)=some iW:=by with_unfolding_all rfl
noncomputable abbrev dh:Stmt:=top 19
theorem sR:aB ["thing"] ["thing"] (ae dh):=⟨rfl,rfl,rfl,by decide +kernel,rfl,by decide +kernel,by decide +kernel⟩
theorem tE:cg { sc:=ae dh,N:=["thing"],F:=LO,cap:=[],cst:=[("MOST",7)] } 60 (af dh)=some dE:=by with_unfolding_all rfl
noncomputable abbrev cH:Stmt:=top 27
theorem qk:aB ["table"] ["table"] (ae cH):=⟨rfl,rfl,rfl,by decide +kernel,rfl,by decide +kernel,by decide +kernel⟩
theorem qE:cg { sc:=ae cH,N:=["table"],F:=L8,cap:=[],cst:=[("MOST",7)] } 60 (af cH)=some cQ:=by with_unfolding_all rfl
noncomputable abbrev bB:Stmt:=top 10
theorem mD:aB ["top","bottom","divisor"] ["top","bottom"] (ae bB):=⟨rfl,rfl,rfl,by decide +kernel,rfl,by decide +kernel,by decide +kernel⟩
theorem mC:cg { sc:=ae bB,N:=["top","bottom","divisor"],F:=K4,cap:=[],cst:=[("MOST",7)] } 60 (af bB)=some bG:=by with_unfolding_all rfl
noncomputable abbrev eO:Stmt:=top 11
theorem wB:aB ["top","bottom"] ["top","bottom"] (ae eO):=⟨rfl,rfl,rfl,by decide +kernel,rfl,by decide +kernel,by decide +kernel⟩
theorem xn:cg { sc:=ae eO,N:=["top","bottom"],F:=M8,cap:=[],cst:=[("MOST",7)] } 60 (af eO)=some eZ:=by with_unfolding_all rfl
noncomputable abbrev eS:Stmt:=top 28
theorem xh:aB ["row","scale","number"] ["row"] (ae eS):=⟨rfl,rfl,rfl,by decide +kernel,rfl,by decide +kernel,by decide +kernel⟩
theorem yq:cg { sc:=ae eS,N:=["row","scale","number"],F:=LI,cap:=[],cst:=[("MOST",7)] } 60 (af eS)=some fV:=by with_unfolding_all rfl
noncomputable abbrev cD:Stmt:=top 33
theorem qo:aB ["grid","k","i"] ["grid","k"] (ae cD):=⟨rfl,rfl,rfl,by decide +kernel,rfl,by decide +kernel,by decide +kernel⟩
theorem rZ:cg { sc:=ae cD,N:=["grid","k","i"],F:=Kk,cap:=[],cst:=[("MOST",7)] } 60 (af cD)=some cR:=by with_unfolding_all rfl
noncomputable abbrev fv:Stmt:=top 34
theorem zR:aB ["row","pivot_row","k","last","pivot","factor"] ["row","pivot_row","k","last"] (ae fv):=⟨rfl,rfl,rfl,by decide +kernel,rfl,by decide +kernel,by decide +kernel⟩
theorem zo:cg { sc:=ae fv,N:=["row","pivot_row","k","last","pivot","factor"],F:=L9,cap:=[],cst:=[("MOST",7)] } 60 (af fv)=some fG:=by with_unfolding_all rfl
noncomputable abbrev aY:Stmt:=top 32
theorem ka:aB ["rows","grid","many","sign","last","k","at","i"] ["rows"] (ae aY):=⟨rfl,rfl,rfl,by decide +kernel,rfl,by decide +kernel,by decide +kernel⟩
theorem kv:cg { sc:=ae aY,N:=["rows","grid","many","sign","last","k","at","i"],F:=Mv,cap:=[],cst:=[("MOST",7)] } 60 (af aY)=some bq:=by with_unfolding_all rfl
noncomputable abbrev bD:Stmt:=top 31
theorem mR:aB ["numbers","found","number"] ["numbers"] (ae bD):=⟨rfl,rfl,rfl,by decide +kernel,rfl,by decide +kernel,by decide +kernel⟩
theorem mQ:cg { sc:=ae bD,N:=["numbers","found","number"],F:=My,cap:=[],cst:=[("MOST",7)] } 60 (af bD)=some cv:=by with_unfolding_all rfl
noncomputable abbrev ea:Stmt:=top 29
theorem vB:aB ["row","scale"] ["row","scale"] (ae ea):=⟨rfl,rfl,rfl,by decide +kernel,rfl,by decide +kernel,by decide +kernel⟩
theorem vt:cg { sc:=ae ea,N:=["row","scale"],F:=MO,cap:=[],cst:=[("MOST",7)] } 60 (af ea)=some eA:=by with_unfolding_all rfl
noncomputable abbrev cZ:Stmt:=top 30
theorem sM:aB ["table","scales"] ["table","scales"] (ae cZ):=⟨rfl,rfl,rfl,by decide +kernel,rfl,by decide +kernel,by decide +kernel⟩
theorem tF:cg { sc:=ae cZ,N:=["table","scales"],F:=Ly,cap:=[],cst:=[("MOST",7)] } 60 (af cZ)=some dG:=by with_unfolding_all rfl
noncomputable abbrev aX:Stmt:=top 26
theorem j1:aB ["table","scales"] ["table"] (ae aX):=⟨rfl,rfl,rfl,by decide +kernel,rfl,by decide +kernel,by decide +kernel⟩
theorem jZ:cg { sc:=ae aX,N:=["table","scales"],F:=Ml,cap:=[],cst:=[("MOST",7)] } 60 (af aX)=some aZ:=by with_unfolding_all rfl
noncomputable abbrev cE:Stmt:=top 24
theorem sj:aB ["table"] ["table"] (ae cE):=⟨rfl,rfl,rfl,by decide +kernel,rfl,by decide +kernel,by decide +kernel⟩
theorem rH:cg { sc:=ae cE,N:=["table"],F:=Nn,cap:=[],cst:=[("MOST",7)] } 60 (af cE)=some cM:=by with_unfolding_all rfl
noncomputable abbrev d8:Stmt:=top 18
theorem uJ:aB ["numbers"] ["numbers"] (ae d8):=⟨rfl,rfl,rfl,by decide +kernel,rfl,by decide +kernel,by decide +kernel⟩
theorem vH:cg { sc:=ae d8,N:=["numbers"],F:=MZ,cap:=[],cst:=[("MOST",7)] } 60 (af d8)=some gQ:=by with_unfolding_all rfl
noncomputable abbrev dX:Stmt:=top 17
theorem uW:aB ["thing","many"] ["thing","many"] (ae dX):=⟨rfl,rfl,rfl,by decide +kernel,rfl,by decide +kernel,by decide +kernel⟩
theorem vG:cg { sc:=ae dX,N:=["thing","many"],F:=Nr,cap:=[],cst:=[("MOST",7)] } 60 (af dX)=some gM:=by with_unfolding_all rfl
noncomputable abbrev bV:Stmt:=top 20
theorem pJ:aB ["rows","columns","many_rows","many_columns"] ["rows","columns","many_rows","many_columns"] (ae bV):=⟨rfl,rfl,rfl,by decide +kernel,rfl,by decide +kernel,by decide +kernel⟩
theorem pM:cg { sc:=ae bV,N:=["rows","columns","many_rows","many_columns"],F:=LA,cap:=[],cst:=[("MOST",7)] } 60 (af bV)=some cn:=by with_unfolding_all rfl
noncomputable abbrev ia:Stmt:=top 21
theorem Cr:aB ["things","places"] ["things","places"] (ae ia):=⟨rfl,rfl,rfl,by decide +kernel,rfl,by decide +kernel,by decide +kernel⟩
theorem B2:cg { sc:=ae ia,N:=["things","places"],F:=JU,cap:=[],cst:=[("MOST",7)] } 60 (af ia)=some gZ:=by with_unfolding_all rfl
noncomputable abbrev iy:Stmt:=top 22
theorem BF:aB ["table","rows","columns"] ["table","rows","columns"] (ae iy):=⟨rfl,rfl,rfl,by decide +kernel,rfl,by decide +kernel,by decide +kernel⟩
theorem Co:cg { sc:=ae iy,N:=["table","rows","columns"],F:=Kp,cap:=[],cst:=[("MOST",7)] } 60 (af iy)=some gY:=by with_unfolding_all rfl
noncomputable abbrev jM:Stmt:=top 25
theorem FC:aB ["table","rows","columns"] ["table","rows","columns"] (ae jM):=⟨rfl,rfl,rfl,by decide +kernel,rfl,by decide +kernel,by decide +kernel⟩
theorem DX:cg { sc:=ae jM,N:=["table","rows","columns"],F:=K1,cap:=[],cst:=[("MOST",7)] } 60 (af jM)=some jb:=by with_unfolding_all rfl
noncomputable abbrev lQ:Stmt:=top 48
theorem Kv:aB ["_law_script","_law_k","_law_table_here","_law_kept","_law_due_here","_law_every"] ["_law_script"] (ae lQ):=⟨rfl,rfl,rfl,by decide +kernel,rfl,by decide +kernel,by decide +kernel⟩
theorem Mm:cg { sc:=ae lQ,N:=["_law_script","_law_k","_law_table_here","_law_kept","_law_due_here","_law_every"],F:=NZ,cap:=[],cst:=[("MOST",7)] } 60 (af lQ)=some n8:=by with_unfolding_all rfl
end K09
namespace K09
open PySem PySem.Spec PyProof.Rows L2 Sv
set_option maxHeartbeats 0 in
theorem all_mk {l:PySem.W.OpenLaw} {w:World} {K:PySem.W.Frag} {h:Heap} {mg:Str→Option Value} {fa:Addr} (X:K.In h) (G:h.Ns mainGlobals mg) (hfa:mg "law" = some (.ref fa))
   {f0:Addr} {od0 an0:Option Addr} {sl0:Array (Option Value)} {oc0 kV0 dc0 pm0 cd0 ct0:Value}
   {f1:Addr} {od1 an1:Option Addr} {sl1:Array (Option Value)} {oc1 kV1 dc1 pm1 cd1 ct1:Value}
   {f2:Addr} {od2 an2:Option Addr} {sl2:Array (Option Value)} {oc2 kV2 dc2 pm2 cd2 ct2:Value}
   {f3:Addr} {od3 an3:Option Addr} {sl3:Array (Option Value)} {oc3 kV3 dc3 pm3 cd3 ct3:Value}
   {f4:Addr} {od4 an4:Option Addr} {sl4:Array (Option Value)} {oc4 kV4 dc4 pm4 cd4 ct4:Value}
   {f5:Addr} {od5 an5:Option Addr} {sl5:Array (Option Value)} {oc5 kV5 dc5 pm5 cd5 ct5:Value}
   {f6:Addr} {od6 an6:Option Addr} {sl6:Array (Option Value)} {oc6 kV6 dc6 pm6 cd6 ct6:Value}
   {f7:Addr} {od7 an7:Option Addr} {sl7:Array (Option Value)} {oc7 kV7 dc7 pm7 cd7 ct7:Value}
   {f8:Addr} {od8 an8:Option Addr} {sl8:Array (Option Value)} {oc8 kV8 dc8 pm8 cd8 ct8:Value}
   {f9:Addr} {od9 an9:Option Addr} {sl9:Array (Option Value)} {oc9 kV9 dc9 pm9 cd9 ct9:Value}
   {f10:Addr} {od10 an10:Option Addr} {sl10:Array (Option Value)} {oc10 kV10 dc10 pm10 cd10 ct10:Value}
   {f11:Addr} {od11 an11:Option Addr} {sl11:Array (Option Value)} {oc11 kV11 dc11 pm11 cd11 ct11:Value}
   {f12:Addr} {od12 an12:Option Addr} {sl12:Array (Option Value)} {oc12 kV12 dc12 pm12 cd12 ct12:Value}
   {f13:Addr} {od13 an13:Option Addr} {sl13:Array (Option Value)} {oc13 kV13 dc13 pm13 cd13 ct13:Value}
   {f14:Addr} {od14 an14:Option Addr} {sl14:Array (Option Value)} {oc14 kV14 dc14 pm14 cd14 ct14:Value}
   {f15:Addr} {od15 an15:Option Addr} {sl15:Array (Option Value)} {oc15 kV15 dc15 pm15 cd15 ct15:Value}
   {f16:Addr} {od16 an16:Option Addr} {sl16:Array (Option Value)} {oc16 kV16 dc16 pm16 cd16 ct16:Value}
   {f17:Addr} {od17 an17:Option Addr} {sl17:Array (Option Value)} {oc17 kV17 dc17 pm17 cd17 ct17:Value}
   {f18:Addr} {od18 an18:Option Addr} {sl18:Array (Option Value)} {oc18 kV18 dc18 pm18 cd18 ct18:Value}
   {f19:Addr} {od19 an19:Option Addr} {sl19:Array (Option Value)} {oc19 kV19 dc19 pm19 cd19 ct19:Value}
   {f20:Addr} {od20 an20:Option Addr} {sl20:Array (Option Value)} {oc20 kV20 dc20 pm20 cd20 ct20:Value}
   {f21:Addr} {od21 an21:Option Addr} {sl21:Array (Option Value)} {oc21 kV21 dc21 pm21 cd21 ct21:Value}
   {f22:Addr} {od22 an22:Option Addr} {sl22:Array (Option Value)} {oc22 kV22 dc22 pm22 cd22 ct22:Value}
   {f23:Addr} {od23 an23:Option Addr} {sl23:Array (Option Value)} {oc23 kV23 dc23 pm23 cd23 ct23:Value}
   {f24:Addr} {od24 an24:Option Addr} {sl24:Array (Option Value)} {oc24 kV24 dc24 pm24 cd24 ct24:Value}
   {f25:Addr} {od25 an25:Option Addr} {sl25:Array (Option Value)} {oc25 kV25 dc25 pm25 cd25 ct25:Value}
   {f26:Addr} {od26 an26:Option Addr} {sl26:Array (Option Value)} {oc26 kV26 dc26 pm26 cd26 ct26:Value}
   {f27:Addr} {od27 an27:Option Addr} {sl27:Array (Option Value)} {oc27 kV27 dc27 pm27 cd27 ct27:Value}
   {f28:Addr} {od28 an28:Option Addr} {sl28:Array (Option Value)} {oc28 kV28 dc28 pm28 cd28 ct28:Value}
   {f29:Addr} {od29 an29:Option Addr} {sl29:Array (Option Value)} {oc29 kV29 dc29 pm29 cd29 ct29:Value}
   {f30:Addr} {od30 an30:Option Addr} {sl30:Array (Option Value)} {oc30 kV30 dc30 pm30 cd30 ct30:Value}
   {f31:Addr} {od31 an31:Option Addr} {sl31:Array (Option Value)} {oc31 kV31 dc31 pm31 cd31 ct31:Value}
   {f32:Addr} {od32 an32:Option Addr} {sl32:Array (Option Value)} {oc32 kV32 dc32 pm32 cd32 ct32:Value}
   {f33:Addr} {od33 an33:Option Addr} {sl33:Array (Option Value)} {oc33 kV33 dc33 pm33 cd33 ct33:Value}
   {f34:Addr} {od34 an34:Option Addr} {sl34:Array (Option Value)} {oc34 kV34 dc34 pm34 cd34 ct34:Value}
   {f35:Addr} {od35 an35:Option Addr} {sl35:Array (Option Value)} {oc35 kV35 dc35 pm35 cd35 ct35:Value}
   {f36:Addr} {od36 an36:Option Addr} {sl36:Array (Option Value)} {oc36 kV36 dc36 pm36 cd36 ct36:Value}
   {f37:Addr} {od37 an37:Option Addr} {sl37:Array (Option Value)} {oc37 kV37 dc37 pm37 cd37 ct37:Value}
   {t0:Tok}
   {T21:Addr} {td21:Option Addr} {tl21:Array (Option Value)} {tc21:Value} {tt21:Tok} {tn21:Nat}
   (a0:PySem.W.nsIn K mainGlobals "_law_numbers" = some (some (.ref f0))) (l0:K.lookup f0=some ⟨oc0,od0,.func (PySem.W.fnOf "_law_numbers" "_law_numbers" (aA dW) (af dW) (ae dW) .none kV0 dc0 pm0 an0 cd0 ct0),sl0⟩) (c0:PySem.W.codeIn K cd0 "_law_numbers" = true) (k0:PySem.W.keepIn K (.ref f0)=true)
   (a1:PySem.W.nsIn K mainGlobals "_law_divisor" = some (some (.ref f1))) (l1:K.lookup f1=some ⟨oc1,od1,.func (PySem.W.fnOf "_law_divisor" "_law_divisor" (aA dZ) (af dZ) (ae dZ) .none kV1 dc1 pm1 an1 cd1 ct1),sl1⟩) (c1:PySem.W.codeIn K cd1 "_law_divisor" = true) (k1:PySem.W.keepIn K (.ref f1)=true)
   (a2:PySem.W.nsIn K mainGlobals "_law_made" = some (some (.ref f2))) (l2:K.lookup f2=some ⟨oc2,od2,.func (PySem.W.fnOf "_law_made" "_law_made" (aA iq) (af iq) (ae iq) .none kV2 dc2 pm2 an2 cd2 ct2),sl2⟩) (c2:PySem.W.codeIn K cd2 "_law_made" = true) (k2:PySem.W.keepIn K (.ref f2)=true)
   (a3:PySem.W.nsIn K mainGlobals "_law_number" = some (some (.ref f3))) (l3:K.lookup f3=some ⟨oc3,od3,.func (PySem.W.fnOf "_law_number" "_law_number" (aA eU) (af eU) (ae eU) .none kV3 dc3 pm3 an3 cd3 ct3),sl3⟩) (c3:PySem.W.codeIn K cd3 "_law_number" = true) (k3:PySem.W.keepIn K (.ref f3)=true)
   (a4:PySem.W.nsIn K mainGlobals "_law_table" = some (some (.ref f4))) (l4:K.lookup f4=some ⟨oc4,od4,.func (PySem.W.fnOf "_law_table" "_law_table" (aA fA) (af fA) (ae fA) .none kV4 dc4 pm4 an4 cd4 ct4),sl4⟩) (c4:PySem.W.codeIn K cd4 "_law_table" = true) (k4:PySem.W.keepIn K (.ref f4)=true)
   (a5:PySem.W.nsIn K mainGlobals "_law_rest" = some (some (.ref f5))) (l5:K.lookup f5=some ⟨oc5,od5,.func (PySem.W.fnOf "_law_rest" "_law_rest" (aA iE) (af iE) (ae iE) .none kV5 dc5 pm5 an5 cd5 ct5),sl5⟩) (c5:PySem.W.codeIn K cd5 "_law_rest" = true) (k5:PySem.W.keepIn K (.ref f5)=true)
   (a6:PySem.W.nsIn K mainGlobals "_law_drawn" = some (some (.ref f6))) (l6:K.lookup f6=some ⟨oc6,od6,.func (PySem.W.fnOf "_law_drawn" "_law_drawn" (aA fH) (af fH) (ae fH) .none kV6 dc6 pm6 an6 cd6 ct6),sl6⟩) (c6:PySem.W.codeIn K cd6 "_law_drawn" = true) (k6:PySem.W.keepIn K (.ref f6)=true)
   (a7:PySem.W.nsIn K mainGlobals "_law_orders" = some (some (.ref f7))) (l7:K.lookup f7=some ⟨oc7,od7,.func (PySem.W.fnOf "_law_orders" "_law_orders" (aA eP) (af eP) (ae eP) .none kV7 dc7 pm7 an7 cd7 ct7),sl7⟩) (c7:PySem.W.codeIn K cd7 "_law_orders" = true) (k7:PySem.W.keepIn K (.ref f7)=true)
   (a8:PySem.W.nsIn K mainGlobals "_law_due" = some (some (.ref f8))) (l8:K.lookup f8=some ⟨oc8,od8,.func (PySem.W.fnOf "_law_due" "_law_due" (aA jn) (af jn) (ae jn) .none kV8 dc8 pm8 an8 cd8 ct8),sl8⟩) (c8:PySem.W.codeIn K cd8 "_law_due" = true) (k8:PySem.W.keepIn K (.ref f8)=true)
   (a9:PySem.W.nsIn K mainGlobals "_law_cell" = some (some (.ref f9))) (l9:K.lookup f9=some ⟨oc9,od9,.func (PySem.W.fnOf "_law_cell" "_law_cell" (aA ij) (af ij) (ae ij) .none kV9 dc9 pm9 an9 cd9 ct9),sl9⟩) (c9:PySem.W.codeIn K cd9 "_law_cell" = true) (k9:PySem.W.keepIn K (.ref f9)=true)
   (a10:PySem.W.nsIn K mainGlobals "_law_whole" = some (some (.ref f10))) (l10:K.lookup f10=some ⟨oc10,od10,.func (PySem.W.fnOf "_law_whole" "_law_whole" (aA fK) (af fK) (ae fK) .none kV10 dc10 pm10 an10 cd10 ct10),sl10⟩) (c10:PySem.W.codeIn K cd10 "_law_whole" = true) (k10:PySem.W.keepIn K (.ref f10)=true)
   (a11:PySem.W.nsIn K mainGlobals "_law_is_number" = some (some (.ref f11))) (l11:K.lookup f11=some ⟨oc11,od11,.func (PySem.W.fnOf "_law_is_number" "_law_is_number" (aA cF) (af cF) (ae cF) .none kV11 dc11 pm11 an11 cd11 ct11),sl11⟩) (c11:PySem.W.codeIn K cd11 "_law_is_number" = true) (k11:PySem.W.keepIn K (.ref f11)=true)
   (a12:PySem.W.nsIn K mainGlobals "is_short_list" = some (some (.ref f12))) (l12:K.lookup f12=some ⟨oc12,od12,.func (PySem.W.fnOf "is_short_list" "is_short_list" (aA bP) (af bP) (ae bP) .none kV12 dc12 pm12 an12 cd12 ct12),sl12⟩) (c12:PySem.W.codeIn K cd12 "is_short_list" = true) (k12:PySem.W.keepIn K (.ref f12)=true)
   (a13:PySem.W.nsIn K mainGlobals "is_whole" = some (some (.ref f13))) (l13:K.lookup f13=some ⟨oc13,od13,.func (PySem.W.fnOf "is_whole" "is_whole" (aA eQ) (af eQ) (ae eQ) .none kV13 dc13 pm13 an13 cd13 ct13),sl13⟩) (c13:PySem.W.codeIn K cd13 "is_whole" = true) (k13:PySem.W.keepIn K (.ref f13)=true)
   (a14:PySem.W.nsIn K mainGlobals "common_divisor" = some (some (.ref f14))) (l14:K.lookup f14=some ⟨oc14,od14,.func (PySem.W.fnOf "common_divisor" "common_divisor" (aA bF) (af bF) (ae bF) .none kV14 dc14 pm14 an14 cd14 ct14),sl14⟩) (c14:PySem.W.codeIn K cd14 "common_divisor" = true) (k14:PySem.W.keepIn K (.ref f14)=true)
   (a15:PySem.W.nsIn K mainGlobals "is_fraction" = some (some (.ref f15))) (l15:K.lookup f15=some ⟨oc15,od15,.func (PySem.W.fnOf "is_fraction" "is_fraction" (aA cG) (af cG) (ae cG) .none kV15 dc15 pm15 an15 cd15 ct15),sl15⟩) (c15:PySem.W.codeIn K cd15 "is_fraction" = true) (k15:PySem.W.keepIn K (.ref f15)=true)
   (a16:PySem.W.nsIn K mainGlobals "is_row" = some (some (.ref f16))) (l16:K.lookup f16=some ⟨oc16,od16,.func (PySem.W.fnOf "is_row" "is_row" (aA iw) (af iw) (ae iw) .none kV16 dc16 pm16 an16 cd16 ct16),sl16⟩) (c16:PySem.W.codeIn K cd16 "is_row" = true) (k16:PySem.W.keepIn K (.ref f16)=true)
   (a17:PySem.W.nsIn K mainGlobals "is_table" = some (some (.ref f17))) (l17:K.lookup f17=some ⟨oc17,od17,.func (PySem.W.fnOf "is_table" "is_table" (aA eR) (af eR) (ae eR) .none kV17 dc17 pm17 an17 cd17 ct17),sl17⟩) (c17:PySem.W.codeIn K cd17 "is_table" = true) (k17:PySem.W.keepIn K (.ref f17)=true)
   (a18:PySem.W.nsIn K mainGlobals "look_table" = some (some (.ref f18))) (l18:K.lookup f18=some ⟨oc18,od18,.func (PySem.W.fnOf "look_table" "look_table" (aA dh) (af dh) (ae dh) .none kV18 dc18 pm18 an18 cd18 ct18),sl18⟩) (c18:PySem.W.codeIn K cd18 "look_table" = true) (k18:PySem.W.keepIn K (.ref f18)=true)
   (a19:PySem.W.nsIn K mainGlobals "look_square" = some (some (.ref f19))) (l19:K.lookup f19=some ⟨oc19,od19,.func (PySem.W.fnOf "look_square" "look_square" (aA cH) (af cH) (ae cH) .none kV19 dc19 pm19 an19 cd19 ct19),sl19⟩) (c19:PySem.W.codeIn K cd19 "look_square" = true) (k19:PySem.W.keepIn K (.ref f19)=true)
   (a20:PySem.W.nsIn K mainGlobals "in_lowest_terms" = some (some (.ref f20))) (l20:K.lookup f20=some ⟨oc20,od20,.func (PySem.W.fnOf "in_lowest_terms" "in_lowest_terms" (aA bB) (af bB) (ae bB) .none kV20 dc20 pm20 an20 cd20 ct20),sl20⟩) (c20:PySem.W.codeIn K cd20 "in_lowest_terms" = true) (k20:PySem.W.keepIn K (.ref f20)=true)
   (a21:PySem.W.nsIn K mainGlobals "fraction" = some (some (.ref f21))) (l21:K.lookup f21=some ⟨oc21,od21,.func (PySem.W.fnOf "fraction" "fraction" (aA eO) (af eO) (ae eO) (.ref T21) kV21 dc21 pm21 an21 cd21 ct21),sl21⟩) (c21:PySem.W.codeIn K cd21 "fraction" = true) (k21:PySem.W.keepIn K (.ref f21)=true)
   (a22:PySem.W.nsIn K mainGlobals "scale_of" = some (some (.ref f22))) (l22:K.lookup f22=some ⟨oc22,od22,.func (PySem.W.fnOf "scale_of" "scale_of" (aA eS) (af eS) (ae eS) .none kV22 dc22 pm22 an22 cd22 ct22),sl22⟩) (c22:PySem.W.codeIn K cd22 "scale_of" = true) (k22:PySem.W.keepIn K (.ref f22)=true)
   (a23:PySem.W.nsIn K mainGlobals "pivot_place" = some (some (.ref f23))) (l23:K.lookup f23=some ⟨oc23,od23,.func (PySem.W.fnOf "pivot_place" "pivot_place" (aA cD) (af cD) (ae cD) .none kV23 dc23 pm23 an23 cd23 ct23),sl23⟩) (c23:PySem.W.codeIn K cd23 "pivot_place" = true) (k23:PySem.W.keepIn K (.ref f23)=true)
   (a24:PySem.W.nsIn K mainGlobals "cleared" = some (some (.ref f24))) (l24:K.lookup f24=some ⟨oc24,od24,.func (PySem.W.fnOf "cleared" "cleared" (aA fv) (af fv) (ae fv) .none kV24 dc24 pm24 an24 cd24 ct24),sl24⟩) (c24:PySem.W.codeIn K cd24 "cleared" = true) (k24:PySem.W.keepIn K (.ref f24)=true)
   (a25:PySem.W.nsIn K mainGlobals "whole_determinant" = some (some (.ref f25))) (l25:K.lookup f25=some ⟨oc25,od25,.func (PySem.W.fnOf "whole_determinant" "whole_determinant" (aA aY) (af aY) (ae aY) .none kV25 dc25 pm25 an25 cd25 ct25),sl25⟩) (c25:PySem.W.codeIn K cd25 "whole_determinant" = true) (k25:PySem.W.keepIn K (.ref f25)=true)
   (a26:PySem.W.nsIn K mainGlobals "product_of_all" = some (some (.ref f26))) (l26:K.lookup f26=some ⟨oc26,od26,.func (PySem.W.fnOf "product_of_all" "product_of_all" (aA bD) (af bD) (ae bD) .none kV26 dc26 pm26 an26 cd26 ct26),sl26⟩) (c26:PySem.W.codeIn K cd26 "product_of_all" = true) (k26:PySem.W.keepIn K (.ref f26)=true)
   (a27:PySem.W.nsIn K mainGlobals "whole_row" = some (some (.ref f27))) (l27:K.lookup f27=some ⟨oc27,od27,.func (PySem.W.fnOf "whole_row" "whole_row" (aA ea) (af ea) (ae ea) .none kV27 dc27 pm27 an27 cd27 ct27),sl27⟩) (c27:PySem.W.codeIn K cd27 "whole_row" = true) (k27:PySem.W.keepIn K (.ref f27)=true)
   (a28:PySem.W.nsIn K mainGlobals "whole_rows" = some (some (.ref f28))) (l28:K.lookup f28=some ⟨oc28,od28,.func (PySem.W.fnOf "whole_rows" "whole_rows" (aA cZ) (af cZ) (ae cZ) .none kV28 dc28 pm28 an28 cd28 ct28),sl28⟩) (c28:PySem.W.codeIn K cd28 "whole_rows" = true) (k28:PySem.W.keepIn K (.ref f28)=true)
   (a29:PySem.W.nsIn K mainGlobals "square_determinant" = some (some (.ref f29))) (l29:K.lookup f29=some ⟨oc29,od29,.func (PySem.W.fnOf "square_determinant" "square_determinant" (aA aX) (af aX) (ae aX) .none kV29 dc29 pm29 an29 cd29 ct29),sl29⟩) (c29:PySem.W.codeIn K cd29 "square_determinant" = true) (k29:PySem.W.keepIn K (.ref f29)=true)
   (a30:PySem.W.nsIn K mainGlobals "determinant" = some (some (.ref f30))) (l30:K.lookup f30=some ⟨oc30,od30,.func (PySem.W.fnOf "determinant" "determinant" (aA cE) (af cE) (ae cE) .none kV30 dc30 pm30 an30 cd30 ct30),sl30⟩) (c30:PySem.W.codeIn K cd30 "determinant" = true) (k30:PySem.W.keepIn K (.ref f30)=true)
   (a31:PySem.W.nsIn K mainGlobals "is_rising" = some (some (.ref f31))) (l31:K.lookup f31=some ⟨oc31,od31,.func (PySem.W.fnOf "is_rising" "is_rising" (aA d8) (af d8) (ae d8) .none kV31 dc31 pm31 an31 cd31 ct31),sl31⟩) (c31:PySem.W.codeIn K cd31 "is_rising" = true) (k31:PySem.W.keepIn K (.ref f31)=true)
   (a32:PySem.W.nsIn K mainGlobals "is_choice" = some (some (.ref f32))) (l32:K.lookup f32=some ⟨oc32,od32,.func (PySem.W.fnOf "is_choice" "is_choice" (aA dX) (af dX) (ae dX) .none kV32 dc32 pm32 an32 cd32 ct32),sl32⟩) (c32:PySem.W.codeIn K cd32 "is_choice" = true) (k32:PySem.W.keepIn K (.ref f32)=true)
   (a33:PySem.W.nsIn K mainGlobals "look_choices" = some (some (.ref f33))) (l33:K.lookup f33=some ⟨oc33,od33,.func (PySem.W.fnOf "look_choices" "look_choices" (aA bV) (af bV) (ae bV) .none kV33 dc33 pm33 an33 cd33 ct33),sl33⟩) (c33:PySem.W.codeIn K cd33 "look_choices" = true) (k33:PySem.W.keepIn K (.ref f33)=true)
   (a34:PySem.W.nsIn K mainGlobals "picked" = some (some (.ref f34))) (l34:K.lookup f34=some ⟨oc34,od34,.func (PySem.W.fnOf "picked" "picked" (aA ia) (af ia) (ae ia) .none kV34 dc34 pm34 an34 cd34 ct34),sl34⟩) (c34:PySem.W.codeIn K cd34 "picked" = true) (k34:PySem.W.keepIn K (.ref f34)=true)
   (a35:PySem.W.nsIn K mainGlobals "chosen" = some (some (.ref f35))) (l35:K.lookup f35=some ⟨oc35,od35,.func (PySem.W.fnOf "chosen" "chosen" (aA iy) (af iy) (ae iy) .none kV35 dc35 pm35 an35 cd35 ct35),sl35⟩) (c35:PySem.W.codeIn K cd35 "chosen" = true) (k35:PySem.W.keepIn K (.ref f35)=true)
   (a36:PySem.W.nsIn K mainGlobals "minor" = some (some (.ref f36))) (l36:K.lookup f36=some ⟨oc36,od36,.func (PySem.W.fnOf "minor" "minor" (aA jM) (af jM) (ae jM) .none kV36 dc36 pm36 an36 cd36 ct36),sl36⟩) (c36:PySem.W.codeIn K cd36 "minor" = true) (k36:PySem.W.keepIn K (.ref f36)=true)
   (a37:PySem.W.nsIn K mainGlobals "law" = some (some (.ref f37))) (l37:K.lookup f37=some ⟨oc37,od37,.func (PySem.W.fnOf "law" "law" (aA lQ) (af lQ) (ae lQ) .none kV37 dc37 pm37 an37 cd37 ct37),sl37⟩) (c37:PySem.W.codeIn K cd37 "law" = true) (k37:PySem.W.keepIn K (.ref f37)=true)
   (z0:PySem.W.nsIn K mainGlobals "len" = some none)    (z1:PySem.W.nsIn K mainGlobals "abs" = some none)    (z2:PySem.W.nsIn K mainGlobals "max" = some none)    (z3:PySem.W.nsIn K mainGlobals "min" = some none)    (z4:PySem.W.nsIn K mainGlobals "int" = some none)    (z5:PySem.W.nsIn K mainGlobals "bool" = some none)    (z6:PySem.W.nsIn K mainGlobals "list" = some none)    (z7:PySem.W.nsIn K mainGlobals "tuple" = some none)    (z8:PySem.W.nsIn K mainGlobals "str" = some none)    (z9:PySem.W.nsIn K mainGlobals "isinstance" = some none)    (z10:PySem.W.nsIn K mainGlobals "range" = some none)    (z11:PySem.W.nsIn K mainGlobals "enumerate" = some none)    (z12:PySem.W.nsIn K mainGlobals "all" = some none)    (z13:PySem.W.nsIn K mainGlobals "zip" = some none)    (z14:PySem.W.nsIn K mainGlobals "sorted" = some none)    (z15:PySem.W.nsIn K mainGlobals "sum" = some none)    (z16:PySem.W.nsIn K mainGlobals "any" = some none)    (z17:PySem.W.nsIn K mainGlobals "reversed" = some none)    (y0:PySem.W.nsIn K mainGlobals "MOST" = some (some (.int 7 t0)))
   (dt21:K.lookup T21=some ⟨tc21,td21,.seq #[.int 1 tt21] tn21,tl21⟩)
 :
   ∃ fd:FuncData,(∀ (s:Shared) (v:Value),BindsTo s fd ⟨[v],[]⟩ [("_law_script",v)])∧∀ base:Heap,K.In base→base.Ns mainGlobals mg→bK l.prog w K mg base CX0 38 fa fd ["_law_script"] (spU ⟨K,fun _=>0⟩ xo):=by
 have e:=hfa.symm.trans (PySem.W.mg_of X G a37)
 cases e
 have hb:∀ x ∈ Sv.aP,mg x=none:=by
   intro x hx
   simp only [Sv.aP,List.mem_cons,List.not_mem_nil,or_false] at hx
   rcases hx with rfl | rfl | rfl | rfl | rfl | rfl | rfl | rfl | rfl | rfl | rfl | rfl | rfl | rfl | rfl | rfl | rfl | rfl
   · exact PySem.W.mg_none_of X G z0
   · exact PySem.W.mg_none_of X G z1
   · exact PySem.W.mg_none_of X G z2
   · exact PySem.W.mg_none_of X G z3
   · exact PySem.W.mg_none_of X G z4
   · exact PySem.W.mg_none_of X G z5
   · exact PySem.W.mg_none_of X G z6
   · exact PySem.W.mg_none_of X G z7
   · exact PySem.W.mg_none_of X G z8
   · exact PySem.W.mg_none_of X G z9
   · exact PySem.W.mg_none_of X G z10
   · exact PySem.W.mg_none_of X G z11
   · exact PySem.W.mg_none_of X G z12
   · exact PySem.W.mg_none_of X G z13
   · exact PySem.W.mg_none_of X G z14
   · exact PySem.W.mg_none_of X G z15
   · exact PySem.W.mg_none_of X G z16
   · exact PySem.W.mg_none_of X G z17
 have hcst:∀ (x:Str) (i:Int),([("MOST",7)]:List (Str × Int)).lookup x=some i→∃ t,mg x=some (.int i t):=by
   intro x i hx
   simp only [List.lookup_cons,List.lookup_nil] at hx
   split at hx
   · rename_i he
     have he:x = "MOST":=by simpa using he
     subst he
     cases hx
     exact ⟨_,PySem.W.mg_of X G y0⟩
   cases hx
 have F0:=aQ (st:=dW) l0 c0 k0
 have b0:=F0.binds (ps:=["_law_cell_here","_law_bases"]) (gw fun _ _=>rfl)
 have F1:=aQ (st:=dZ) l1 c1 k1
 have b1:=F1.binds (ps:=["_law_one","_law_other"]) (gw fun _ _=>rfl)
 have F2:=aQ (st:=iq) l2 c2 k2
 have b2:=F2.binds (ps:=["_law_top","_law_bottom"]) (gw fun _ _=>rfl)
 have F3:=aQ (st:=eU) l3 c3 k3
 have b3:=F3.binds (ps:=["_law_kind","_law_part"]) (gw fun _ _=>rfl)
 have F4:=aQ (st:=fA) l4 c4 k4
 have b4:=F4.binds (ps:=["_law_cell_here","_law_many","_law_wide","_law_kind"]) (Fy fun _ _ _ _=>rfl)
 have F5:=aQ (st:=iE) l5 c5 k5
 have b5:=F5.binds (ps:=["_law_cell_here","_law_used"]) (gw fun _ _=>rfl)
 have F6:=aQ (st:=fH) l6 c6 k6
 have b6:=F6.binds (ps:=["_law_cell_here","_law_great"]) (gw fun _ _=>rfl)
 have F7:=aQ (st:=eP) l7 c7 k7
 have b7:=F7.binds (ps:=["_law_many"]) (e7 fun _=>rfl)
 have F8:=aQ (st:=jn) l8 c8 k8
 have b8:=F8.binds (ps:=["_law_table_here"]) (e7 fun _=>rfl)
 have F9:=aQ (st:=ij) l9 c9 k9
 have b9:=F9.binds (ps:=["_law_script","_law_k"]) (gw fun _ _=>rfl)
 have F10:=aQ (st:=fK) l10 c10 k10
 have b10:=F10.binds (ps:=["_law_thing"]) (e7 fun _=>rfl)
 have F11:=aQ (st:=cF) l11 c11 k11
 have b11:=F11.binds (ps:=["_law_found","_law_top","_law_bottom"]) (As fun _ _ _=>rfl)
 have F12:=aQ (st:=bP) l12 c12 k12
 have b12:=F12.binds (ps:=["thing"]) (e7 fun _=>rfl)
 have F13:=aQ (st:=eQ) l13 c13 k13
 have b13:=F13.binds (ps:=["thing"]) (e7 fun _=>rfl)
 have F14:=aQ (st:=bF) l14 c14 k14
 have b14:=F14.binds (ps:=["one","other"]) (gw fun _ _=>rfl)
 have F15:=aQ (st:=cG) l15 c15 k15
 have b15:=F15.binds (ps:=["thing"]) (e7 fun _=>rfl)
 have F16:=aQ (st:=iw) l16 c16 k16
 have b16:=F16.binds (ps:=["thing"]) (e7 fun _=>rfl)
 have F17:=aQ (st:=eR) l17 c17 k17
 have b17:=F17.binds (ps:=["thing"]) (e7 fun _=>rfl)
 have F18:=aQ (st:=dh) l18 c18 k18
 have b18:=F18.binds (ps:=["thing"]) (e7 fun _=>rfl)
 have F19:=aQ (st:=cH) l19 c19 k19
 have b19:=F19.binds (ps:=["table"]) (e7 fun _=>rfl)
 have F20:=aQ (st:=bB) l20 c20 k20
 have b20:=F20.binds (ps:=["top","bottom"]) (gw fun _ _=>rfl)
 have F21:=aQ (st:=eO) l21 c21 k21
 have b21:=F21.Nz (ps:=["top","bottom"]) rfl dt21 (gw fun _ _=>⟨_,rfl,rfl⟩)
 have e21:=F21.NF (p:="top") (ps:=["bottom"]) (d:=.int 1 tt21) rfl dt21 (e7 fun _=>⟨_,rfl,rfl⟩)
 have F22:=aQ (st:=eS) l22 c22 k22
 have b22:=F22.binds (ps:=["row"]) (e7 fun _=>rfl)
 have F23:=aQ (st:=cD) l23 c23 k23
 have b23:=F23.binds (ps:=["grid","k"]) (gw fun _ _=>rfl)
 have F24:=aQ (st:=fv) l24 c24 k24
 have b24:=F24.binds (ps:=["row","pivot_row","k","last"]) (Fy fun _ _ _ _=>rfl)
 have F25:=aQ (st:=aY) l25 c25 k25
 have b25:=F25.binds (ps:=["rows"]) (e7 fun _=>rfl)
 have F26:=aQ (st:=bD) l26 c26 k26
 have b26:=F26.binds (ps:=["numbers"]) (e7 fun _=>rfl)
 have F27:=aQ (st:=ea) l27 c27 k27
 have b27:=F27.binds (ps:=["row","scale"]) (gw fun _ _=>rfl)
 have F28:=aQ (st:=cZ) l28 c28 k28
 have b28:=F28.binds (ps:=["table","scales"]) (gw fun _ _=>rfl)
 have F29:=aQ (st:=aX) l29 c29 k29
 have b29:=F29.binds (ps:=["table"]) (e7 fun _=>rfl)
 have F30:=aQ (st:=cE) l30 c30 k30
 have b30:=F30.binds (ps:=["table"]) (e7 fun _=>rfl)
 have F31:=aQ (st:=d8) l31 c31 k31
 have b31:=F31.binds (ps:=["numbers"]) (e7 fun _=>rfl)
 have F32:=aQ (st:=dX) l32 c32 k32
 have b32:=F32.binds (ps:=["thing","many"]) (gw fun _ _=>rfl)
 have F33:=aQ (st:=bV) l33 c33 k33
 have b33:=F33.binds (ps:=["rows","columns","many_rows","many_columns"]) (Fy fun _ _ _ _=>rfl)
 have F34:=aQ (st:=ia) l34 c34 k34
 have b34:=F34.binds (ps:=["things","places"]) (gw fun _ _=>rfl)
 have F35:=aQ (st:=iy) l35 c35 k35
 have b35:=F35.binds (ps:=["table","rows","columns"]) (As fun _ _ _=>rfl)
 have F36:=aQ (st:=jM) l36 c36 k36
 have b36:=F36.binds (ps:=["table","rows","columns"]) (As fun _ _ _=>rfl)
 have F37:=aQ (st:=lQ) l37 c37 k37
 have b37:=F37.binds (ps:=["_law_script"]) (e7 fun _=>rfl)
 refine ⟨PySem.W.fnOf "law" "law" (aA lQ) (af lQ) (ae lQ) .none kV37 dc37 pm37 an37 cd37 ct37,fun s v=>.of_eq rfl,fun base _ _=>?_⟩
 have C0:cy l.prog w K mg base CX0 (fun _=>0) 0 lS0 lF0:=cy.nil
 have G0:bK l.prog w K mg base CX0 1 f0 _ _ (spU ⟨K,fun _=>0⟩ pg):=fnU F0 uQ vw hb hcst C0
 have C1:cy l.prog w K mg base CX0 (fun _=>0) 1 lS1 lF1:=C0.snoc rfl (aV G0 (PySem.W.mg_of X G a0) k0 b0)
 have G1:bK l.prog w K mg base CX0 2 f1 _ _ (spU ⟨K,fun _=>0⟩ pq):=fnU F1 ve uV hb hcst C1
 have C2:cy l.prog w K mg base CX0 (fun _=>0) 2 lS2 lF2:=C1.snoc rfl (aV G1 (PySem.W.mg_of X G a1) k1 b1)
 have G2:bK l.prog w K mg base CX0 3 f2 _ _ (spU ⟨K,fun _=>0⟩ yc):=fnU F2 Ct CU hb hcst C2
 have C3:cy l.prog w K mg base CX0 (fun _=>0) 3 lS3 lF3:=C2.snoc rfl (aV G2 (PySem.W.mg_of X G a2) k2 b2)
 have G3:bK l.prog w K mg base CX0 4 f3 _ _ (spU ⟨K,fun _=>0⟩ rm):=fnU F3 wz xr hb hcst C3
 have C4:cy l.prog w K mg base CX0 (fun _=>0) 4 lS4 lF4:=C3.snoc rfl (aV G3 (PySem.W.mg_of X G a3) k3 b3)
 have G4:bK l.prog w K mg base CX0 5 f4 _ _ (spU ⟨K,fun _=>0⟩ tK):=fnU F4 zm yT hb hcst C4
 have C5:cy l.prog w K mg base CX0 (fun _=>0) 5 lS5 lF5:=C4.snoc rfl (aV G4 (PySem.W.mg_of X G a4) k4 b4)
 have G5:bK l.prog w K mg base CX0 6 f5 _ _ (spU ⟨K,fun _=>0⟩ xx):=fnU F5 BY CO hb hcst C5
 have C6:cy l.prog w K mg base CX0 (fun _=>0) 6 lS6 lF6:=C5.snoc rfl (aV G5 (PySem.W.mg_of X G a5) k5 b5)
 have G6:bK l.prog w K mg base CX0 7 f6 _ _ (spU ⟨K,fun _=>0⟩ t5):=fnU F6 Ah zf hb hcst C6
 have C7:cy l.prog w K mg base CX0 (fun _=>0) 7 lS7 lF7:=C6.snoc rfl (aV G6 (PySem.W.mg_of X G a6) k6 b6)
 have G7:bK l.prog w K mg base CX0 8 f7 _ _ (spU ⟨K,fun _=>0⟩ ql):=fnU F7 xJ w8 hb hcst C7
 have C8:cy l.prog w K mg base CX0 (fun _=>0) 8 lS8 lF8:=C7.snoc rfl (aV G7 (PySem.W.mg_of X G a7) k7 b7)
 have G8:bK l.prog w K mg base CX0 9 f8 _ _ (spU ⟨K,fun _=>0⟩ AF):=fnU F8 FX Ey hb hcst C8
 have C9:cy l.prog w K mg base CX0 (fun _=>0) 9 lS9 lF9:=C8.snoc rfl (aV G8 (PySem.W.mg_of X G a8) k8 b8)
 have G9:bK l.prog w K mg base CX0 10 f9 _ _ (spU ⟨K,fun _=>0⟩ vK):=fnU F9 CM CF hb hcst C9
 have C10:cy l.prog w K mg base CX0 (fun _=>0) 10 LK Ho:=C9.snoc rfl (aV G9 (PySem.W.mg_of X G a9) k9 b9)
 have G10:bK l.prog w K mg base CX0 11 f10 _ _ (spU ⟨K,fun _=>0⟩ tP):=fnU F10 yP zh hb hcst C10
 have C11:cy l.prog w K mg base CX0 (fun _=>0) 11 KZ HW:=C10.snoc rfl (aV G10 (PySem.W.mg_of X G a10) k10 b10)
 have G11:bK l.prog w K mg base CX0 12 f11 _ _ (spU ⟨K,fun _=>0⟩ me):=fnU F11 qO qZ hb hcst C11
 have C12:cy l.prog w K mg base CX0 (fun _=>0) 12 MI Ia:=C11.snoc rfl (aV G11 (PySem.W.mg_of X G a11) k11 b11)
 have G12:bK l.prog w K mg base CX0 13 f12 _ _ (spU ⟨K,fun _=>0⟩ jV):=fnU F12 oT nV hb hcst C12
 have C13:cy l.prog w K mg base CX0 (fun _=>0) 13 Nc HH:=C12.snoc rfl (aV G12 (PySem.W.mg_of X G a12) k12 b12)
 have G13:bK l.prog w K mg base CX0 14 f13 _ _ (spU ⟨K,fun _=>0⟩ qy):=fnU F13 wg xD hb hcst C13
 have C14:cy l.prog w K mg base CX0 (fun _=>0) 14 Lr Hh:=C13.snoc rfl (aV G13 (PySem.W.mg_of X G a13) k13 b13)
 have G14:bK l.prog w K mg base CX0 15 f14 _ _ (spU ⟨K,fun _=>0⟩ jh):=fnU F14 mZ nO hb hcst C14
 have C15:cy l.prog w K mg base CX0 (fun _=>0) 15 L4 GG:=C14.snoc rfl (aV G14 (PySem.W.mg_of X G a14) k14 b14)
 have G15:bK l.prog w K mg base CX0 16 f15 _ _ (spU ⟨K,fun _=>0⟩ lN):=fnU F15 qt rg hb hcst C15
 have C16:cy l.prog w K mg base CX0 (fun _=>0) 16 LU GR:=C15.snoc rfl (aV G15 (PySem.W.mg_of X G a15) k15 b15)
 have G16:bK l.prog w K mg base CX0 17 f16 _ _ (spU ⟨K,fun _=>0⟩ vS):=fnU F16 CD CJ hb hcst C16
 have C17:cy l.prog w K mg base CX0 (fun _=>0) 17 LW Hv:=C16.snoc rfl (aV G16 (PySem.W.mg_of X G a16) k16 b16)
 have G17:bK l.prog w K mg base CX0 18 f17 _ _ (spU ⟨K,fun _=>0⟩ rX):=fnU F17 wL w9 hb hcst C17
 have C18:cy l.prog w K mg base CX0 (fun _=>0) 18 LO IK:=C17.snoc rfl (aV G17 (PySem.W.mg_of X G a17) k17 b17)
 have G18:bK l.prog w K mg base CX0 19 f18 _ _ (spU ⟨K,fun _=>0⟩ mX):=fnU F18 sR tE hb hcst C18
 have C19:cy l.prog w K mg base CX0 (fun _=>0) 19 L8 Ji:=C18.snoc rfl (aV G18 (PySem.W.mg_of X G a18) k18 b18)
 have G19:bK l.prog w K mg base CX0 20 f19 _ _ (spU ⟨K,fun _=>0⟩ lL):=fnU F19 qk qE hb hcst C19
 have C20:cy l.prog w K mg base CX0 (fun _=>0) 20 K4 HA:=C19.snoc rfl (aV G19 (PySem.W.mg_of X G a19) k19 b19)
 have G20:bK l.prog w K mg base CX0 21 f20 _ _ (spU ⟨K,fun _=>0⟩ iO):=fnU F20 mD mC hb hcst C20
 have C21:cy l.prog w K mg base CX0 (fun _=>0) 21 M8 GF:=C20.snoc rfl (aV G20 (PySem.W.mg_of X G a20) k20 b20)
 have G21:bK l.prog w K mg base CX0 22 f21 _ _ (spU ⟨K,fun _=>0⟩ rh):=fnU F21 wB xn hb hcst C21
 have C22:cy l.prog w K mg base CX0 (fun _=>0) 22 LI GI:=C21.snoc rfl (Mb G21 (PySem.W.mg_of X G a21) k21 b21 e21)
 have G22:bK l.prog w K mg base CX0 23 f22 _ _ (spU ⟨K,fun _=>0⟩ rV):=fnU F22 xh yq hb hcst C22
 have C23:cy l.prog w K mg base CX0 (fun _=>0) 23 Kk IM:=C22.snoc rfl (aV G22 (PySem.W.mg_of X G a22) k22 b22)
 have G23:bK l.prog w K mg base CX0 24 f23 _ _ (spU ⟨K,fun _=>0⟩ lX):=fnU F23 qo rZ hb hcst C23
 have C24:cy l.prog w K mg base CX0 (fun _=>0) 24 L9 HY:=C23.snoc rfl (aV G23 (PySem.W.mg_of X G a23) k23 b23)
 have G24:bK l.prog w K mg base CX0 25 f24 _ _ (spU ⟨K,fun _=>0⟩ tV):=fnU F24 zR zo hb hcst C24
 have C25:cy l.prog w K mg base CX0 (fun _=>0) 25 Mv II:=C24.snoc rfl (aV G24 (PySem.W.mg_of X G a24) k24 b24)
 have G25:bK l.prog w K mg base CX0 26 f25 _ _ (spU ⟨K,fun _=>0⟩ gA):=fnU F25 ka kv hb hcst C25
 have C26:cy l.prog w K mg base CX0 (fun _=>0) 26 My Jf:=C25.snoc rfl (aV G25 (PySem.W.mg_of X G a25) k25 b25)
 have G26:bK l.prog w K mg base CX0 27 f26 _ _ (spU ⟨K,fun _=>0⟩ jc):=fnU F26 mR mQ hb hcst C26
 have C27:cy l.prog w K mg base CX0 (fun _=>0) 27 MO Jl:=C26.snoc rfl (aV G26 (PySem.W.mg_of X G a26) k26 b26)
 have G27:bK l.prog w K mg base CX0 28 f27 _ _ (spU ⟨K,fun _=>0⟩ o9):=fnU F27 vB vt hb hcst C27
 have C28:cy l.prog w K mg base CX0 (fun _=>0) 28 Ly Ig:=C27.snoc rfl (aV G27 (PySem.W.mg_of X G a27) k27 b27)
 have G28:bK l.prog w K mg base CX0 29 f28 _ _ (spU ⟨K,fun _=>0⟩ nG):=fnU F28 sM tF hb hcst C28
 have C29:cy l.prog w K mg base CX0 (fun _=>0) 29 Ml HU:=C28.snoc rfl (aV G28 (PySem.W.mg_of X G a28) k28 b28)
 have G29:bK l.prog w K mg base CX0 30 f29 _ _ (spU ⟨K,fun _=>0⟩ gc):=fnU F29 j1 jZ hb hcst C29
 have C30:cy l.prog w K mg base CX0 (fun _=>0) 30 Nn Jv:=C29.snoc rfl (aV G29 (PySem.W.mg_of X G a29) k29 b29)
 have G30:bK l.prog w K mg base CX0 31 f30 _ _ (spU ⟨K,fun _=>0⟩ mf):=fnU F30 sj rH hb hcst C30
 have C31:cy l.prog w K mg base CX0 (fun _=>0) 31 MZ GQ:=C30.snoc rfl (aV G30 (PySem.W.mg_of X G a30) k30 b30)
 have G31:bK l.prog w K mg base CX0 32 f31 _ _ (spU ⟨K,fun _=>0⟩ o8):=fnU F31 uJ vH hb hcst C31
 have C32:cy l.prog w K mg base CX0 (fun _=>0) 32 Nr IP:=C31.snoc rfl (aV G31 (PySem.W.mg_of X G a31) k31 b31)
 have G32:bK l.prog w K mg base CX0 33 f32 _ _ (spU ⟨K,fun _=>0⟩ pA):=fnU F32 uW vG hb hcst C32
 have C33:cy l.prog w K mg base CX0 (fun _=>0) 33 LA IL:=C32.snoc rfl (aV G32 (PySem.W.mg_of X G a32) k32 b32)
 have G33:bK l.prog w K mg base CX0 34 f33 _ _ (spU ⟨K,fun _=>0⟩ kr):=fnU F33 pJ pM hb hcst C33
 have C34:cy l.prog w K mg base CX0 (fun _=>0) 34 JU Hy:=C33.snoc rfl (aV G33 (PySem.W.mg_of X G a33) k33 b33)
 have G34:bK l.prog w K mg base CX0 35 f34 _ _ (spU ⟨K,fun _=>0⟩ vW):=fnU F34 Cr B2 hb hcst C34
 have C35:cy l.prog w K mg base CX0 (fun _=>0) 35 Kp Jm:=C34.snoc rfl (aV G34 (PySem.W.mg_of X G a34) k34 b34)
 have G35:bK l.prog w K mg base CX0 36 f35 _ _ (spU ⟨K,fun _=>0⟩ yp):=fnU F35 BF Co hb hcst C35
 have C36:cy l.prog w K mg base CX0 (fun _=>0) 36 K1 Iz:=C35.snoc rfl (aV G35 (PySem.W.mg_of X G a35) k35 b35)
 have G36:bK l.prog w K mg base CX0 37 f36 _ _ (spU ⟨K,fun _=>0⟩ Ao):=fnU F36 FC DX hb hcst C36
 have C37:cy l.prog w K mg base CX0 (fun _=>0) 37 NZ Iu:=C36.snoc rfl (aV G36 (PySem.W.mg_of X G a36) k36 b36)
 have G37:bK l.prog w K mg base CX0 38 fa _ _ (spU ⟨K,fun _=>0⟩ xo):=fnU F37 Kv Mm hb hcst C37
 exact G37
theorem walk {l:PySem.W.OpenLaw} {q:Program} {loose:List Str} {XP:(Str→Option Value)→Heap→Prop} {YP:World→Heap→Prop} {d:DefRec} {K:Params→PySem.W.Frag} (hn:l.most=some 63) (hdf:d.params.defaults=[])
   (hY:∀ (w:World) (h:Heap),YP w h→(K w.params).In h)
   (F:∀ (w:World) (mg:Str→Option Value) (fa:Addr) (h:Heap),(K w.params).In h→h.Ns mainGlobals mg→mg d.name=some (.ref fa) →
     ∃ fd:FuncData,(∀ (s:Shared) (u:Value),BindsTo s fd ⟨[u],[]⟩ [("_law_script",u)])∧∀ base:Heap,(K w.params).In base→base.Ns mainGlobals mg→bK l.prog w (K w.params) mg base CX0 38 fa fd ["_law_script"] (spU ⟨K w.params,fun _=>0⟩ xo)) :
   PySem.W.WalkO q loose XP YP l.row.toRowW d [] (fun f vs=>PySem.call f vs):=
 L2.Iq (n:=63) (k:=38) (x:="_law_script") (CX:=fun _=>CX0) (sp:=fun w=>spU ⟨K w.params,fun _=>0⟩ xo) hn (by decide) hdf ⟨rfl,by decide,by decide⟩ hY F
   (fun w H a ns hl hO hS=>La (N8.at.1 37) (fun ns h=>KA ns h) w H a ns hl hO hS) fun _ _ _ _ _ z=>z
end K09
open PySem PySem.W PyProof.Rows
theorem PySem.W.Fast.tw7967158976017553302:True:=trivial
theorem PySem.W.Fast.tw16722712703158884431:True:=trivial
theorem PySem.W.Fast.tw2964850463468679707:True:=trivial
theorem PySem.W.Fast.tw8014231148739696717:True:=trivial
theorem PySem.W.Fast.tw10747867466291288975:True:=trivial
theorem PySem.W.Fast.tw17160014825141254242:True:=trivial
theorem PySem.W.Fast.tw13635543987157510291:True:=trivial
theorem PySem.W.Fast.tw14884600193116830755:True:=trivial
theorem PySem.W.Fast.tw10641404288821449835:True:=trivial
theorem PySem.W.Fast.tw14881987554358325001:True:=trivial
theorem PySem.W.Fast.tw7894552431299238832:True:=trivial
theorem PySem.W.Fast.tw3076216338019315780:True:=trivial
theorem PySem.W.Fast.tw8686330815645587438:True:=trivial
theorem PySem.W.Fast.tw10653325696554058578:True:=trivial
set_option maxRecDepth 100000 in
set_option maxHeartbeats 0 in
theorem PySem.Challenge.cw_signsmooth_k09_determinants_by_orders_holds : PySem.Challenge.rw_signsmooth_k09_determinants_by_orders.Holds := by
 w_on; o_law; k_head; (case hw=>w_witness2)
 k_fill
 refine K09.walk (l:=PySem.Challenge.rw_signsmooth_k09_determinants_by_orders) rfl rfl (fun w h Y=>PySem.W.kIn_of Y) ?F
 case F=>
   intro w mg fa h KX G hmg
   refine' K09.all_mk KX G hmg ?a0 ?l0 ?c0 ?k0 ?a1 ?l1 ?c1 ?k1 ?a2 ?l2 ?c2 ?k2 ?a3 ?l3 ?c3 ?k3 ?a4 ?l4 ?c4 ?k4 ?a5 ?l5 ?c5 ?k5 ?a6 ?l6 ?c6 ?k6 ?a7 ?l7 ?c7 ?k7 ?a8 ?l8 ?c8 ?k8 ?a9 ?l9 ?c9 ?k9 ?a10 ?l10 ?c10 ?k10 ?a11 ?l11 ?c11 ?k11 ?a12 ?l12 ?c12 ?k12 ?a13 ?l13 ?c13 ?k13 ?a14 ?l14 ?c14 ?k14 ?a15 ?l15 ?c15 ?k15 ?a16 ?l16 ?c16 ?k16 ?a17 ?l17 ?c17 ?k17 ?a18 ?l18 ?c18 ?k18 ?a19 ?l19 ?c19 ?k19 ?a20 ?l20 ?c20 ?k20 ?a21 ?l21 ?c21 ?k21 ?a22 ?l22 ?c22 ?k22 ?a23 ?l23 ?c23 ?k23 ?a24 ?l24 ?c24 ?k24 ?a25 ?l25 ?c25 ?k25 ?a26 ?l26 ?c26 ?k26 ?a27 ?l27 ?c27 ?k27 ?a28 ?l28 ?c28 ?k28 ?a29 ?l29 ?c29 ?k29 ?a30 ?l30 ?c30 ?k30 ?a31 ?l31 ?c31 ?k31 ?a32 ?l32 ?c32 ?k32 ?a33 ?l33 ?c33 ?k33 ?a34 ?l34 ?c34 ?k34 ?a35 ?l35 ?c35 ?k35 ?a36 ?l36 ?c36 ?k36 ?a37 ?l37 ?c37 ?k37 ?z0 ?z1 ?z2 ?z3 ?z4 ?z5 ?z6 ?z7 ?z8 ?z9 ?z10 ?z11 ?z12 ?z13 ?z14 ?z15 ?z16 ?z17 ?y0 ?dt21
   (case a0=>k_is)
   (case l0=>k_is)
   (case c0=>k_is)
   (case k0=>k_is)
   (case a1=>k_is)
   (case l1=>k_is)
   (case c1=>k_is)
   (case k1=>k_is)
   (case a2=>k_is)
   (case l2=>k_is)
   (case c2=>k_is)
   (case k2=>k_is)
   (case a3=>k_is)
   (case l3=>k_is)
   (case c3=>k_is)
   (case k3=>k_is)
   (case a4=>k_is)
   (case l4=>k_is)
   (case c4=>k_is)
   (case k4=>k_is)
   (case a5=>k_is)
   (case l5=>k_is)
   (case c5=>k_is)
   (case k5=>k_is)
   (case a6=>k_is)
   (case l6=>k_is)
   (case c6=>k_is)
   (case k6=>k_is)
   (case a7=>k_is)
   (case l7=>k_is)
   (case c7=>k_is)
   (case k7=>k_is)
   (case a8=>k_is)
   (case l8=>k_is)
   (case c8=>k_is)
   (case k8=>k_is)
   (case a9=>k_is)
   (case l9=>k_is)
   (case c9=>k_is)
   (case k9=>k_is)
   (case a10=>k_is)
   (case l10=>k_is)
   (case c10=>k_is)
   (case k10=>k_is)
   (case a11=>k_is)
   (case l11=>k_is)
   (case c11=>k_is)
   (case k11=>k_is)
   (case a12=>k_is)
   (case l12=>k_is)
   (case c12=>k_is)
   (case k12=>k_is)
   (case a13=>k_is)
   (case l13=>k_is)
   (case c13=>k_is)
   (case k13=>k_is)
   (case a14=>k_is)
   (case l14=>k_is)
   (case c14=>k_is)
   (case k14=>k_is)
   (case a15=>k_is)
   (case l15=>k_is)
   (case c15=>k_is)
   (case k15=>k_is)
   (case a16=>k_is)
   (case l16=>k_is)
   (case c16=>k_is)
   (case k16=>k_is)
   (case a17=>k_is)
   (case l17=>k_is)
   (case c17=>k_is)
   (case k17=>k_is)
   (case a18=>k_is)
   (case l18=>k_is)
   (case c18=>k_is)
   (case k18=>k_is)
   (case a19=>k_is)
   (case l19=>k_is)
   (case c19=>k_is)
   (case k19=>k_is)
   (case a20=>k_is)
   (case l20=>k_is)
   (case c20=>k_is)
   (case k20=>k_is)
   (case a21=>k_is)
   (case l21=>k_is)
   (case c21=>k_is)
   (case k21=>k_is)
   (case a22=>k_is)
   (case l22=>k_is)
   (case c22=>k_is)
   (case k22=>k_is)
   (case a23=>k_is)
   (case l23=>k_is)
   (case c23=>k_is)
   (case k23=>k_is)
   (case a24=>k_is)
   (case l24=>k_is)
   (case c24=>k_is)
   (case k24=>k_is)
   (case a25=>k_is)
   (case l25=>k_is)
   (case c25=>k_is)
   (case k25=>k_is)
   (case a26=>k_is)
   (case l26=>k_is)
   (case c26=>k_is)
   (case k26=>k_is)
   (case a27=>k_is)
   (case l27=>k_is)
   (case c27=>k_is)
   (case k27=>k_is)
   (case a28=>k_is)
   (case l28=>k_is)
   (case c28=>k_is)
   (case k28=>k_is)
   (case a29=>k_is)
   (case l29=>k_is)
   (case c29=>k_is)
   (case k29=>k_is)
   (case a30=>k_is)
   (case l30=>k_is)
   (case c30=>k_is)
   (case k30=>k_is)
   (case a31=>k_is)
   (case l31=>k_is)
   (case c31=>k_is)
   (case k31=>k_is)
   (case a32=>k_is)
   (case l32=>k_is)
   (case c32=>k_is)
   (case k32=>k_is)
   (case a33=>k_is)
   (case l33=>k_is)
   (case c33=>k_is)
   (case k33=>k_is)
   (case a34=>k_is)
   (case l34=>k_is)
   (case c34=>k_is)
   (case k34=>k_is)
   (case a35=>k_is)
   (case l35=>k_is)
   (case c35=>k_is)
   (case k35=>k_is)
   (case a36=>k_is)
   (case l36=>k_is)
   (case c36=>k_is)
   (case k36=>k_is)
   (case a37=>k_is)
   (case l37=>k_is)
   (case c37=>k_is)
   (case k37=>k_is)
   (case z0=>k_is)
   (case z1=>k_is)
   (case z2=>k_is)
   (case z3=>k_is)
   (case z4=>k_is)
   (case z5=>k_is)
   (case z6=>k_is)
   (case z7=>k_is)
   (case z8=>k_is)
   (case z9=>k_is)
   (case z10=>k_is)
   (case z11=>k_is)
   (case z12=>k_is)
   (case z13=>k_is)
   (case z14=>k_is)
   (case z15=>k_is)
   (case z16=>k_is)
   (case z17=>k_is)
   (case y0=>k_is)
   (case dt21=>k_is)
#print axioms PySem.Challenge.cw_signsmooth_k09_determinants_by_orders_holds
