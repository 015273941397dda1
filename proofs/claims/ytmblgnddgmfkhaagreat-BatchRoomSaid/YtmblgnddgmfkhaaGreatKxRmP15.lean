/- Layer 15, plainly: a schema of owners, its tuples, and how many there may be. Conditions: none. -/
import Derived.Test.YtmblgnddgmfkhaaGreatK44
set_option maxRecDepth 100000
set_option maxHeartbeats 4000000
namespace Go.Proofs.YtmblgnddgmfkhaaGreat
open Go.RowKit
variable {f:CoF} {s:Sto Tb Nd15}
def TO15:List TypP:=[⟨⟨#[117,115,101,114]⟩,[]⟩,⟨⟨#[100,111,99]⟩,[⟨⟨#[111,119,110]⟩,⟨#[111,119,110]⟩,⟨#[111,119,110]⟩,⟨#[111,119,110]⟩,[(⟨#[117,115,101,114]⟩,⟨#[]⟩)],[(1,⟨#[]⟩,⟨#[]⟩)]⟩]⟩]
abbrev own15:ByteArray:=⟨#[116,121,112,101,32,117,115,101,114,32,123,125,32,116,121,112,101,32,100,111,99,32,123,32,114,101,108,32,111,119,110,32,40,111,119,110,44,32,111,119,110,44,32,111,119,110,41,58,32,117,115,101,114,59,32,125]⟩
theorem exO_says:zak own15=(TO15,0,0):=by decide +kernel
theorem exO_edges:zbr (TO15.map zbY)=[]:=by decide +kernel
theorem exO_right:(zcY (TO15.map zbY)).1=0:=by decide +kernel
theorem exO_size:¬2048<(zdE TO15).size:=by decide +kernel
theorem exO_rels (v:List Int):zhU (TO15.map zbY) v=[zdL (zaZ (TO15.map zbY)) (zcg v 0) ((zbb (TO15.map zbY)).getD 0 (⟨⟨#[]⟩,[]⟩,⟨⟨#[]⟩,⟨#[]⟩,⟨#[]⟩,⟨#[]⟩,[],[]⟩))]:=rfl
theorem exO_subs (lv:Int):(zdL (zaZ (TO15.map zbY)) lv ((zbb (TO15.map zbY)).getD 0 (⟨⟨#[]⟩,[]⟩,⟨⟨#[]⟩,⟨#[]⟩,⟨#[]⟩,⟨#[]⟩,[],[]⟩))).subs=[(⟨#[117,115,101,114]⟩,⟨#[]⟩)]:=by kernel_rfl
theorem compO_is:∃tx r,CompIs own15 0 tx [⟨#[117,115,101,114]⟩,⟨#[100,111,99]⟩] [(⟨#[100,111,99]⟩,⟨#[111,119,110]⟩)] [r]∧r.subs=[(⟨#[117,115,101,114]⟩,⟨#[]⟩)]:=by
 have f:(zak own15).2.1=0:=by rw [exO_says]
 have b:(zak own15).1=TO15:=by rw [exO_says]
 have g:Right ((zak own15).1.map zbY):=by rw [b];exact (zfi _).1.1 exO_right
 have:=CompIs.ok (s:=own15) f g [0] (by rw [b];rfl) (by rw [b,exO_edges];intro e h;cases h) (by
  rw [b,exO_edges];refine ⟨⟨fun i hi=>?_,fun e h=>by cases h⟩,fun u j i hi=>?_⟩
  · have:i=0:=by simpa using hi
    subst this;decide
  · have k:=j.1 i hi;have:i=0:=by simpa using hi
    subst this;exact k) (by rw [b];exact Nat.not_lt.1 exO_size)
 rw [b,exO_rels] at this;exact ⟨_,_,this,exO_subs _⟩
def tupW (i:Nat):TuP:=((⟨#[100,111,99]⟩,⟨#[UInt8.ofNat (97 + i)]⟩,⟨#[111,119,110]⟩),(⟨#[117,115,101,114]⟩,⟨#[97]⟩,⟨#[]⟩))
theorem tupW_key:∀i<9,∀j<9,za4 (tupW i)=za4 (tupW j)→i=j:=by decide +kernel
theorem tupW_few:∀i<9,(za4 (tupW i)).size≤400∧∀x ∈ zav (tupW i),x.size≤100:=by decide +kernel
theorem tupW_cond:∀i<9,zl5 (tupW i)=true∧(zat [((⟨#[100,111,99]⟩:ByteArray),(⟨#[111,119,110]⟩:ByteArray))] ((tupW i).1.1,(tupW i).1.2.2)).isSome=true∧zqD [⟨#[117,115,101,114]⟩,⟨#[100,111,99]⟩] [((⟨#[100,111,99]⟩:ByteArray),(⟨#[111,119,110]⟩:ByteArray))] (tupW i).2.1 (tupW i).2.2.2=true:=by decide +kernel
theorem exO_f (hG:CompG f):(f own15).1=0∧∀i<9,zaR (f own15).2.2 (tupW i)=0:=by
 obtain ⟨tx,r,h,b⟩:=compO_is;rw [hG.is h];refine ⟨rfl,fun i hi=>?_⟩;unfold zaR zeg;rw [yan (tupW_cond i hi)];have g:mayT (mkK [r]) [(⟨#[100,111,99]⟩,⟨#[111,119,110]⟩)] (tupW i)=true:=by
  unfold mayT tupW mkK;rw [show ixP [((⟨#[100,111,99]⟩:ByteArray),(⟨#[111,119,110]⟩:ByteArray))] (⟨#[100,111,99]⟩,⟨#[111,119,110]⟩)=0 from by decide +kernel,yaX,ycw,zpF (i:=0) rfl];dsimp only;rw [b];simp
 rw [yan g]
structure RoomS (T:Tb) (q:Int) (s:Sto Tb Nd15) (m:Nat):Prop where
 keys:(zah s).keys=[]
 quota:s.quota=q
 floor:s.floor=0
 len:s.L.length=m + 1
 tab:0<m→(zah s).T=T
theorem RoomS.begin (T:Tb) {q:Int} (hq:0≤q):RoomS T q (zbQ q) 0:=⟨rfl,by unfold zbQ;exact yak yab,rfl,rfl,fun h=>absurd h yac⟩
theorem RoomS.more {q:Int} {m:Nat} (hc:((p15 f).comp own15).1=0) (h:RoomS ((p15 f).comp own15).2.2 q s m) (n:Nd15):∃s',zaC (p15 f) s n own15=(s',if m<63 then 0 else 42)∧RoomS ((p15 f).comp own15).2.2 q s' (if m<63 then m + 1 else m):=by
 have b:=h.len;rw [zlW hc h.keys];by_cases e:m<63
 · rw [yak yab,yan e,yan e];exact ⟨_,rfl,by rw [zb2],h.quota,h.floor,by show (s.L ++ [_]).length=_;rw [yam,b];rfl,fun _=>by rw [zb2]⟩
 · rw [yan yab,yak e,yak e];exact ⟨_,rfl,h⟩
structure FullS (T:Tb) (q:Nat) (s:Sto Tb Nd15) (i:Nat):Prop where
 tab:(zah s).T=T
 quota:s.quota=(q:Int)
 keys:(zah s).keys.length=min i q
 from_:∀k ∈ (zah s).keys,∃j,j<i∧k=za4 (tupW j)
 len:s.L.length≤i + 1
theorem FullS.begin {T:Tb} {q:Nat} {m:Nat} (h:RoomS T q s m) (hm:0<m):FullS T q (zbq s (revB s)).1 0:=by
 have b:=h.len;have f:=h.floor;have hk:zaw s (revB s)=true:=zay.2 ⟨by unfold revB;omega,ybf _⟩;refine ⟨by rw [zf5 hk];exact h.tab hm,by rw [zjd];exact h.quota,by rw [zf5 hk,h.keys,Nat.zero_min];rfl,fun k q=>?_,?_⟩
 · rw [zf5 hk,h.keys] at q;cases q
 · unfold zbq;rw [yan hk];dsimp only;rw [ycL];unfold revB;omega
theorem FullS.more {T:Tb} {q:Nat} {i:Nat} (hr:∀i<9,(p15 f).right T (tupW i)=0) (h:FullS T q s i) (hi:i<9) (n:Nd15):∃s',zaE (p15 f) s n [] [(tupW i,true)]=(s',if i<q then 0 else 42,0)∧FullS T q s' (i + 1):=by
 have hk:hasK (zah s).keys ((p15 f).key (tupW i))=false:=ya3.2 fun z=>by
  obtain ⟨j,b,e⟩:=h.from_ _ (zar.1 z);rw [zf8] at e;have:=tupW_key i hi j yab e;omega
 have o:=h.len;have g:=h.quota;have m:=h.keys;rw [zsg (by rw [h.tab];exact hr i hi) hk (by omega)];by_cases e:i<q
 · rw [yak yab,yan e];refine ⟨_,rfl,by rw [zb2];exact h.tab,g,by rw [zb2];dsimp only;rw [zdC,m];omega,fun k z=>?_,by show (s.L ++ [_]).length≤_;rw [yam];simp;omega⟩;rw [zb2] at z;rcases zcz.1 z with z | z
   · exact ⟨i,by omega,by rw [z,zf8]⟩
   · obtain ⟨j,b,e⟩:=h.from_ k z;exact ⟨j,by omega,e⟩
 · rw [yan yab,yak e];exact ⟨_,rfl,h.tab,g,by omega,fun k z=>by obtain ⟨j,b,e⟩:=h.from_ k z;exact ⟨j,by omega,e⟩,by omega⟩
end Go.Proofs.YtmblgnddgmfkhaaGreat
