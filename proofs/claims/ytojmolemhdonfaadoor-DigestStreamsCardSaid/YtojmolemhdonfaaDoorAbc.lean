/-
  The digest of "abc", reckoned round by round. No statement of the seat is proved here.
-/
import Derived.Test.YtojmolemhdonfaaDoorParse
namespace Go.Proofs.YtojmolemhdonfaaDoor
open Go.RowKit Kec

def tabF (l : List W) : Nat → W := fun i => l.getD i 0
theorem round_congr {k : Nat} {f g : Nat → W} (h : ∀ j, j < 25 → f j = g j) : ∀ i, i < 25 → Kec.round k f i = Kec.round k g i := by
  have hcol : ∀ x, x < 5 → col f x = col g x := fun x hx => by unfold col; rw [h _ (by omega), h _ (by omega), h _ (by omega), h _ (by omega), h _ (by omega)]
  have hth : ∀ i, i < 25 → theta f i = theta g i := fun i hi => by unfold theta dd; rw [h i hi, hcol _ (by omega), hcol _ (by omega)]
  have hrho : ∀ i, i < 25 → rho (theta f) i = rho (theta g) i := fun i _ => by unfold rho; rw [hth _ (by unfold src; omega)]
  have hchi : ∀ i, i < 25 → chi (rho (theta f)) i = chi (rho (theta g)) i := fun i hi => by unfold chi; rw [hrho i hi, hrho _ (by omega), hrho _ (by omega)]
  intro i hi
  unfold Kec.round iota
  rw [hchi i hi, hchi 0 (by omega)]
theorem rounds_step {k : Nat} {f : Nat → W} {a b : List W} (h : ∀ j, j < 25 → rounds k f j = tabF a j) (e : ∀ i : Fin 25, Kec.round k (tabF a) i.1 = tabF b i.1) : ∀ j, j < 25 → rounds (k + 1) f j = tabF b j :=
  fun j hj => (round_congr h j hj).trans (e ⟨j, hj⟩)
def st0 : List W := [0x0000000006636261, 0x0000000000000000, 0x0000000000000000, 0x0000000000000000, 0x0000000000000000, 0x0000000000000000, 0x0000000000000000, 0x0000000000000000, 0x0000000000000000, 0x0000000000000000, 0x0000000000000000, 0x0000000000000000, 0x0000000000000000, 0x0000000000000000, 0x0000000000000000, 0x0000000000000000, 0x8000000000000000, 0x0000000000000000, 0x0000000000000000, 0x0000000000000000, 0x0000000000000000, 0x0000000000000000, 0x0000000000000000, 0x0000000000000000, 0x0000000000000000]
def st1 : List W := [0x0000040006636261, 0x3626100000000066, 0x00000731b1308000, 0x0000000006436260, 0x36261331b1308006, 0x0000000000000008, 0x6c4cfc6c4c2000c4, 0x1000000000000008, 0x6c4c3000000000cc, 0x1000cc6c4c200000, 0x000000000cc6c4c2, 0x0000000cc6c4c220, 0x0000000000000000, 0x0000000cca0606c2, 0x0000000000040020, 0x0066362f9d898400, 0x0000001000004000, 0x000000198d898400, 0x0066362610004000, 0x0000001000000000, 0x4362610000000006, 0x0000020000000000, 0x63626100198d8982, 0x2000020000000000, 0x00000000198d8984]
def st2 : List W := [0xb6b325adc633eec4, 0xd33adc52cef7f93a, 0x5e528c35d5193b13, 0xc0dd85d31cd4a57a, 0xe999a2f43a2c2398, 0x28a443eb0f40bc8b, 0xc9bcc34e00041aae, 0x87909d2348a64377, 0x85b37bb2516f6e28, 0x553030f0b5716a5f, 0x57891ecfbac639be, 0x8f1bed8e9eb3b5fe, 0xf65d81303afc1db4, 0x07ee7f4d95690570, 0x0283444033b3c245, 0x20646b0f972e619a, 0x6402d9788f313bc7, 0x8e7cec66172e6017, 0x531e1ff2a32f401f, 0xdb1faf3a9bfc1cdb, 0xbc1fb24420d6aa27, 0xb228f4f473dc074f, 0x08b2babf4445dadf, 0x939cc5252aa816c8, 0x9622744f2c34e7ae]
def st3 : List W := [0x10fb57a1c5470a5b, 0xad853c8f26f63ed9, 0x4031b99f75bea265, 0x6d2babeecd0c8c3d, 0xdb085530a540dffa, 0xf8e22dbc9c2a05fd, 0x28d4cb9bb90fdf96, 0x56cd5c1d2494a473, 0x82bc4dd88e1ab1e1, 0xc9e4f809ca4dba38, 0x08fbe8f9c346eec8, 0x5eec36d198428b00, 0xa1ee90df0282224b, 0x7e6f6415f34078f1, 0x0525d8a8145330ac, 0x731953959c2285d4, 0x53809b91ccce6eb3, 0x4a9e2dc31eee8629, 0x824418521b8d6533, 0xbf1c6b19f905c609, 0x9670693356e1c253, 0xeee524fb8f498522, 0x6ebf3510e32e7f35, 0xa7c94aba39779f8e, 0xbc3e6565fe186162]
def st4 : List W := [0x5b60f45ed10e4bee, 0x2c37c8b29e8c4f73, 0x07e7b66e8ab73bd8, 0x8069ec499e32ef10, 0x1d55b3f8ee4800c6, 0xa0be5b06553c7093, 0xe6379f0883be6877, 0x8d03e311bba0dbaf, 0x4ff50c1fd02d5b1c, 0x48501d4592ca785d, 0x9c9b89225417518f, 0x4300c9197462e916, 0x034bd7a7f2002153, 0x7e3b424a68220a40, 0x9d22cb3de7e99ebf, 0xf8a1d37c27665fab, 0x7966c1c60bb8b2f4, 0x01163a41ac593154, 0xc1dd7ee8bd6b645f, 0xc41328d2f6f738f2, 0x11e1cabde4b6d635, 0x7594a4eb426e7684, 0x936073df2bec52b0, 0xb3685a7d459eded4, 0x703d7ad00f8a4de3]
def st5 : List W := [0x3d9874c4121c4efd, 0xa8abb9600dc7f113, 0x919db1268052fa78, 0x5943bcdc8ea4c6cd, 0xa0aa7c92629c5a49, 0xa1f397dbbe7ca7f1, 0x4ba7ae83a129748e, 0xebaead43eaaffbf5, 0x036a1e09ad3e16a1, 0xf812d8a856de1a25, 0x2bd2db1e58703273, 0xbf05470bad761cb0, 0x31df49add63ef1e8, 0x08d1ec05dc92af10, 0xbc8a3eb0e29398b4, 0xa13bd794ce042838, 0x44017639e569b987, 0xc19018e36fbefbf0, 0xe6c544a7594eeb60, 0x3c1483d70eec80dd, 0x6524509dd4f96e0d, 0x43c6b84aac8ed56f, 0x652650c07c4160ac, 0xb8b4b7121ea7ca04, 0xaada3833497b50c1]
def st6 : List W := [0xe4f9e90c96ef83d6, 0xa1c16a2978b5c198, 0x9101ab98506dbf78, 0x3212bf5e28992153, 0xbdd3dd730d13104f, 0xe02d4bf7c1709eb0, 0x3782fb47da817f71, 0x553618a2ceed8cef, 0x1e57d467bb5cd0ab, 0x393d4292223ea46a, 0x29527a7478a51310, 0xcc92e6b4504c90bb, 0x45b511ab630e6766, 0xd82089169c452597, 0x67975182b106013f, 0x333621f7ae0d71bf, 0x5c04e0f61928799d, 0x5ead449fa9cf3258, 0xfe548a17d34aa1e9, 0x79f25ce865b39fb0, 0xa02a0d568e154ca2, 0x230404e08f115eaa, 0x54be0e3fe7168203, 0x3f16e9c13b861d3f, 0xb354127461ee7a4f]
def st7 : List W := [0x332e4e7b04174536, 0x8a54efcf3cd0e230, 0x392fe850500496df, 0x7b2b967ed1374e64, 0xd6a4d7b9a4e854d1, 0x42f06ed26c2b4c61, 0x137da54c085274f6, 0x5a76e9d953a208b8, 0xb8e65ab48e956a3d, 0x326982e889fdf9d0, 0x00e54448c070778d, 0xea2226451c84fc36, 0xb8f5cec1ee261d8b, 0xf005c1d4bbd1a835, 0x02c5509537320158, 0x30a2fcf60f0e1932, 0x781dc8f0551b4100, 0xbaacdce70f3220d4, 0x4a50c17a7525883f, 0x57aa39082facfd51, 0xf5a34ee8fcad19ff, 0x15833cbec19f5393, 0x0f972a82c8ee81a6, 0x27646ceaf1802870, 0x2ab4b2a19a60f052]
def st8 : List W := [0x1413d15f9a58b82b, 0xc4fdd2a7921ec134, 0x2f9932dec0af2e9b, 0x0183b5d8d06a4dfc, 0x2f1855fa0811075f, 0x8c09d244d2002bbd, 0x7085cd5394c2c548, 0x465dc5e266c924bd, 0x0505e2a50d8ba041, 0x041b5370db785030, 0xc79032447b5eeab7, 0x64ac5b232326275f, 0x81dc34913cd17dd2, 0x23b46e2ce22fed65, 0xc65ca802a18d4b33, 0x19950427ec010ad2, 0xacf1e6de4cbd920b, 0x834dc60e53987504, 0x0239b928e379e876, 0xff3f05911c581b61, 0xb2984c710d48dd4e, 0xc9e17b1ab9fc8a06, 0x2d268a58270e50b0, 0xc611d13d3ecd18ad, 0xfb3e42619b14a0e0]
def st9 : List W := [0x97c40511eec66961, 0xfcbf50a0cb385f14, 0xc536e9d1203c7946, 0x82dcc93e3d329f5d, 0xd07ee7f2535eac4e, 0x0553a5005155c78d, 0x137d4bddd484e0bb, 0x02e34cf13a69c89b, 0x1707fb920910c6da, 0x29f286e7c2e83101, 0x7dbb495224278671, 0x494fde06216fec9c, 0x19d79fe13f66346e, 0x0aa4cef9b5b10ff6, 0x5efdf054b2e0a030, 0x7a67f175393d6ff6, 0xa3e7a09bbeeae1b4, 0x30e7a8b08c9c8d72, 0xf6ef03ba5f16baee, 0x53dadd0cf3fb2d0d, 0xb72952711539ff4d, 0xd6cc65cf573e2cde, 0xf47377667f45aa7d, 0xaeaca577a4868c71, 0x8e44d21c1d42007c]
def st10 : List W := [0x6066993fcc62e555, 0x515e54042c3b58f6, 0x3d5fd0284d6373c7, 0x09a75d5080c3704b, 0x169a824824ae9b4d, 0xa7c2e39ff2dc0749, 0x6c143cb71a388034, 0x14e612a815bddc4b, 0x619d1705d04f3591, 0x3d38a06f23aa3e1b, 0xc760a18907715cbd, 0xef7c6b624a11e207, 0x8a1dcb1beb0bda05, 0xe4133b763907eb44, 0x39e3816117c52969, 0x2a10ed0742d83857, 0xa5d8f40f4e3b8667, 0x507998dc2ac7897a, 0xa4e7d74dc96f37dd, 0xd00ff7744eea32ae, 0x663a5f5d00526861, 0x07fab1101b62c406, 0xc55149feb7be21d1, 0x1ab6966d085eff05, 0x1f4bb69d264f5401]
def st11 : List W := [0xff7afe2da7b4ea9d, 0x194cf5de0eca6bc2, 0x236d72efcf74f5bb, 0x5d030147bfc59e9d, 0xd51a1ecda3916c79, 0xa7a243c5a0501620, 0x00b759bcd6b8adc4, 0xd24e58b3746a0994, 0xbf9ed285e583c904, 0x323335deaed95b7b, 0xc211dd8e9a0f3847, 0x889c084b3192def2, 0x6366ef478ab50049, 0x8b56811acb83d679, 0xc134aad0ae756cdc, 0x47d8fda13deae237, 0x53e3e955a6d8ea89, 0x2e599d33b68d4a8b, 0xb64a617c3b80e24e, 0x86b7319308c6333f, 0xf867fd704fe7f3db, 0xcd70932329033dce, 0x7279a089a74bc120, 0x160d47967301587b, 0x9925a441c5fa4750]
def st12 : List W := [0xed9e52eed7893220, 0x434ceb91a4a4939e, 0x75c58ff8f741ea71, 0xa6e0bbfb5c617e7c, 0x4427b9cc5daec301, 0x67bb83626dc3cd9b, 0x903a914ea43b1400, 0x26698b9de3a74a84, 0xda28946acf148124, 0x15d2b6daee571f07, 0x538691c2cbecba3f, 0x6d1ba46a75eee717, 0x3214e9bcac7d62a3, 0xd704861c0c6e449f, 0xff66946d38333905, 0x012c57eea1229d18, 0x73ea6e7d5c06b7ba, 0x864dbcfabf17dae4, 0xd48430777b794856, 0xf6e95e8709c34cd0, 0xc59ed1156ef2d3ec, 0xd50032c357acef5b, 0xbd6e99b92a5bc6d4, 0x146590e63aabdf5f, 0xc33529da19f0391d]
def st13 : List W := [0xc7de86b8324651d4, 0x3e3fc391785ff41a, 0x4b79fba74b8497f3, 0x1098bbbc44b50234, 0xc34a2ff40ce4c08e, 0x0047508d51a4dabe, 0x0ad4d74ad0b14bf3, 0xc045ef95151a91cb, 0x2000c37187b39d29, 0x24e6e6137f3251a5, 0x44fd6c16428e4940, 0x4cd48b411d8a22b8, 0x96289722c0ff0075, 0xf59ba8abe644bea2, 0xcd96a13cf6c92b42, 0x98f179c978e943f9, 0xb8e2c873df3eb568, 0x57d7efc0fd622434, 0x4de0206615016485, 0x847ae194b6363b20, 0x6ec68667ad0227a1, 0xbf211e42979d28bd, 0x2f0005df34884f5c, 0xd0bc0fa6dd7dbdee, 0xf580850a9b3dfb83]
def st14 : List W := [0xcf64592128de0d95, 0x133caf54929c48f2, 0x6fa7694b486226ae, 0x3fc04c77e683de6a, 0x7c75458307ed417e, 0x803961a8dc8d28a5, 0xd3e7b0f83a056179, 0x022fee0188a3d35d, 0x791b094eb7f5b8b4, 0x36cee67123361696, 0x1f952a0441da9075, 0x41827d7ea99839c7, 0x3b811c0d564f9a7a, 0x839529b6019f0033, 0xa5d5aea9d98f027a, 0x4c57e3b5db8f98d2, 0x0b6a33ae4578b5f2, 0x5773db0a6d2891ed, 0x2cd76dedbb894c90, 0x7caaeb3426aabf05, 0xd1080b76de25594e, 0x4e4967997ac53e04, 0x7dcdb83997da80f9, 0x067ce669d8c33ff5, 0x0ba307ce10f15214]
def st15 : List W := [0x5ea1d44a9aaa12ba, 0xbc819a399bede0af, 0xad4089848da43a6d, 0x41a9f842f56c15cb, 0x651e3af44a8ebad6, 0x21ce3f5e121b5b64, 0x59f509bee8d521eb, 0x7078bb76a5a4fe12, 0x668222f4411a84c0, 0x12fe8839f1002601, 0x4ffb0beef5088003, 0x078dbed45a18d98e, 0x1ff2f915433fda43, 0x2370e8d5eb4fbe08, 0x3c71155f58b37bea, 0xeae547ee2c05fb71, 0xbf9aed511a8dfa16, 0x87dd679140c011c5, 0x915cdb4b30e67ce1, 0x6a5034cc5c88a436, 0x7d60a40e873e3105, 0x551af9883ca7eb41, 0x3dbe94accffedcc1, 0xe72e48bb8cdb9cdb, 0x68dfa56d70fa15c7]
def st16 : List W := [0x2561d669cbfd175f, 0x54c328db6f932645, 0xe25fe700735dc055, 0xf9845f6100bf7b79, 0x48b0ef2c936b5d14, 0xf8ff30f7babfca67, 0xf2ba793cf7d32f53, 0xe0b87689229e06cc, 0xab34df0da9df820b, 0xdb325dc864df8c75, 0x1486502d5ad90af5, 0x1e203cc9a1b66b61, 0x5507b00402134959, 0x0a93ea3a807c549a, 0x84957f47f2cee731, 0x9b1477858718f4a9, 0xb08fe9c600238724, 0x4a30560e61131d47, 0x0ebe0460231d9df3, 0x5f0c333e06d147f6, 0xd9c37cca4869d762, 0x946204dd2699418d, 0x59dbe098b5c1548b, 0x2d659f24432552fa, 0x2d622fadac0d3afd]
def st17 : List W := [0xc17327d34ad21993, 0xc7699d1f878f7155, 0xf142a8f41294fc79, 0x337f6e79fbf20d7e, 0xed55533b08293003, 0xb90f1ba22157c623, 0xe97d16a0c9dac81c, 0x24a48baf5f284238, 0x866b54c6ff26fd58, 0xa46390116f9097ee, 0xae8736210bf8bf2a, 0x944cb7adc65cfc23, 0x14f24451171ad2f2, 0x638dc7a62825b283, 0xe7036551b213574e, 0x7a2cd79ae1275f0b, 0xa00f7e18d4de1a5a, 0xa21c008d24df9777, 0xa213b41e3f090096, 0xc0a395aa50436bd2, 0x6562a9c43fd47e42, 0x18daf77f3bbde0ed, 0x0fb4aea549ea967b, 0x6fe83e8a474bb63c, 0x467a1a6a31f066e7]
def st18 : List W := [0xf484e486f0efcd77, 0x646f0ba91f0ca9a2, 0x9c3b0b00dcb1e7d0, 0x85ec75b2f0bfe6c6, 0xa0559d0ecb53d39c, 0xc9c6a1bf59609746, 0x380837e67668c63a, 0x1ce2a30289555025, 0x181ef73ef30b47ee, 0x376ffcd954feb887, 0x6bc1fce28cf757ca, 0x3274401585455684, 0xe6ba0e4a311cd2ac, 0xae00d8f1e05aafe8, 0xba611467b0b90a53, 0x594fae3bcb30de67, 0x158421d96fc5ce1d, 0x034514db4e9a9a12, 0xfd7d477060784f6f, 0x0fe2cc64db9dea30, 0xab428cb6730b4a26, 0xe4778b6f7bd0d407, 0xfe5073678da908cd, 0x46b8f68fe00b95d9, 0x64c54796a085e811]
def st19 : List W := [0x9dfb96545c836829, 0x8b0d1e80f5f5d444, 0x3c683149a8fdb140, 0x491c7477d3761e4f, 0xa4ae36c561b0bb33, 0xaf73ecf12db6a5ac, 0x3b70de715b6b26d0, 0x5bcfd5c854cb9534, 0x16d151d4ee0ef32a, 0xde3bfc55261d9036, 0xec8f273df2f0b260, 0x1368f22f10bad3a0, 0x37790700417157fa, 0x4819698285bd87ce, 0x6fd7c53db90d0a7b, 0x01b2c0f0bb0b3681, 0xd2d232ab8fc3222a, 0xd822ae5f3383d600, 0x0a1bf0ee88fce464, 0x5d1815c0fb5bd8ea, 0x441d22a2b86f1b4a, 0x7507cea567652cb1, 0x81f6e13fa5e42e75, 0xad5b06f9fd1651d0, 0xc1508707a302eef0]
def st20 : List W := [0xdd73c60ed316443c, 0x2f7c0e64f9859858, 0x6693488740c17d4c, 0xd60d41cc38d0009e, 0xf2a912fb65ed096d, 0x5b5b53069d0a7e34, 0x93b0e74e85d5b6c7, 0xf0209fafcd4cc60b, 0x6fa64bea6a946324, 0x38a74f786f62b63f, 0x6125f311be0d27c8, 0x198bfc540380890f, 0x6de4520db1e61fff, 0xd9915227348b89fa, 0x0138c22f4c431a5f, 0x252ee81a894a7fd2, 0xee9fb9c4fe0edf36, 0x34d69f09a64a627b, 0x9f39d5ac23c845ee, 0xa22655f0bb1f44d4, 0xa6587a6910080924, 0x40c3846182c45e6a, 0xa2381c408d15cfbc, 0xe8fd374b6a887d71, 0xfaee27b42651c3ac]
def st21 : List W := [0xc8bf72508ea0b811, 0xeee0e7ca9efde4ae, 0xc1a5ea9620fd9737, 0x02aa3701017a8d21, 0x79213655a0980d57, 0x3acc5e90bcd498c9, 0x443ca4bbe8eaece1, 0x676a7a732fda49b6, 0xbddbcee2c9ea4760, 0x14fae801fa286bb9, 0x24e2bc25f05b622b, 0x3bb62e6270111a15, 0x25f143315403231d, 0x0f270b425219265d, 0x09cf34f999249217, 0x4cd4a06cf7ac081c, 0x6acd79b8f93a7584, 0x8cb319dae9892eba, 0x694b7d23f1a18a1e, 0xe6a3a47bfed84db0, 0x3590434017393347, 0x1032f84befc5d236, 0xb206f6610b9c18da, 0xf8b47b61cca9a9ad, 0xb72b43443f38de9b]
def st22 : List W := [0x624cf262ad2714ce, 0x352b8a1fba3d9483, 0xd8492c0b8a38b01f, 0x67090f114df17b1b, 0x042e7e7e2a4139cb, 0xab607abd17c0c144, 0xf651399434622ba7, 0xb2ab4b969e6b7307, 0x5bf89756db14c43c, 0x97599b28aabae8d6, 0x6487d9f99feb3db6, 0x4b3fdf042c5886b3, 0x4f9750a4dbb1385e, 0x80b0031d2d394ff8, 0xd750d6fcfd039c9f, 0x2297f98f687802bd, 0xff53479507beac2b, 0xa595d4c70ba07338, 0x8c6fb3b8c20e133a, 0x2006037cadf1dcad, 0x3a9abb677dc02b7c, 0x8a3dbf30d4522021, 0xe910b499de03442a, 0x1e100dd4c56973c8, 0x97e2c9667c4ae11e]
def st23 : List W := [0x4398e5f06685135d, 0xc5bf390099c90207, 0x6d4fef3618652a3d, 0xbed81aa723a14842, 0x26d4206724fa74a5, 0x106b6512cd67fff3, 0x8e00e58f8c0fa2a9, 0xe9986cb7c3786fef, 0x6e5cd302bb56a0f1, 0x210cffd6eadbfa35, 0xa600e6bd7e1194e6, 0xbf2576559c3bc025, 0xbcd3f5c75e0d0b56, 0x70d3f05f1fca68e1, 0xf329d9104030ec39, 0xc73c89517a3febc6, 0x850da5f46f4ab7d5, 0x1f1876803fffb4ab, 0x056c99ce5b77c3c1, 0xffd14303d7c7ba4e, 0x76429cd3318b0b76, 0x95da8d8fae5c3dbb, 0x490ba44850ef0a80, 0xd630da462678de6b, 0xb0444bcbc9d10553]
def st24 : List W := [0xb225e24fa75d983a, 0xbd90d36b2d175c04, 0x5b529d3e6e085f85, 0x3215431145e2bf46, 0xf81092fb22f636d1, 0x2097c8aad6603e27, 0x31f2c561623fb1f7, 0x8fdf74f3f204df9c, 0x9f5e838db186c4ac, 0xa80a1c04bc11baa2, 0xbf130581a54ef742, 0x3092fccecda9f8bf, 0x1a8b8b2a4af00862, 0x60c4cc90d90ca705, 0x1f24793254851e4e, 0x631239dca84621ef, 0x4b3f7866395fe1bd, 0x30bef91bffc67d8a, 0xd272513dd6dd06c9, 0x25a3af600aecb585, 0x5fc53e5cb938bec8, 0x02fc22dcacbc3cc1, 0x668094928c4b6cc3, 0xd5c25129ae161a7d, 0xb5d89c9e96e91041]
theorem rd0 : ∀ i : Fin 25, Kec.round 0 (tabF st0) i.1 = tabF st1 i.1 := by decide +kernel
theorem rd1 : ∀ i : Fin 25, Kec.round 1 (tabF st1) i.1 = tabF st2 i.1 := by decide +kernel
theorem rd2 : ∀ i : Fin 25, Kec.round 2 (tabF st2) i.1 = tabF st3 i.1 := by decide +kernel
theorem rd3 : ∀ i : Fin 25, Kec.round 3 (tabF st3) i.1 = tabF st4 i.1 := by decide +kernel
theorem rd4 : ∀ i : Fin 25, Kec.round 4 (tabF st4) i.1 = tabF st5 i.1 := by decide +kernel
theorem rd5 : ∀ i : Fin 25, Kec.round 5 (tabF st5) i.1 = tabF st6 i.1 := by decide +kernel
theorem rd6 : ∀ i : Fin 25, Kec.round 6 (tabF st6) i.1 = tabF st7 i.1 := by decide +kernel
theorem rd7 : ∀ i : Fin 25, Kec.round 7 (tabF st7) i.1 = tabF st8 i.1 := by decide +kernel
theorem rd8 : ∀ i : Fin 25, Kec.round 8 (tabF st8) i.1 = tabF st9 i.1 := by decide +kernel
theorem rd9 : ∀ i : Fin 25, Kec.round 9 (tabF st9) i.1 = tabF st10 i.1 := by decide +kernel
theorem rd10 : ∀ i : Fin 25, Kec.round 10 (tabF st10) i.1 = tabF st11 i.1 := by decide +kernel
theorem rd11 : ∀ i : Fin 25, Kec.round 11 (tabF st11) i.1 = tabF st12 i.1 := by decide +kernel
theorem rd12 : ∀ i : Fin 25, Kec.round 12 (tabF st12) i.1 = tabF st13 i.1 := by decide +kernel
theorem rd13 : ∀ i : Fin 25, Kec.round 13 (tabF st13) i.1 = tabF st14 i.1 := by decide +kernel
theorem rd14 : ∀ i : Fin 25, Kec.round 14 (tabF st14) i.1 = tabF st15 i.1 := by decide +kernel
theorem rd15 : ∀ i : Fin 25, Kec.round 15 (tabF st15) i.1 = tabF st16 i.1 := by decide +kernel
theorem rd16 : ∀ i : Fin 25, Kec.round 16 (tabF st16) i.1 = tabF st17 i.1 := by decide +kernel
theorem rd17 : ∀ i : Fin 25, Kec.round 17 (tabF st17) i.1 = tabF st18 i.1 := by decide +kernel
theorem rd18 : ∀ i : Fin 25, Kec.round 18 (tabF st18) i.1 = tabF st19 i.1 := by decide +kernel
theorem rd19 : ∀ i : Fin 25, Kec.round 19 (tabF st19) i.1 = tabF st20 i.1 := by decide +kernel
theorem rd20 : ∀ i : Fin 25, Kec.round 20 (tabF st20) i.1 = tabF st21 i.1 := by decide +kernel
theorem rd21 : ∀ i : Fin 25, Kec.round 21 (tabF st21) i.1 = tabF st22 i.1 := by decide +kernel
theorem rd22 : ∀ i : Fin 25, Kec.round 22 (tabF st22) i.1 = tabF st23 i.1 := by decide +kernel
theorem rd23 : ∀ i : Fin 25, Kec.round 23 (tabF st23) i.1 = tabF st24 i.1 := by decide +kernel

/-- The digest of "abc", and its text. -/
def dAbc : ByteArray := { data := #[58, 152, 93, 167, 79, 226, 37, 178, 4, 92, 23, 45, 107, 211, 144, 189, 133, 95, 8, 110, 62, 157, 82, 91, 70, 191, 226, 69, 17, 67, 21, 50] }
def hAbc : ByteArray := { data := #[51, 97, 57, 56, 53, 100, 97, 55, 52, 102, 101, 50, 50, 53, 98, 50, 48, 52, 53, 99, 49, 55, 50, 100, 54, 98, 100, 51, 57, 48, 98, 100, 56, 53, 53, 102, 48, 56, 54, 101, 51, 101, 57, 100, 53, 50, 53, 98, 52, 54, 98, 102, 101, 50, 52, 53, 49, 49, 52, 51, 49, 53, 51, 50] }
def abc : ByteArray := { data := #[97, 98, 99] }
theorem abc_start : ∀ i : Fin 25, flipS (flipS (absorb init abc.data.toList).1 ((absorb init abc.data.toList).2 % 136) 6) 135 128 i.1 = tabF st0 i.1 := by decide +kernel
theorem abc_last : ∀ j, j < 25 → lastS (absorb init abc.data.toList) j = tabF st24 j := by
  have h0 : ∀ j, j < 25 → rounds 0 (flipS (flipS (absorb init abc.data.toList).1 ((absorb init abc.data.toList).2 % 136) 6) 135 128) j = tabF st0 j := fun j hj => abc_start ⟨j, hj⟩
  have h1 := rounds_step h0 rd0
  have h2 := rounds_step h1 rd1
  have h3 := rounds_step h2 rd2
  have h4 := rounds_step h3 rd3
  have h5 := rounds_step h4 rd4
  have h6 := rounds_step h5 rd5
  have h7 := rounds_step h6 rd6
  have h8 := rounds_step h7 rd7
  have h9 := rounds_step h8 rd8
  have h10 := rounds_step h9 rd9
  have h11 := rounds_step h10 rd10
  have h12 := rounds_step h11 rd11
  have h13 := rounds_step h12 rd12
  have h14 := rounds_step h13 rd13
  have h15 := rounds_step h14 rd14
  have h16 := rounds_step h15 rd15
  have h17 := rounds_step h16 rd16
  have h18 := rounds_step h17 rd17
  have h19 := rounds_step h18 rd18
  have h20 := rounds_step h19 rd19
  have h21 := rounds_step h20 rd20
  have h22 := rounds_step h21 rd21
  have h23 := rounds_step h22 rd22
  have h24 := rounds_step h23 rd23
  exact h24
theorem outs_congr {f g : Nat → W} (h : ∀ j, j < 25 → f j = g j) : outs f = outs g := by
  unfold outs
  apply List.map_congr_left
  intro i hi
  have hi' : i < 32 := by simpa using hi
  unfold outB
  rw [h (i / 8) (by omega)]
theorem sum_abc : sumS abc = dAbc := by
  unfold sumS digS
  rw [outs_congr abc_last]
  decide +kernel
theorem hex_abc : hexS dAbc = hAbc := by decide +kernel
theorem par_abc : parS hAbc = dAbc := by decide +kernel
theorem ok_abc : okTo hAbc 64 := by
  have h : ∀ j : Fin 64, tok hAbc j.1 = true := by decide +kernel
  exact fun j hj => h ⟨j, hj⟩
end Go.Proofs.YtojmolemhdonfaaDoor
