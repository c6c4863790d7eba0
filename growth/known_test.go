package growth

import (
	"slices"
	"testing"

	"bailee/sha"
)

// known is a proof that was worked out elsewhere.
type known struct {
	leaves   [][]byte
	m        int
	want     []string
	old, now string
}

// knownProofs are proofs that were worked out elsewhere, level by level from the leaves up; the first ones are RFC 6962's usual ones.
func knownProofs() []known {
	rfc := ofRFC6962()
	const (
		rootOf8     = "5dc9da79a70659a9ad559cb701ded9a2ab9d823aad2f4960cfe370eff4604328"
		rootOf7     = "ddb89be403809e325750d3d263cd78929c2942b7942a34b77e122c9594a74c8c"
		ofNone      = "6e340b9cffb37a989ca544e6bb780a2c78901d3fb33738768511a30617afa01d"
		secondFour  = "6b47aaf29ee3c2af9af889bc1fb9254dabd31177f16232dd6aab035ca39bf6e4"
		secondTwo   = "5f083f0a1a33ca076a95279832580db3e0ef4584bdff1f54c8a360f50de3031e"
		firstFour   = "d37ee418976dd95753c1c73862b9398fa2a2cf9b4ff0fdfe8b30cd95209614b7"
		thirdTwo    = "0ebc5d3437fbe2db158b9f126a1d118e308181031d0a949f8dededebc558ef6a"
		countedOf3  = "ecbc385f938319e1724a026119040cd78f6088efdf88dd3fd67836e3c14d06df"
		countedOf4  = "4089e173366bc4d6052c55f2fb2324e7e088648420dc6f9f4f88d96aacc601bd"
		countedOf5  = "609ebf756d0a0ed31d924be0c276bb3a7b52b7ab46c1ae9a5ba134a86c4d8d53"
		counted100  = "81b619c2dbdee5be429ca9c0a7305db591cede087020bf9fe351060e76b0fb52"
		countedOf64 = "4267e20579925ab9cafae769400047069ff3ed7687d8afbea7b1a27ec41714ad"
	)
	return []known{
		{rfc[:1], 1, nil, ofNone, ofNone},
		{rfc, 8, nil, rootOf8, rootOf8},
		{rfc, 1, []string{"96a296d224f285c67bee93c30f8a309157f0daa35dc5b87e410b78630a09cfc7", secondTwo, secondFour}, ofNone, rootOf8},
		{rfc, 6, []string{thirdTwo, "ca854ea128ed050b41b35ffc1b87b8eb2bde461e9e3b5596ece6b9d5975a0ae0", firstFour}, "76e67dadbcdf1e10e1b74ddc608abd2f98dfb16fbce75277b5232a127f2087ef", rootOf8},
		{rfc[:5], 2, []string{secondTwo, "bc1a0643b12e4d2d7c77918f44e0f4f79a838b6cf9ec5b5c283e1f4d88599e6b"}, "fac54203e7cc696cf0dfcb42c92a1d9dbaf70ad9e621f4bd8d98662f00e3c125", "4e3bbb1f7b478dcfe71fb631631519a3bca12c9aefca1612bfce4c13a86264d4"},
		{rfc[:7], 3, []string{"0298d122906dcfc10892cb53a73992fc5b9f493ea4c9badb27b791b4127a7fe7", "07506a85fd9dd2f120eb694f86011e5bb4662e5c415a62917033d4a9624487e7", "fac54203e7cc696cf0dfcb42c92a1d9dbaf70ad9e621f4bd8d98662f00e3c125", "837dbb152e9b079010717e84e865da4ebc0fa198a806d59d31bf15accef22d0e"}, "aeb6bcfe274b70a14fb067a5e5578264db0fa9b51af5e0ba159158f329e06e77", rootOf7},
		{rfc, 7, []string{"b08693ec2e721597130641e8211e7eedccb4c26413963eee6c1e2ed16ffb1a5f", "46f6ffadd3d06a09ff3c5860d2755c8b9819db7df44251788c7d8e3180de8eb1", thirdTwo, firstFour}, rootOf7, rootOf8},
		{counted(2), 1, []string{"faee935763044f124d7526755a5058a33f9402a595994d59eddd4be8546ff201"}, ofNone, "fe8c057e0ef4d3da94fac8d2301bb58b9199221712662e7b344b270182294627"},
		{counted(3), 2, []string{"9a9d23ccc2d4a80037b1d6d72992f8ccb554fdbdf5add7452262b89e3899b9fb"}, "fe8c057e0ef4d3da94fac8d2301bb58b9199221712662e7b344b270182294627", countedOf3},
		{counted(4), 3, []string{"9a9d23ccc2d4a80037b1d6d72992f8ccb554fdbdf5add7452262b89e3899b9fb", "ab97a40e22f7f7068b41af42ece3baf14df8da189abfff868e6edb16aee43827", "fe8c057e0ef4d3da94fac8d2301bb58b9199221712662e7b344b270182294627"}, countedOf3, countedOf4},
		{counted(5), 4, []string{"6657972eda579d1cb134e4d0683a9c3da26728a4c129721a2ac341233b2b4eec"}, countedOf4, countedOf5},
		{counted(6), 5, []string{"6657972eda579d1cb134e4d0683a9c3da26728a4c129721a2ac341233b2b4eec", ofNone, countedOf4}, countedOf5, "635836b05ddb7b1660450a9093c099bca03e503f523f6328291fbd459bb853ee"},
		{counted(13), 11, []string{ofNone, "76d06cfaf6df9bca7435cd5355aada1de1795d00fb96b1abdfc8b9abbfecd8f0", "bbb29344b21e420934c766dae790915814ccef3994db864dbb76483c5230ba90", "13b5142c1794817faf8a7586d5200e58d140aaeed523059f68bd101584e98d0e", "77f7ad69ebd1a8c8296adfb8805dbd08156a06380574791f997898c591711fa9"}, "3447f3f71517d5f89a49e0081625cb77506304910652326837b02e0b950ae756", "d859a3ed7a09a2e69956e23bff0db55b2a15eb2d393c79ea13be013a1bbcbeaa"},
		{counted(100), 64, []string{"5863934534243e37612dac31edf2dfadfb8ae17cf15bb021520d4149a9ca50b2"}, countedOf64, counted100},
		{counted(100), 97, []string{"a8f7424be040c22249dfe7f7541eb32233d1408e7f25ee6515407bf31866b09f", "c07508c6f3fe36ea63020cd499c81ca0e24fc0c3c58f2890fc10f7be35490b04", "541d4bdecb789e65536b2cafa39d9704cb575455e07c28e1062cab94f1baf95e", "2c86d821f3c28ca1dee42a5a82c2534ebb976904d09368b6df07b4ca46d1ecf6", countedOf64}, "46a4d94118c93a025c390569a6ab2f258c76ed0892e2ba86e53bd0c3697a8e27", counted100},
	}
}

// plain are digests as their figures.
func plain(list []sha.Digest) []string {
	var texts []string
	for _, d := range list {
		texts = append(texts, sha.Hex(d))
	}
	return texts
}

// unhex is the digest of figures that are right.
func unhex(t *testing.T, s string) sha.Digest {
	t.Helper()
	d, err := sha.Unhex(s)
	if err != nil {
		t.Fatal(err)
	}
	return d
}

func TestKnownProofs(t *testing.T) {
	for _, row := range knownProofs() {
		n := len(row.leaves)
		proof, err := Prove(leavesByTheWords(row.leaves), row.m)
		if err != nil || !slices.Equal(plain(proof), row.want) {
			t.Fatalf("the proof of %d among %d: %v, %v, not %v", row.m, n, plain(proof), err, row.want)
		}
		if err := Check(row.m, unhex(t, row.old), n, unhex(t, row.now), proof); err != nil {
			t.Fatalf("the proof of %d among %d doesn't hold: %v", row.m, n, err)
		}
	}
}

// bytesOf are digests, one behind the other.
func bytesOf(list []sha.Digest) []byte {
	var b []byte
	for _, d := range list {
		b = append(b, d[:]...)
	}
	return b
}

func TestLongKnownProofs(t *testing.T) {
	// Of counted leaves; the digests, one behind the other, have the digest.
	for _, row := range []struct {
		m, n, count int
		want        string
	}{
		{100, 255, 7, "052cc9dd5afe76ccbe0eef3f88a9e64e7af7bcc45b4f59b4bc5ec2b5fb27478f"},
		{254, 255, 8, "5d81d0021cc83f2f6c9b6557b9e150482fe878b3e7a9b749d8583248c4cdbdd9"},
		{256, 257, 1, "abfb0844a8b130d3774f190d203c2a91a82a88404c739c2cf234803d81f89f60"},
		{300, 511, 8, "16e4dcca8e05f4c7060645dc986360ae0c5bf9f8e09ca85d3cb23eaf92cc75a9"},
		{1, 512, 9, "50bd1322feb61ccad02fc781273892ed40064b4c1d3a5e4b51d48f0404b2bc71"},
		{256, 512, 1, "b6a442097dc999967ac02cbbda0b7a3f9eb5a43c974ae461e13f49aaed847865"},
		{257, 512, 10, "e480e697f0e6b6a22b1ea1e76a02668a27275f217bd5bbfd12e2c6d094a94438"},
		{341, 512, 10, "1c8d988c6276192d8d66440a8b4a62085a6a4b993d8a3a4dba121dc59a42afc2"},
		{385, 512, 10, "e29669045f15557000a427e69122fc0e67a57a5cb17bf286abc52c45b854867b"},
		{511, 512, 10, "530c0b4a1abc8061e04d9d244f7e84fb9a27148c0ffbb75bd66168118cad4563"},
	} {
		proof, err := Prove(leavesByTheWords(counted(row.n)), row.m)
		if got := sha.Hex(sha.Of(bytesOf(proof))); err != nil || len(proof) != row.count || got != row.want {
			t.Fatalf("the proof of %d among %d: %d digests, %s, %v", row.m, row.n, len(proof), got, err)
		}
	}
}

func TestKnownFrontiers(t *testing.T) {
	// Of counted leaves, worked out elsewhere; the roots, one behind the other, have the first digest, and all leaves the second one as their root.
	for _, row := range []struct {
		n, count    int
		peaks, root string
	}{
		{3, 2, "4801e904be060d830f3b7f6dc2f2dc620f473ea3971a2f9ec57ee9c1b3ee2736", "ecbc385f938319e1724a026119040cd78f6088efdf88dd3fd67836e3c14d06df"},
		{7, 3, "289bed7f170ad9cb3a2ee028225355eb3098fba27f3db44f1ad6fb9733014ace", "fdd1d1d209a7fdb483c8a2a9298bd87b1de49da10b400b768aa16bc4970e6c3a"},
		{13, 3, "c93af04d058d6cd4a0ce84dee14055217b3eb3c384d7acc004258b29ad82b29e", "d859a3ed7a09a2e69956e23bff0db55b2a15eb2d393c79ea13be013a1bbcbeaa"},
		{100, 3, "869922604633a8826e33356c3e01aa2f1a07c1b4fd2371a408a309fbe5584e0b", "81b619c2dbdee5be429ca9c0a7305db591cede087020bf9fe351060e76b0fb52"},
		{255, 8, "c89035acb0aee7a5f7b16efa90dc9962a8e18b50f22e4c6bad816a0c2cc4e1a1", "ba0b53a14738387eba348dcccddf069b4e0d775d92161f717fa0c89ad552c9f9"},
		{511, 9, "92136e50f718a3c83b87787f9d0fc5f05883b1847174f9f63069c65417b5fda0", "cb25a1c159d9f197ceb1cc1721640e3e45c6fb553b02a8df8825c3ca1bed496c"},
		{512, 1, "c03a37cbd54e46f79a2c2f6595dd3389fd435a18eca9978508b193a5212c5013", "8af9c658044f7245759b63e45023eeefdae635454d67a5388027f87f5928dda2"},
		{1000, 6, "cec6a67529ecf2310473b23f78ef4a91e185ad355d0b09de1e3d8f03bc8c40a7", "694934533e45deb33812f9f64100b264bb60d272a81b7fd5ed3ac27a6f75d799"},
		{4095, 12, "7db6e3d04bfde6d28416627683ecf78b0851da1010ee2fdb5de748c1c1072fc7", "5f5cb8c6e8e0acc5c359634d5a35095b54a9db7249e7ffca43da03693dbf9e85"},
		{5000, 5, "89d420b5ad2c0ad794ecd29d4016268e90814ca13ab00285955ae49c7133da84", "5c01799acd5e4a5bed536eec06c3703e622ed182fe61108368ec849a0293183c"},
	} {
		f := grown(t, counted(row.n))
		peaks := f.Peaks()
		if got := sha.Hex(sha.Of(bytesOf(peaks))); len(peaks) != row.count || got != row.peaks {
			t.Fatalf("of %d leaves: %d peaks, %s", row.n, len(peaks), got)
		}
		if got := sha.Hex(f.Root()); got != row.root {
			t.Fatalf("of %d leaves: the root %s, not %s", row.n, got, row.root)
		}
	}
}
