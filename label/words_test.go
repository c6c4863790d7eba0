package label

import (
	"bytes"
	"crypto/hmac"
	"crypto/sha256"
	"math/big"
	"strings"
)

// maxNumber is the document's MaxNumber, 2^40.
const maxNumber = 1099511627776

// eightBytes is a number modulo 2^64 as the document words it, the high byte first.
func eightBytes(n int) []byte {
	modulus := new(big.Int).Lsh(big.NewInt(1), 64)
	return new(big.Int).Mod(big.NewInt(int64(n)), modulus).FillBytes(make([]byte, 8))
}

// ahead is the bytes of a label and a number, ahead of the mac.
func ahead(label string, n int) string {
	return label + "\x00" + string(eightBytes(n))
}

// byTheWords is the key of a label as the document words it.
func byTheWords(master []byte, label string, n int) []byte {
	h := hmac.New(sha256.New, master)
	h.Write([]byte(ahead(label, n)))
	return h.Sum(nil)
}

// objects are the labels of an object's keys.
func objects() [5]string { return [5]string{"mask", "place", "sentinel", "tag", "spot"} }

// fields are an object's keys, in the order of their labels.
func fields(k *Keys) [5]*[]byte {
	return [5]*[]byte{&k.Mask, &k.Place, &k.Sentinel, &k.Tag, &k.Spot}
}

// message is so many bytes, others for each size and seed.
func message(size, seed int) []byte {
	state := uint32(size + 100000*seed)
	list := make([]byte, size)
	for i := range list {
		state = state*1664525 + 1013904223
		list[i] = byte(state >> 16)
	}
	return list
}

// numbers are numbers that keys are made for: the edges, and each bit for itself.
func numbers() []int {
	list := []int{0, maxNumber - 1, maxNumber - 2, 3, 255, 257, 258, 65535, 1<<32 - 1, 1<<32 + 1, 0x123456789a}
	for bit := range 41 {
		list = append(list, 1<<bit)
	}
	return list
}

// beyond are numbers that no key is made for.
func beyond() []int {
	return []int{-1, -2, -256, -maxNumber, -1 << 63, maxNumber + 1, maxNumber + 2, 1 << 41, 1 << 62, 1<<63 - 1}
}

// labels are labels: of all lengths, each letter, and some that begin alike.
func labels() []string {
	list := []string{"mask", "place", "sentinel", "tag", "spot", "spots", "spo", "ta", "ab", "ba", "abcdefghijkl", "mnopqrstuvwx"}
	for size := 1; size <= 12; size++ {
		list = append(list, strings.Repeat("q", size))
	}
	for b := 'a'; b <= 'z'; b++ {
		if b != 'q' {
			list = append(list, string(b))
		}
	}
	return list
}

// noLabels are texts that are no labels.
func noLabels() []string {
	list := []string{
		"", strings.Repeat("a", 13), strings.Repeat("a", 5000), "Mask", "MASK", "maSk", "mask ", " mask", "ma sk", "mask\n", "mask1", "mask\x00", "\x00mask", "\x00",
		"\u00e4", "\u0430", "m\u00e4sk", "\uff41", "\u017f", "mas\u212a", "\xff", "a\xff", "\xe1", strings.Repeat("a", 12) + "\x00", "abcdefghijkl\u00e4", "abcdefghijk\u00e4",
	}
	for b := range 256 {
		if b < 'a' || b > 'z' {
			one := string([]byte{byte(b)})
			list = append(list, one, one+"bc", "a"+one+"c", "ab"+one, "abcdefghijk"+one, one+"bcdefghijkl")
		}
	}
	return list
}

// known is a key that was worked out elsewhere.
type known struct {
	master []byte
	label  string
	n      int
	want   string
}

// knownKeys are keys that were worked out elsewhere.
func knownKeys() []known {
	rising := make([]byte, 64)
	for i := range rising {
		rising[i] = byte(i)
	}
	return []known{
		{make([]byte, 16), "mask", 0, "062bbc57c2f8a601f301106a074009159361b027e54bee9e0a449e5137430009"},
		{rising, "abcdefghijkl", maxNumber, "6a1246d52fabd71de815dbdec159f5963b710ccd11025d5cd5bb12ac23ff3705"},
		{rising[:16], "a", 258, "8f10b9e8b4aeb16e37f34256bc1470cba5362582ed96fb5711bbea7b02c4e36a"},
		{bytes.Repeat([]byte{0xff}, 32), "sentinel", 1, "0d1b15ae02fe8bf4f3ec4957c37ffaaeacaec2558ab6984fe466098fb63552ce"},
		{bytes.Repeat([]byte{0x0b}, 20), "spot", 1 << 32, "6c2636c4775ac0f2cbede0a8d9e0cc32b120e5dfde6774b3b5695ce95eefa0bc"},
	}
}
