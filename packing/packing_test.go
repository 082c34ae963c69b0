package packing

import (
	"encoding/binary"
	"hash/crc32"
	"math/rand"
	"strings"
	"testing"

	"remake/api"
)

// checked: bytes with the CRC-32 of the library behind them.
func checked(code string) string {
	return string(binary.LittleEndian.AppendUint32([]byte(code), crc32.ChecksumIEEE([]byte(code))))
}

func packed(text string) string {
	return checked(string(binary.AppendUvarint([]byte("RM"), uint64(len(text)))) + text)
}

func TestCRC(t *testing.T) {
	for text, want := range map[string]uint32{"": 0, "123456789": 0xcbf43926, "a": 0xe8b7be43} {
		if got := crc([]byte(text)); got != want {
			t.Errorf("crc(%q) = %x, want %x", text, got, want)
		}
	}
}

// texts: of every length that may be, of bytes of all sorts.
func texts() []string {
	r := rand.New(rand.NewSource(5))
	list := []string{"P{}", "P{x:b=x*2+1,n:r}", "RM", packed("P{}"), packed(packed(""))}
	for length := 0; length <= api.MaxText; length++ {
		bytes := make([]byte, length)
		r.Read(bytes)
		list = append(list, string(bytes), strings.Repeat("\x00", length), strings.Repeat("\xff", length))
	}
	return list
}

func TestPackAndUnpack(t *testing.T) {
	for _, text := range texts() {
		code, e := Pack(text)
		if code != packed(text) || e != api.OK {
			t.Errorf("P5: Pack(%q) = %x, %d, want %x", text, code, e, packed(text))
		}
		back, e := Unpack(code)
		if back != text || e != api.OK {
			t.Errorf("P5: Unpack(the packing of %q) = %q, %d", text, back, e)
		}
	}
}

func TestPackOfExamples(t *testing.T) {
	for text, want := range map[string]string{
		"":                       "\x52\x4d\x00",
		"P{}":                    "\x52\x4d\x03\x50\x7b\x7d",
		strings.Repeat("x", 127): "RM\x7f" + strings.Repeat("x", 127),
		strings.Repeat("x", 128): "RM\x80\x01" + strings.Repeat("x", 128),
		strings.Repeat("x", 200): "RM\xc8\x01" + strings.Repeat("x", 200),
	} {
		if code, e := Pack(text); code != checked(want) || e != api.OK {
			t.Errorf("P5: Pack(%q) = %x, %d", text, code, e)
		}
	}
}

func TestPackOfLongTexts(t *testing.T) {
	for _, length := range []int{201, 256, 1 << 20} {
		if code, e := Pack(strings.Repeat("x", length)); code != "" || e != api.ErrLong {
			t.Errorf("P5: Pack of %d bytes: %d bytes, %d", length, len(code), e)
		}
	}
}

func refused(t *testing.T, code string, what string) {
	t.Helper()
	if text, e := Unpack(code); text != "" || e != api.ErrCode {
		t.Errorf("P5: Unpack, %s: %q, %d", what, text, e)
	}
}

func TestUnpackOfChangedPackings(t *testing.T) {
	for _, text := range []string{"", "P{}", "\x00", strings.Repeat("x", 127), strings.Repeat("\x80", 128), strings.Repeat("y", 200)} {
		code := packed(text)
		for i := range len(code) {
			refused(t, code[:i], "a beginning")
			refused(t, code[i+1:], "an ending")
			refused(t, code[:i]+"\x00"+code[i:], "a byte put in")
			for bit := range 8 {
				bytes := []byte(code)
				bytes[i] ^= 1 << bit
				refused(t, string(bytes), "a bit turned")
			}
		}
		refused(t, code+"\x00", "a byte behind")
		refused(t, code+code, "two packings")
	}
}

// TestUnpackOfWrongHeads: the check is right, but what stands ahead of the text is not its length as it must be.
func TestUnpackOfWrongHeads(t *testing.T) {
	for _, text := range []string{"", "P{}", strings.Repeat("x", 127), strings.Repeat("x", 128), strings.Repeat("x", 200)} {
		for n := 0; n < 1<<16; n += 1 + n/700 {
			for _, head := range []string{string([]byte{byte(n)}), string([]byte{byte(n), byte(n >> 8)})} {
				code := checked("RM" + head + text)
				back, e := Unpack(code)
				length, digits := binary.Uvarint([]byte(code)[2:])
				end := 2 + digits + int(length)
				right := digits > 0 && length <= 200 && end+4 == len(code) && packed(code[2+digits:end]) == code
				if right != (e == api.OK) || (right && back != code[2+digits:end]) || (!right && (back != "" || e != api.ErrCode)) {
					t.Errorf("P5: Unpack(%x) = %q, %d", code, back, e)
				}
			}
		}
	}
}

func TestUnpackOfWrongBytes(t *testing.T) {
	for what, code := range map[string]string{
		"nothing":                   "",
		"the check of nothing":      checked(""),
		"the mark alone":            checked("RM"),
		"another mark":              checked("RN\x00"),
		"small letters":             checked("rm\x00"),
		"no mark":                   checked("\x03P{}"),
		"a length too small":        checked("RM\x02P{}"),
		"a length too great":        checked("RM\x04P{}"),
		"a digit too many":          checked("RM\x83\x00P{}"),
		"two digits too many":       checked("RM\x83\x80\x00P{}"),
		"a digit too many for 0":    checked("RM\x80\x00"),
		"a digit too many for 200":  checked("RM\xc8\x81\x00" + strings.Repeat("x", 200)),
		"a length without end":      checked("RM" + strings.Repeat("\x80", 12)),
		"a length beyond an int":    checked("RM" + strings.Repeat("\xff", 9) + "\x01"),
		"201 bytes":                 packed(strings.Repeat("x", 201)),
		"300 bytes":                 packed(strings.Repeat("x", 300)),
		"a text too long by far":    packed(strings.Repeat("x", 1<<20)),
		"the check in wrong order":  "RM\x00" + string(binary.BigEndian.AppendUint32(nil, crc32.ChecksumIEEE([]byte("RM\x00")))),
		"the check of the text":     "RM\x03P{}" + checked("P{}")[3:],
		"the check not turned over": "RM\x00" + string(binary.LittleEndian.AppendUint32(nil, ^crc32.ChecksumIEEE([]byte("RM\x00")))),
	} {
		refused(t, code, what)
	}
}

func FuzzUnpack(f *testing.F) {
	f.Add(packed("P{}"))
	f.Fuzz(func(t *testing.T, code string) {
		text, e := Unpack(code)
		if e != api.OK {
			refused(t, code, "anything")
			return
		}
		if packed(text) != code || len(text) > 200 {
			t.Errorf("P5: Unpack(%x) = %q", code, text)
		}
	})
}
