package remake_test

import (
	"strings"
	"testing"

	"remake/api"
	"remake/remake"
)

func TestPackAndUnpack(t *testing.T) {
	for text, want := range map[string]string{
		"P{}":                "RM\x03P{}\x45\xb8\x91\xcc",
		"":                   "RM\x00\x84\x12\xae\xd5",
		"no update \x00\xff": "",
	} {
		code, e := remake.Pack(text)
		if e != api.OK || (want != "" && code != want) {
			t.Errorf("P5: Pack(%q) = %x, %d, want %x", text, code, e, want)
		}
		back, e := remake.Unpack(code)
		if back != text || e != api.OK {
			t.Errorf("P5: Unpack(%x) = %q, %d, want %q", code, back, e, text)
		}
		back, e = remake.Unpack(code + "x")
		if back != "" || e != api.ErrCode {
			t.Errorf("P5: Unpack(%x and a byte) = %q, %d", code, back, e)
		}
	}
	code, e := remake.Pack(strings.Repeat("x", 201))
	if code != "" || e != api.ErrLong {
		t.Errorf("P5: Pack of 201 bytes: %x, %d", code, e)
	}
}
