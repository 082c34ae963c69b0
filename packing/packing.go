// Package packing: texts as bytes with a check (P5).
package packing

import "remake/api"

const (
	mark    = "RM"
	base    = 128
	tail    = 4 // bytes of the CRC-32
	divisor = 0xedb88320
)

// Pack writes a text as bytes.
func Pack(text string) (string, api.Errno) {
	if len(text) > api.MaxText {
		return "", api.ErrLong
	}
	code := []byte(mark)
	length := digits(len(text))
	code = append(code, length...)
	code = append(code, text...)
	sum := crc(code)
	for i := 0; i < tail; i++ {
		code = append(code, byte(sum))
		sum >>= 8
	}
	return string(code), api.OK
}

// Unpack tells the text whose packing the bytes are. It packs anew what may be
// that text: so no two ways of writing a packing can both be taken for one.
func Unpack(code string) (string, api.Errno) {
	longest := digits(api.MaxText)
	for count := 1; count <= len(longest); count++ {
		head := len(mark) + count
		if len(code) < head+tail {
			break
		}
		text := code[head : len(code)-tail]
		again, e := Pack(text)
		if e == api.OK && again == code {
			return text, api.OK
		}
	}
	return "", api.ErrCode
}

// digits writes a length as a varint.
func digits(n int) []byte {
	var list []byte
	for n >= base {
		list = append(list, byte(n%base+base))
		n /= base
	}
	return append(list, byte(n))
}

// crc reckons the CRC-32.
func crc(code []byte) uint32 {
	sum := ^uint32(0)
	for _, b := range code {
		sum ^= uint32(b)
		for bit := 0; bit < 8; bit++ {
			odd := sum%2 == 1
			sum /= 2
			if odd {
				sum ^= divisor
			}
		}
	}
	return ^sum
}
