package codec

import "kiosk/api"

// A frame is a length and a checksum, a word each, and the payload.
const (
	wordSize = 4
	headSize = 2 * wordSize
)

// steps is what four steps of the register do with its lowest four bits: a table for all eight would be too long.
var steps = [16]uint32{
	0x00000000, 0x105EC76F, 0x20BD8EDE, 0x30E349B1,
	0x417B1DBC, 0x5125DAD3, 0x61C69362, 0x7198540D,
	0x82F63B78, 0x92A8FC17, 0xA24BB5A6, 0xB21572C9,
	0xC38D26C4, 0xD3D3E1AB, 0xE330A81A, 0xF36E6F75,
}

// Crc is the CRC-32C checksum of s.
func Crc(s string) uint32 {
	r := ^uint32(0)
	for i := range len(s) {
		r ^= uint32(s[i])
		r = r>>4 ^ steps[r&15]
		r = r>>4 ^ steps[r&15]
	}
	return ^r
}

func word(n uint32) string {
	return string([]byte{byte(n >> 24), byte(n >> 16), byte(n >> 8), byte(n)})
}

// toWord reads the word at the beginning of s, which has one.
func toWord(s string) uint32 {
	return uint32(s[0])<<24 | uint32(s[1])<<16 | uint32(s[2])<<8 | uint32(s[3])
}

// Frame puts a length and a checksum ahead of a payload, Unframe takes them off.
func Frame(s string) (string, api.Errno) {
	if len(s) > api.MaxFrame {
		return "", api.ErrLong
	}
	size := word(uint32(len(s)))
	return size + word(Crc(size+s)) + s, api.OK
}

func Unframe(s string) (string, int, api.Errno) {
	if len(s) < wordSize {
		return "", 0, api.ErrForm
	}
	size := toWord(s)
	if size > api.MaxFrame {
		return "", 0, api.ErrLong
	}
	end := headSize + int(size)
	if len(s) < end {
		return "", 0, api.ErrForm
	}
	payload := s[headSize:end]
	if Crc(s[:wordSize]+payload) != toWord(s[wordSize:]) {
		return "", 0, api.ErrSum
	}
	return payload, end, api.OK
}
