package image

// magic is what the bytes of a graph begin with.
const magic = "MDI1"

// A number stands in groups of seven bits, a byte each; the top bit tells that another group follows. Ten groups hold a word.
const (
	wide   = 7
	top    = 1 << wide
	groups = 10
)

// sealed tells the checksum of bytes, its lowest byte first.
func sealed(b []byte) [4]byte {
	sum := uint32(2166136261)
	for _, x := range b {
		sum = (sum ^ uint32(x)) * 16777619
	}
	return [4]byte{byte(sum), byte(sum >> 8), byte(sum >> 16), byte(sum >> 24)}
}
