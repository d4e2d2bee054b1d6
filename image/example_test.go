package image_test

import (
	"encoding/hex"
	"strings"
	"testing"

	"midden/api"
	"midden/image"
)

// typed tells bytes that are written as the chapter writes them.
func typed(t *testing.T, text string) []byte {
	t.Helper()
	b, err := hex.DecodeString(strings.ReplaceAll(text, " ", ""))
	if err != nil {
		t.Fatal(err)
	}
	return b
}

// TestExamplesWritten: the first two, there and back.
func TestExamplesWritten(t *testing.T) {
	for _, x := range []struct {
		g    api.Graph
		text string
	}{
		{empty(), "4D 44 49 31 01 00 01 00 00 00"},
		{itself(), "4D 44 49 31 04 01 03 01 07 01 01 00 01 01 01 01 01 00 00"},
	} {
		is := whole(typed(t, x.text))
		b, e := image.Write(x.g)
		want(t, "P16.2: the example", b, is)
		want(t, "P16.3: the example", e, api.OK)
		reads(t, "P16.4: the example", is, x.g)
	}
}

// TestExamplesRefused: the third.
func TestExamplesRefused(t *testing.T) {
	refuses(t, "P16.4: the example", typed(t, "4D 44 49"), 3, api.ErrImageShort)
	refuses(t, "P16.4: the example", typed(t, "4D 44 49 32"), 0, api.ErrImageForm)
	refuses(t, "P16.4: the example", typed(t, "4D 44 49 31 80 00"), 4, api.ErrImageForm)
}
