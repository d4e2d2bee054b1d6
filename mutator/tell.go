package mutator

import (
	"strconv"
	"strings"

	"midden/api"
)

func tellOK(api.Reply) string { return "ok" }

func tellWord(r api.Reply) string { return "word " + strconv.FormatUint(r.Word, 10) }

func tellYes(r api.Reply) string {
	if r.Yes {
		return "yes"
	}
	return "no"
}

func tellNumber(r api.Reply) string { return "number " + strconv.Itoa(r.Num) }

func tellShape(r api.Reply) string { return "shape " + parted(" ", r.Nums...) }

func tellCensus(r api.Reply) string {
	told := "census"
	for _, serials := range r.Census {
		told += " [" + parted(" ", serials...) + "]"
	}
	return told
}

func tellAudit(r api.Reply) string {
	a := r.Audit
	return "audit " + parted(" ", a.Live, a.Floating, a.Young, a.Tenured, a.Fillers, a.Limit)
}

func tellSites(r api.Reply) string {
	told := "sites"
	for _, s := range r.Sites {
		told += " " + parted(":", s.Site, s.Objects, s.Words)
	}
	return told
}

func tellImage(r api.Reply) string { return "image " + strconv.Itoa(len(r.Bytes)) }

func tellPath(r api.Reply) string {
	told := "path"
	for _, serial := range r.Path {
		told += " " + strconv.FormatUint(serial, 10)
	}
	return told
}

// parted tells numbers, none of them below 0, with a mark between them.
func parted[T int | uint64](mark string, numbers ...T) string {
	var told []string
	for _, n := range numbers {
		told = append(told, strconv.FormatUint(uint64(n), 10))
	}
	return strings.Join(told, mark)
}
