"""All that one house keeps."""

OFFICES = 4
PARTIES = 5
CARRIER = 4


class House:
    """A new house: the present time is 0 and there is nothing."""

    def __init__(self):
        self.now = 0
        # Dicts keep the order in which trips were told and items were posted; runs go by (trip, day).
        self.trips = {}
        self.runs = {}
        self.under_way = []
        self.posted = {}
        self.bins = [[] for office in range(OFFICES)]
        self.trays = [[] for office in range(OFFICES)]
        self.passes = [0] * OFFICES
        self.rounds = [[] for office in range(OFFICES)]
        self.messages = []
        # For each office the numbers of the messages it knows, in the order in which it came to know them.
        self.known = [{} for office in range(OFFICES)]
        self.orders = []
        self.losses = []
        self.cash = [0] * PARTIES
        # debts[p][q] is what p owes q.
        self.debts = [[0] * PARTIES for party in range(PARTIES)]
        self.came_in = 0
        self.went_out = 0
        # Behind each call of the journal what back tells of it. What is refused or only asks changes nothing, so
        # doing the journal's calls anew would come to the same.
        self.journal = []
